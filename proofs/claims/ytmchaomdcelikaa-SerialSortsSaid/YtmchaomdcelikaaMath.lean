/- Mathematics of sorted rows of numbers that go round. No conditions. -/
import Derived.Test.YtmchaomdcelikaaFar
import Derived.Lib.SlicesCompact
namespace Go.Proofs.Ytmchaomdcelikaa

theorem sorted_unique : ∀ (xs ys : List Int), xs.Pairwise (· < ·) → ys.Pairwise (· < ·) → (∀ x, x ∈ xs ↔ x ∈ ys) → xs = ys := by
  intro xs
  induction xs with
  | nil =>
    intro ys _ _ h
    cases ys with
    | nil => rfl
    | cons y ys => have := (h y).2 (by simp); simp at this
  | cons x xs ih =>
    intro ys hx hy h
    cases ys with
    | nil => have := (h x).1 (by simp); simp at this
    | cons y ys =>
      rw [List.pairwise_cons] at hx hy
      have hxy : x = y := by
        have h1 := (h x).1 (by simp)
        have h2 := (h y).2 (by simp)
        rcases List.mem_cons.1 h1 with h1 | h1
        · exact h1
        · rcases List.mem_cons.1 h2 with h2 | h2
          · exact h2.symm
          · have := hx.1 _ h2; have := hy.1 _ h1; omega
      subst hxy
      rw [ih ys hx.2 hy.2 fun z => ?_]
      constructor
      · intro hz
        rcases List.mem_cons.1 ((h z).1 (List.mem_cons_of_mem _ hz)) with e | e
        · have := hx.1 _ hz; omega
        · exact e
      · intro hz
        rcases List.mem_cons.1 ((h z).2 (List.mem_cons_of_mem _ hz)) with e | e
        · have := hy.1 _ hz; omega
        · exact e

theorem getBang (zs : List Int) (i : Nat) (h : i < zs.length) : zs.toArray[i]! = zs[i] := by simp [h]

theorem compact_lt (zs : List Int) (h : zs.Pairwise (· ≤ ·)) : (Lib.compact zs).Pairwise (· < ·) := by
  unfold Lib.compact Lib.compactUpTo
  rw [List.pairwise_map]
  have hr : (List.range zs.length).Pairwise (· < ·) := List.pairwise_lt_range
  have hf := List.Pairwise.filter (Lib.keeps zs.toArray) hr
  refine List.Pairwise.imp_of_mem ?_ hf
  intro i j hi hj hij
  obtain ⟨hi1, -⟩ := List.mem_filter.1 hi
  obtain ⟨hj1, hj2⟩ := List.mem_filter.1 hj
  have hi' : i < zs.length := List.mem_range.1 hi1
  have hj' : j < zs.length := List.mem_range.1 hj1
  simp only [Lib.keeps, decide_eq_true_eq] at hj2
  have h2 : zs.toArray[j]! ≠ zs.toArray[j - 1]! := by
    rcases hj2 with h | h
    · omega
    · exact h
  rw [getBang _ _ hi', getBang _ _ hj'] at *
  rw [getBang _ _ (by omega)] at h2
  have h3 : zs[j - 1]'(by omega) ≤ zs[j] := List.pairwise_iff_getElem.1 h _ _ (by omega) hj' (by omega)
  have h4 : zs[i] ≤ zs[j - 1]'(by omega) := by
    rcases Nat.lt_or_ge i (j - 1) with h | h
    · exact List.pairwise_iff_getElem.1 ‹_› _ _ hi' (by omega) h
    · have : i = j - 1 := by omega
      subst this; exact Int.le_refl _
  omega

theorem compact_mem (zs : List Int) (x : Int) : x ∈ Lib.compact zs ↔ x ∈ zs := by
  unfold Lib.compact Lib.compactUpTo
  simp only [List.mem_map, List.mem_filter, List.mem_range]
  constructor
  · rintro ⟨i, ⟨hi, -⟩, rfl⟩
    rw [getBang _ _ hi]; exact List.getElem_mem hi
  · intro hx
    obtain ⟨j, hj, rfl⟩ := List.getElem_of_mem hx
    have key : ∀ (j : Nat) (hj : j < zs.length), ∃ i, (i < zs.length ∧ Lib.keeps zs.toArray i = true) ∧ zs.toArray[i]! = zs[j] := by
      intro j
      induction j with
      | zero => intro hj; exact ⟨0, ⟨hj, by simp [Lib.keeps]⟩, getBang _ _ hj⟩
      | succ j ih =>
        intro hj
        by_cases he : zs.toArray[j + 1]! = zs.toArray[j]!
        · obtain ⟨i, h1, h2⟩ := ih (by omega)
          refine ⟨i, h1, ?_⟩
          rw [getBang _ _ hj, getBang _ _ (by omega)] at he
          rw [h2, he]
        · exact ⟨j + 1, ⟨hj, Lib.keeps_pos he⟩, getBang _ _ hj⟩
    exact key j hj

theorem far_left (f a : Int) : (f + far f a) % 65536 = left a := by unfold far left; omega
theorem far_back (f d : Int) (h0 : 0 ≤ d) (h1 : d < 65536) : far f ((f + d) % 65536) = d := by unfold far; omega
theorem far_left' (f a : Int) : far f (left a) = far f a := by unfold far left; omega

/-- What the program's Sort answers. -/
def dists (f : Int) (xs : List Int) : List Int := Lib.compact ((xs.map (far f)).mergeSort fun x y => decide (x ≤ y))
def srt (f : Int) (xs : List Int) : List Int := (dists f xs).map fun d => (f + d) % 65536

theorem merge_sorted (zs : List Int) : (zs.mergeSort fun x y => decide (x ≤ y)).Pairwise (· ≤ ·) := by
  have := List.pairwise_mergeSort (le := fun (x y : Int) => decide (x ≤ y)) (by intro a b c; simp; omega) (by intro a b; simp; omega) zs
  exact this.imp (by intro a b h; simpa using h)
theorem dists_lt (f : Int) (xs : List Int) : (dists f xs).Pairwise (· < ·) := compact_lt _ (merge_sorted _)
theorem dists_mem (f : Int) (xs : List Int) (d : Int) : d ∈ dists f xs ↔ ∃ a ∈ xs, far f a = d := by
  unfold dists
  rw [compact_mem, List.mem_mergeSort, List.mem_map]
theorem dists_bd (f : Int) (xs : List Int) (d : Int) (h : d ∈ dists f xs) : 0 ≤ d ∧ d < 65536 := by
  obtain ⟨a, _, rfl⟩ := (dists_mem f xs d).1 h
  exact far_bd f a
theorem dists_len (f : Int) (xs : List Int) : (dists f xs).length ≤ xs.length := by
  unfold dists
  unfold Lib.compact Lib.compactUpTo
  rw [List.length_map]
  exact Nat.le_trans (List.length_filter_le _ _) (by simp)
theorem srt_len (f : Int) (xs : List Int) : (srt f xs).length ≤ xs.length := by unfold srt; simpa using dists_len f xs
theorem srt_dists (f : Int) (xs : List Int) : (srt f xs).map (far f) = dists f xs := by
  unfold srt
  rw [List.map_map]
  conv => rhs; rw [← List.map_id (dists f xs)]
  apply List.map_congr_left
  intro d hd
  exact far_back f d (dists_bd f xs d hd).1 (dists_bd f xs d hd).2
theorem srt_mem (f : Int) (xs : List Int) (x : Int) : x ∈ srt f xs ↔ ∃ a ∈ xs, left a = x := by
  unfold srt
  rw [List.mem_map]
  constructor
  · rintro ⟨d, hd, rfl⟩
    obtain ⟨a, ha, rfl⟩ := (dists_mem f xs d).1 hd
    exact ⟨a, ha, (far_left f a).symm⟩
  · rintro ⟨a, ha, rfl⟩
    exact ⟨far f a, (dists_mem f xs _).2 ⟨a, ha, rfl⟩, far_left f a⟩

/-- A row of numbers, the nearer one ahead. -/
def Nice (f : Int) (ys : List Int) : Prop := (ys.map (far f)).Pairwise (· < ·) ∧ ∀ y ∈ ys, 0 ≤ y ∧ y < 65536
theorem srt_nice (f : Int) (xs : List Int) : Nice f (srt f xs) := by
  refine ⟨by rw [srt_dists]; exact dists_lt f xs, fun y hy => ?_⟩
  obtain ⟨a, _, rfl⟩ := (srt_mem f xs y).1 hy
  exact left_bd a
theorem nice_srt (f : Int) (xs ys : List Int) (h : Nice f ys) (hm : ∀ x, x ∈ ys ↔ ∃ a ∈ xs, left a = x) : ys = srt f xs := by
  have e : ys.map (far f) = dists f xs := by
    apply sorted_unique _ _ h.1 (dists_lt f xs)
    intro d
    rw [dists_mem, List.mem_map]
    constructor
    · rintro ⟨y, hy, rfl⟩
      obtain ⟨a, ha, rfl⟩ := (hm y).1 hy
      exact ⟨a, ha, (far_left' f a).symm⟩
    · rintro ⟨a, ha, rfl⟩
      exact ⟨left a, (hm _).2 ⟨a, ha, rfl⟩, far_left' f a⟩
  unfold srt
  rw [← e, List.map_map]
  conv => lhs; rw [← List.map_id ys]
  apply List.map_congr_left
  intro y hy
  have := h.2 y hy
  have e2 := far_left f y
  simp only [Function.comp, id]
  rw [e2]; unfold left; omega

/-- Sorted again it is the same. -/
theorem srt_srt (f : Int) (xs : List Int) : srt f (srt f xs) = srt f xs := by
  symm
  apply nice_srt _ _ _ (srt_nice f xs)
  intro x
  constructor
  · intro hx
    refine ⟨x, hx, ?_⟩
    have := (srt_nice f xs).2 x hx
    unfold left; omega
  · rintro ⟨a, ha, rfl⟩
    have := (srt_nice f xs).2 a ha
    have e : left a = a := by unfold left; omega
    rw [e]; exact ha

/-- The reference's Sort: one step of its inner loop, a whole one, all. -/
def stepI (f n : Int) (p : List Int × Bool) (y : Int) : List Int × Bool :=
  let q : List Int × Bool := if !p.2 && decide (far f n ≤ far f y) then (p.1 ++ [n], true) else p
  (if y = n then q.1 else q.1 ++ [y], q.2)
def fin (n : Int) (p : List Int × Bool) : List Int := if p.2 then p.1 else p.1 ++ [n]
def insF (f n : Int) (out : List Int) : List Int := fin n (out.foldl (stepI f n) ([], false))
def rsrt (f : Int) (xs : List Int) : List Int := xs.foldl (fun out a => insF f (left a) out) []

def ins (f n : Int) : List Int → List Int
  | [] => [n]
  | y :: ys => if far f n ≤ far f y then n :: (y :: ys).filter (· != n) else (if y = n then ins f n ys else y :: ins f n ys)
theorem fold_true (f n : Int) (ys m : List Int) : ys.foldl (stepI f n) (m, true) = (m ++ ys.filter (· != n), true) := by
  induction ys generalizing m with
  | nil => simp
  | cons y ys ih =>
    rw [List.foldl_cons]
    have : stepI f n (m, true) y = (if y = n then m else m ++ [y], true) := by simp [stepI]
    rw [this, ih]
    by_cases h : y = n <;> simp [h]
theorem fold_ins (f n : Int) (ys m : List Int) : fin n (ys.foldl (stepI f n) (m, false)) = m ++ ins f n ys := by
  induction ys generalizing m with
  | nil => simp [fin, ins]
  | cons y ys ih =>
    rw [List.foldl_cons]
    by_cases h : far f n ≤ far f y
    · have : stepI f n (m, false) y = (if y = n then m ++ [n] else m ++ [n] ++ [y], true) := by simp [stepI, h]
      rw [this, fold_true]
      by_cases h' : y = n <;> simp [fin, ins, h, h']
    · have : stepI f n (m, false) y = (if y = n then m else m ++ [y], false) := by simp [stepI, h]
      rw [this, ih]
      by_cases h' : y = n
      · subst h'; exact absurd (Int.le_refl _) h
      · simp [ins, h, h']
theorem insF_ins (f n : Int) (ys : List Int) : insF f n ys = ins f n ys := by unfold insF; rw [fold_ins]; simp

theorem far_inj {f x y : Int} (hx : 0 ≤ x ∧ x < 65536) (hy : 0 ≤ y ∧ y < 65536) (h : far f x = far f y) : x = y := by unfold far at h; omega

theorem ins_mem (f n : Int) (ys : List Int) (x : Int) : x ∈ ins f n ys ↔ x = n ∨ x ∈ ys := by
  induction ys with
  | nil => simp [ins]
  | cons y ys ih =>
    unfold ins
    split
    · simp only [List.mem_cons, List.mem_filter, bne_iff_ne]
      constructor
      · rintro (h | ⟨h, _⟩)
        · exact .inl h
        · exact .inr h
      · rintro (h | h)
        · exact .inl h
        · by_cases e : x = n
          · exact .inl e
          · exact .inr ⟨h, e⟩
    · split
      · rename_i e; subst e; rw [ih]; simp
      · rw [List.mem_cons, ih, List.mem_cons]
        constructor
        · rintro (h | h | h)
          · exact .inr (.inl h)
          · exact .inl h
          · exact .inr (.inr h)
        · rintro (h | h | h)
          · exact .inr (.inl h)
          · exact .inl h
          · exact .inr (.inr h)

theorem nice_cons {f y : Int} {ys : List Int} : Nice f (y :: ys) ↔ (0 ≤ y ∧ y < 65536) ∧ (∀ z ∈ ys, far f y < far f z) ∧ Nice f ys := by
  unfold Nice
  rw [List.map_cons, List.pairwise_cons]
  simp only [List.mem_map, List.mem_cons]
  constructor
  · rintro ⟨⟨h1, h2⟩, h3⟩
    exact ⟨h3 y (.inl rfl), fun z hz => h1 _ ⟨z, hz, rfl⟩, h2, fun z hz => h3 z (.inr hz)⟩
  · rintro ⟨h1, h2, h3, h4⟩
    refine ⟨⟨?_, h3⟩, ?_⟩
    · rintro d ⟨z, hz, rfl⟩; exact h2 z hz
    · rintro z (rfl | hz)
      · exact h1
      · exact h4 z hz
theorem nice_filter {f : Int} {ys : List Int} (p : Int → Bool) (h : Nice f ys) : Nice f (ys.filter p) := by
  induction ys with
  | nil => exact h
  | cons y ys ih =>
    obtain ⟨h1, h2, h3⟩ := nice_cons.1 h
    rw [List.filter_cons]
    split
    · exact nice_cons.2 ⟨h1, fun z hz => h2 z (List.mem_filter.1 hz).1, ih h3⟩
    · exact ih h3

theorem ins_nice (f n : Int) (ys : List Int) (hn : 0 ≤ n ∧ n < 65536) (h : Nice f ys) : Nice f (ins f n ys) := by
  induction ys with
  | nil => exact ⟨by simp [ins], by simpa [ins] using hn⟩
  | cons y ys ih =>
    obtain ⟨h1, h2, h3⟩ := nice_cons.1 h
    unfold ins
    split
    · rename_i hle
      refine nice_cons.2 ⟨hn, fun z hz => ?_, nice_filter _ h⟩
      obtain ⟨hz1, hz2⟩ := List.mem_filter.1 hz
      have hzn : z ≠ n := by simpa using hz2
      rcases List.mem_cons.1 hz1 with e | e
      · subst e
        rcases Int.lt_or_eq_of_le hle with h' | h'
        · exact h'
        · exact absurd (far_inj hn h1 h').symm hzn
      · have := h2 z e; omega
    · rename_i hle
      split
      · exact ih h3
      · refine nice_cons.2 ⟨h1, fun z hz => ?_, ih h3⟩
        rcases (ins_mem f n ys z).1 hz with e | e
        · subst e; omega
        · exact h2 z e

theorem rsrt_inv (f : Int) (xs out : List Int) (h : Nice f out) : Nice f (xs.foldl (fun out a => insF f (left a) out) out) ∧ ∀ x, x ∈ xs.foldl (fun out a => insF f (left a) out) out ↔ x ∈ out ∨ ∃ a ∈ xs, left a = x := by
  induction xs generalizing out with
  | nil => exact ⟨h, by simp⟩
  | cons a xs ih =>
    rw [List.foldl_cons, insF_ins]
    obtain ⟨h1, h2⟩ := ih _ (ins_nice f (left a) out (left_bd a) h)
    refine ⟨h1, fun x => ?_⟩
    rw [h2, ins_mem]
    simp only [List.mem_cons]
    constructor
    · rintro ((e | e) | ⟨b, hb, e⟩)
      · exact .inr ⟨a, .inl rfl, e.symm⟩
      · exact .inl e
      · exact .inr ⟨b, .inr hb, e⟩
    · rintro (e | ⟨b, rfl | hb, e⟩)
      · exact .inl (.inr e)
      · exact .inl (.inl e.symm)
      · exact .inr ⟨b, hb, e⟩
theorem rsrt_srt (f : Int) (xs : List Int) : rsrt f xs = srt f xs := by
  obtain ⟨h1, h2⟩ := rsrt_inv f xs [] ⟨by simp, by simp⟩
  exact nice_srt f xs _ h1 fun x => by unfold rsrt; rw [h2]; simp
theorem rsrt_snoc (f : Int) (xs : List Int) (k : Nat) (h : k < xs.length) : rsrt f (xs.take (k + 1)) = insF f (left (xs.getD k 0)) (rsrt f (xs.take k)) := by
  unfold rsrt
  rw [List.take_succ_eq_append_getElem h, List.foldl_append]
  simp [List.getD, h]
theorem rsrt_len (f : Int) (xs : List Int) : (rsrt f xs).length ≤ xs.length := by rw [rsrt_srt]; exact srt_len f xs

theorem ex_srt : srt 65534 [2, 65535, 0, 2] = [65535, 0, 2] := by
  symm
  apply nice_srt
  · refine ⟨by decide, by decide⟩
  · intro x
    simp only [List.mem_cons, List.not_mem_nil, or_false]
    constructor
    · rintro (rfl | rfl | rfl)
      · exact ⟨65535, .inr (.inl rfl), by decide⟩
      · exact ⟨0, .inr (.inr (.inl rfl)), by decide⟩
      · exact ⟨2, .inl rfl, by decide⟩
    · rintro ⟨a, (rfl | rfl | rfl | rfl), rfl⟩
      · exact .inr (.inr (by decide))
      · exact .inl (by decide)
      · exact .inr (.inl (by decide))
      · exact .inr (.inr (by decide))
#print axioms ex_srt
#print axioms rsrt_srt
end Go.Proofs.Ytmchaomdcelikaa
