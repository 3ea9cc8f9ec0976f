/- What the program's views are asked to answer; the reference's answers in the same form; the law's examples. The law's examples. Mathematics of views: set, got, dropped. No walks. Mathematics of views: which are lower, which higher, which the lowest. No walks. Rows of views as arguments. No conditions. The order in which views are listed is that of a stable sort. No walks. -/
import Derived.Test.YtmimgpnogjgliaaVa
import Derived.Test.YtmimgpnogjgliaaVrw
import Derived.Test.YtmimgpnogjgliaaOfm
import Derived.Test.YtmimgpnogjgliaaStm
namespace Go.Proofs.Ytmimgpnogjgliaa
set_option maxRecDepth 100000
open Go.RowKit

def chkV (l : List Vw) : Int := if VOk l then 0 else 1
theorem Zs_low {w w' : World} {v : Value} {xs : List Int} (h : Zs w v xs) (hb : Below w.heap.size w w') : Zs w' v xs := by
  obtain ⟨h0, h | ⟨b, off, cap, h1, h2, h3⟩⟩ := h
  · exact ⟨h0, .inl h⟩
  · exact ⟨h0, .inr ⟨b, off, cap, h1, h2, fun i hi => (hb.cell (p := ⟨b, off + i, none⟩) (World.block_lt_of_cell? w _ (h3 i hi))).trans (h3 i hi)⟩⟩
theorem Zs_form {w : World} {v : Value} {xs : List Int} (h : Zs w v xs) : ∃ a c, v = .slice a xs.length c := by
  obtain ⟨h0, ⟨a, cap, h1, h2, rfl⟩ | ⟨b, off, cap, h1, h2, h3⟩⟩ := h
  · exact ⟨a, cap, h1⟩
  · exact ⟨_, _, h1⟩
theorem bel_len (l : List Vw) (own : Hx) : (belV l own).length ≤ l.length := by
  unfold belV
  rw [List.length_map]
  have h1 := vord_len (belF l own) _ (Nat.le_refl _)
  rw [List.take_length] at h1
  rw [h1]
  exact belF_le l own
theorem abo_len (l : List Vw) (own : Hx) : (aboV l own).length ≤ l.length := by
  unfold aboV
  rw [List.length_map]
  have h1 := vord_len (aboF l own) _ (Nat.le_refl _)
  rw [List.take_length] at h1
  rw [h1]
  exact aboF_le l own
def aw1 : Vw := (1, (false, 0, 0, 0, 2, 1))
def aw3 : Vw := (3, (false, 0, 0, 0, 1, 3))
def aw5 : Vw := (5, (true, 0, 0, 0, 0, 5))
def aw4 : Vw := (4, (false, 0, 0, 0, 0, 4))
theorem aw_set : setE [aw1, aw3, aw5] 4 aw4.2 = 0 ∧ setL [aw1, aw3, aw5] 4 aw4.2 = [aw1, aw3, aw4, aw5] := by
  have h1 : VOk [aw1, aw3, aw5] ∧ VOk (rawS 4 aw4.2 [aw1, aw3, aw5]) := by decide
  unfold setE setL
  rw [if_pos h1, if_pos h1]
  exact ⟨rfl, by decide⟩
theorem aw_low : lowF [aw1, aw3, aw4, aw5] = (aw4, true) := by decide
theorem aw_bel : belV [aw1, aw3, aw5] (false, 0, 0, 0, 3, 4) = [3, 1] := by decide
def awC : Array Value := #[.int .i64 1, .bool false, .int .i64 0, .int .i64 0, .int .i64 0, .int .i64 2, .int .i64 1, .int .i64 3, .bool false, .int .i64 0, .int .i64 0, .int .i64 0, .int .i64 1, .int .i64 3, .int .i64 5, .bool true, .int .i64 0, .int .i64 0, .int .i64 0, .int .i64 0, .int .i64 5]
theorem vs_aw (w : World) : Vs (w.alloc (.cells awC 43)) (.slice (some ⟨w.heap.size, 0, none⟩) 3 3) [aw1, aw3, aw5] := by
  refine Or.inr ⟨w.heap.size, 0, 3, rfl, Nat.le_refl _, by simp, fun i hi => ?_⟩
  match i, hi with
  | 0, _ => exact seven_gc (by refine ⟨?_, ?_, ?_, ?_, ?_, ?_, ?_⟩ <;> simp [awC] <;> rfl)
  | 1, _ => exact seven_gc (by refine ⟨?_, ?_, ?_, ?_, ?_, ?_, ?_⟩ <;> simp [awC] <;> rfl)
  | 2, _ => exact seven_gc (by refine ⟨?_, ?_, ?_, ?_, ?_, ?_, ?_⟩ <;> simp [awC] <;> rfl)
end Go.Proofs.Ytmimgpnogjgliaa

namespace Go.Proofs.Ytmimgpnogjgliaa
set_option maxRecDepth 100000
open Go.RowKit

theorem ints_yes {v u : Value} {xs : List Int} {w : World} (hv : Zs w v xs) (hu : Zs w u xs) : Calls Try.prog 13 #[v, u] w fun e w' => e = .returned (.bool true) ∧ Below w.heap.size w w' :=
  (ints_any v u xs xs w hv hu).mono fun e w' h => ⟨by rw [h.1, decide_eq_true rfl], h.2⟩
theorem vsame_yes {v u : Value} {xs : List Vw} {w : World} (hv : Vs w v xs) (hu : Vs w u xs) (hl : xs.length ≤ 3000) : Calls Try.prog 22 #[v, u] w fun e w' => e = .returned (.bool true) ∧ Below w.heap.size w w' :=
  (rvsame_any v u xs xs w hv hu hl).mono fun e w' h => ⟨by rw [h.1, decide_eq_true rfl], h.2⟩
theorem zs_31 (w : World) : Zs (w.alloc (.cells #[.int .i64 3, .int .i64 1] 3)) (.slice (some ⟨w.heap.size, 0, none⟩) 2 2) [3, 1] := by
  refine ⟨by decide, .inr ⟨w.heap.size, 0, 2, rfl, by decide, fun i hi => ?_⟩⟩
  match i, hi with
  | 0, _ => simp
  | 1, _ => simp
end Go.Proofs.Ytmimgpnogjgliaa

namespace Go.Proofs.Ytmimgpnogjgliaa
set_option maxRecDepth 100000

/-- A view that is right by itself; views whose Ids rise. -/
def vOk1 (y : Vw) : Prop := NodeOk y.1 ∧ hOk y.2 ∧ y.2.2.2.2.2.2 = y.1
def Rise (l : List Vw) : Prop := l.Pairwise (fun a b => a.1 < b.1)
theorem getD_mem {l : List Vw} {i : Nat} (h : i < l.length) : l.getD i zVw ∈ l := by simp [List.getD, h]
theorem vok_iff (l : List Vw) : VOk l ↔ Rise l ∧ ∀ y ∈ l, vOk1 y := by
  constructor
  · intro h
    have hr : ∀ j, j < l.length → ∀ i, i < j → (l.getD i zVw).1 < (l.getD j zVw).1 := by
      intro j
      induction j with
      | zero => intro _ i hi; omega
      | succ j ih =>
        intro hj i hi
        have h1 := (h (j + 1) hj).2.1 (Nat.succ_pos _)
        rw [Nat.add_sub_cancel] at h1
        rcases Nat.lt_or_ge i j with h2 | h2
        · exact Int.lt_trans (ih (by omega) i h2) h1
        · obtain rfl : i = j := by omega
          exact h1
    refine ⟨List.pairwise_iff_getElem.2 fun i j hi hj hij => ?_, fun y hy => ?_⟩
    · have := hr j hj i hij
      simpa [List.getD, hi, hj] using this
    · obtain ⟨i, hi, rfl⟩ := List.mem_iff_getElem.1 hy
      have h1 := h i hi
      have e : l.getD i zVw = l[i] := by simp [List.getD, hi]
      unfold VwAt at h1
      rw [e] at h1
      exact ⟨h1.1, h1.2.2.1, h1.2.2.2⟩
  · rintro ⟨h1, h2⟩ i hi
    obtain ⟨a1, a2, a3⟩ := h2 _ (getD_mem hi)
    refine ⟨a1, fun h0 => ?_, a2, a3⟩
    have h3 := List.pairwise_iff_getElem.1 h1 (i - 1) i (by omega) hi (by omega)
    have e1 : l.getD i zVw = l[i] := by simp [List.getD, hi]
    have e2 : l.getD (i - 1) zVw = l[i - 1] := by simp [List.getD, show i - 1 < l.length by omega]
    rw [e1, e2]
    exact h3
theorem rise_nd {l : List Vw} (h : Rise l) : l.Nodup := List.Pairwise.imp (fun h e => by rw [e] at h; exact absurd h (Int.lt_irrefl _)) h
theorem rise_key {l : List Vw} (h : Rise l) {y z : Vw} (hy : y ∈ l) (hz : z ∈ l) (e : y.1 = z.1) : y = z := by
  obtain ⟨i, hi, rfl⟩ := List.mem_iff_getElem.1 hy
  obtain ⟨j, hj, rfl⟩ := List.mem_iff_getElem.1 hz
  rcases Nat.lt_trichotomy i j with h1 | h1 | h1
  · have := List.pairwise_iff_getElem.1 h i j hi hj h1
    omega
  · subst h1; rfl
  · have := List.pairwise_iff_getElem.1 h j i hj hi h1
    omega
theorem rise_ext {l l' : List Vw} (h : Rise l) (h' : Rise l') (hm : ∀ y, y ∈ l ↔ y ∈ l') : l = l' :=
  ((List.perm_ext_iff_of_nodup (rise_nd h) (rise_nd h')).2 hm).eq_of_pairwise (fun a b _ _ h1 h2 => by omega) h h'
/-- What is set, from the front. -/
def setQ (id : Int) (h : Hx) : List Vw → List Vw
  | [] => [(id, h)]
  | y :: r => if id ≤ y.1 then (id, h) :: dropF (y :: r) id else y :: setQ id h r
theorem sts_done (id : Int) (h : Hx) (l xs : List Vw) : l.foldl (stS id h) (xs, true) = (xs ++ dropF l id, true) := by
  induction l generalizing xs with
  | nil => unfold dropF; simp
  | cons y r ih =>
    rw [List.foldl_cons]
    have e1 : st1 id h (xs, true) y = (xs, true) := by unfold st1; rw [if_neg (fun h => by cases h.1)]
    unfold stS
    rw [e1]
    by_cases hy : y.1 = id
    · have e2 : st2 id (xs, true) y = (xs, true) := by unfold st2; rw [if_pos hy]
      rw [e2]
      have := ih xs
      unfold stS at this
      rw [this]
      unfold dropF
      rw [List.filter_cons_of_neg (by simp [isId, hy])]
    · have e2 : st2 id (xs, true) y = (xs ++ [y], true) := by unfold st2; rw [if_neg hy]
      rw [e2]
      have := ih (xs ++ [y])
      unfold stS at this
      rw [this]
      unfold dropF
      rw [List.filter_cons_of_pos (by simp [isId, hy]), List.append_assoc]
      rfl
theorem sts_go (id : Int) (h : Hx) (l xs : List Vw) : rawF id h (l.foldl (stS id h) (xs, false)) = xs ++ setQ id h l := by
  induction l generalizing xs with
  | nil =>
    unfold rawF
    rw [List.foldl_nil, if_neg (by simp)]
    rfl
  | cons y r ih =>
    rw [List.foldl_cons]
    by_cases hp : id ≤ y.1
    · have e1 : st1 id h (xs, false) y = (xs ++ [(id, h)], true) := by unfold st1; rw [if_pos ⟨rfl, hp⟩]
      have e3 : stS id h (xs, false) y = stS id h (xs ++ [(id, h)], true) y := by
        have e4 : st1 id h (xs ++ [(id, h)], true) y = (xs ++ [(id, h)], true) := by unfold st1; rw [if_neg (fun h => by cases h.1)]
        unfold stS
        rw [e1, e4]
      rw [e3, ← List.foldl_cons, sts_done]
      unfold rawF
      rw [if_pos rfl, List.append_assoc]
      show _ = xs ++ (if id ≤ y.1 then (id, h) :: dropF (y :: r) id else y :: setQ id h r)
      rw [if_pos hp]
      rfl
    · have e1 : st1 id h (xs, false) y = (xs, false) := by unfold st1; rw [if_neg (fun h => hp h.2)]
      have e2 : stS id h (xs, false) y = (xs ++ [y], false) := by
        unfold stS
        rw [e1]
        unfold st2
        rw [if_neg (by omega)]
      rw [e2, ih]
      show _ = xs ++ (if id ≤ y.1 then (id, h) :: dropF (y :: r) id else y :: setQ id h r)
      rw [if_neg hp, List.append_assoc]
      rfl
theorem raw_eq (id : Int) (h : Hx) (l : List Vw) : rawS id h l = setQ id h l := sts_go id h l []
theorem mem_drop {l : List Vw} {id : Int} {y : Vw} : y ∈ dropF l id ↔ y ∈ l ∧ y.1 ≠ id := by
  unfold dropF
  rw [List.mem_filter]
  simp [isId]
theorem mem_setQ {id : Int} {h : Hx} {l : List Vw} {y : Vw} : y ∈ setQ id h l ↔ y = (id, h) ∨ (y ∈ l ∧ y.1 ≠ id) := by
  induction l with
  | nil => simp [setQ]
  | cons z r ih =>
    show y ∈ (if id ≤ z.1 then (id, h) :: dropF (z :: r) id else z :: setQ id h r) ↔ _
    by_cases hp : id ≤ z.1
    · rw [if_pos hp, List.mem_cons, mem_drop]
    · rw [if_neg hp, List.mem_cons, ih, List.mem_cons]
      constructor
      · rintro (rfl | h1 | h1)
        · exact .inr ⟨.inl rfl, by omega⟩
        · exact .inl h1
        · exact .inr ⟨.inr h1.1, h1.2⟩
      · rintro (h1 | ⟨rfl | h1, h2⟩)
        · exact .inr (.inl h1)
        · exact .inl rfl
        · exact .inr (.inr ⟨h1, h2⟩)
theorem rise_drop {l : List Vw} (h : Rise l) (id : Int) : Rise (dropF l id) := h.sublist List.filter_sublist
theorem rise_setQ {l : List Vw} (h : Rise l) (id : Int) (x : Hx) : Rise (setQ id x l) := by
  induction l with
  | nil => exact List.pairwise_singleton _ _
  | cons y r ih =>
    obtain ⟨h1, h2⟩ := List.pairwise_cons.1 h
    show Rise (if id ≤ y.1 then (id, x) :: dropF (y :: r) id else y :: setQ id x r)
    by_cases hp : id ≤ y.1
    · rw [if_pos hp]
      refine List.pairwise_cons.2 ⟨fun z hz => ?_, rise_drop h id⟩
      obtain ⟨h3, h4⟩ := mem_drop.1 hz
      show id < z.1
      rcases List.mem_cons.1 h3 with rfl | h3
      · omega
      · have := h1 z h3
        omega
    · rw [if_neg hp]
      refine List.pairwise_cons.2 ⟨fun z hz => ?_, ih h2⟩
      rcases mem_setQ.1 hz with rfl | h3
      · show y.1 < id
        omega
      · exact h1 z h3.1
theorem raw_ok {l : List Vw} {id : Int} {h : Hx} (hl : VOk l) : VOk (rawS id h l) ↔ vOk1 (id, h) := by
  rw [raw_eq, vok_iff]
  obtain ⟨h1, h2⟩ := (vok_iff l).1 hl
  constructor
  · intro h3
    exact h3.2 _ (mem_setQ.2 (.inl rfl))
  · intro h3
    refine ⟨rise_setQ h1 id h, fun y hy => ?_⟩
    rcases mem_setQ.1 hy with rfl | h4
    · exact h3
    · exact h2 y h4.1
/-- What is set, where it may be. -/
structure SetOk (l : List Vw) (id : Int) (h : Hx) (x : List Vw) : Prop where
  ok : VOk x
  l_ : VOk l
  one : vOk1 (id, h)
  mem : ∀ y, y ∈ x ↔ y = (id, h) ∨ (y ∈ l ∧ y.1 ≠ id)
theorem set_ok {l : List Vw} {id : Int} {h : Hx} (hl : VOk l) (h1 : vOk1 (id, h)) : setE l id h = 0 ∧ SetOk l id h (setL l id h) := by
  have h2 := (raw_ok (id := id) (h := h) hl).2 h1
  unfold setE setL
  rw [if_pos ⟨hl, h2⟩, if_pos ⟨hl, h2⟩]
  exact ⟨rfl, h2, hl, h1, fun y => by rw [raw_eq]; exact mem_setQ⟩
theorem set_cases (l : List Vw) (id : Int) (h : Hx) : (setE l id h = 0 ∧ SetOk l id h (setL l id h)) ∨ (setE l id h = 1 ∧ setL l id h = []) := by
  by_cases hh : VOk l ∧ VOk (rawS id h l)
  · exact .inl (set_ok hh.1 ((raw_ok hh.1).1 hh.2))
  · unfold setE setL
    rw [if_neg hh, if_neg hh]
    exact .inr ⟨rfl, rfl⟩
theorem get_mem {l : List Vw} (h : Rise l) {id : Int} {x : Hx} (hm : (id, x) ∈ l) : getV l id = x ∧ getB l id = true := by
  have hb : getB l id = true := List.any_eq_true.2 ⟨_, hm, by simp [isId]⟩
  refine ⟨?_, hb⟩
  unfold getV
  cases hf : l.find? (isId id) with
  | none =>
    have := List.find?_eq_none.1 hf _ hm
    simp [isId] at this
  | some y =>
    have h1 := List.find?_some hf
    have h2 := List.mem_of_find?_eq_some hf
    have e : y = (id, x) := rise_key h h2 hm (by simpa [isId] using h1)
    rw [e]
    rfl
theorem get_none {l : List Vw} {id : Int} (hm : ∀ y ∈ l, y.1 ≠ id) : getV l id = zHx ∧ getB l id = false := by
  have h : ∀ y ∈ l, isId id y = false := fun y hy => by simpa [isId] using hm y hy
  refine ⟨?_, ?_⟩
  · unfold getV
    rw [List.find?_eq_none.2 (fun y hy => by rw [h y hy]; simp)]
    rfl
  · unfold getB
    exact List.any_eq_false.2 fun y hy => by rw [h y hy]; simp
theorem get_same {l l' : List Vw} (h : Rise l) (h' : Rise l') {id : Int} (hm : ∀ y : Vw, y.1 = id → (y ∈ l ↔ y ∈ l')) : getV l id = getV l' id ∧ getB l id = getB l' id := by
  by_cases he : ∃ y ∈ l, y.1 = id
  · obtain ⟨⟨i, x⟩, hy, rfl⟩ := he
    obtain ⟨a1, a2⟩ := get_mem h hy
    obtain ⟨b1, b2⟩ := get_mem h' ((hm _ rfl).1 hy)
    exact ⟨a1.trans b1.symm, a2.trans b2.symm⟩
  · have h1 : ∀ y ∈ l, y.1 ≠ id := fun y hy e => he ⟨y, hy, e⟩
    have h2 : ∀ y ∈ l', y.1 ≠ id := fun y hy e => he ⟨y, (hm y e).2 hy, e⟩
    obtain ⟨a1, a2⟩ := get_none h1
    obtain ⟨b1, b2⟩ := get_none h2
    exact ⟨a1.trans b1.symm, a2.trans b2.symm⟩
theorem drop_one {l : List Vw} (h : Rise l) {id : Int} {x : Hx} (hm : (id, x) ∈ l) : (dropF l id).length + 1 = l.length := by
  induction l with
  | nil => cases hm
  | cons y r ih =>
    obtain ⟨h1, h2⟩ := List.pairwise_cons.1 h
    unfold dropF
    by_cases hy : y.1 = id
    · rw [List.filter_cons_of_neg (by simp [isId, hy]), List.length_cons]
      have : r.filter (fun y => !isId id y) = r := List.filter_eq_self.2 fun z hz => by
        have := h1 z hz
        simp [isId]
        omega
      rw [this]
    · rw [List.filter_cons_of_pos (by simp [isId, hy]), List.length_cons, List.length_cons]
      rcases List.mem_cons.1 hm with e | hm
      · exact absurd (by rw [← e]) hy
      · have := ih h2 hm
        unfold dropF at this
        omega
end Go.Proofs.Ytmimgpnogjgliaa

namespace Go.Proofs.Ytmimgpnogjgliaa
set_option maxRecDepth 100000

theorem cmpL_cons (x y : Int) (xs ys : List Int) : cmpL (x :: xs) (y :: ys) < 0 ↔ x < y ∨ (x = y ∧ cmpL xs ys < 0) := by
  show (if x < y then (-1 : Int) else if y < x then 1 else cmpL xs ys) < 0 ↔ _
  split
  · constructor
    · intro _; exact .inl (by assumption)
    · intro _; omega
  · split
    · constructor
      · intro h; omega
      · rintro (h | h) <;> omega
    · constructor
      · intro h; exact .inr ⟨by omega, h⟩
      · rintro (h | h)
        · omega
        · exact h.2
theorem cmpL_irr (xs : List Int) : ¬ cmpL xs xs < 0 := by
  induction xs with
  | nil => exact Int.lt_irrefl 0
  | cons x r ih =>
    rw [cmpL_cons]
    rintro (h | h)
    · omega
    · exact ih h.2
theorem cmpL_tr {xs ys zs : List Int} (h1 : xs.length = ys.length) (h2 : ys.length = zs.length) (a : cmpL xs ys < 0) (b : cmpL ys zs < 0) : cmpL xs zs < 0 := by
  induction xs generalizing ys zs with
  | nil =>
    cases ys with
    | nil => exact absurd a (Int.lt_irrefl 0)
    | cons _ _ => cases h1
  | cons x r ih =>
    cases ys with
    | nil => cases h1
    | cons y s =>
      cases zs with
      | nil => cases h2
      | cons z t =>
        rw [cmpL_cons] at a b ⊢
        rcases a with a | a
        · rcases b with b | b
          · exact .inl (by omega)
          · exact .inl (by omega)
        · rcases b with b | b
          · exact .inl (by omega)
          · exact .inr ⟨by omega, ih (by simpa using h1) (by simpa using h2) a.2 b.2⟩
theorem cmpL_tot {xs ys : List Int} (h1 : xs.length = ys.length) (hne : xs ≠ ys) : cmpL xs ys < 0 ∨ cmpL ys xs < 0 := by
  induction xs generalizing ys with
  | nil =>
    cases ys with
    | nil => exact absurd rfl hne
    | cons _ _ => cases h1
  | cons x r ih =>
    cases ys with
    | nil => cases h1
    | cons y s =>
      rw [cmpL_cons, cmpL_cons]
      rcases Int.lt_trichotomy x y with h | h | h
      · exact .inl (.inl h)
      · subst h
        have : r ≠ s := fun e => hne (by rw [e])
        rcases ih (by simpa using h1) this with h | h
        · exact .inl (.inr ⟨rfl, h⟩)
        · exact .inr (.inr ⟨rfl, h⟩)
      · exact .inr (.inl h)
/-- The five numbers of a height. -/
def row5 (x : Hx) : List Int := [x.2.1, x.2.2.1, x.2.2.2.1, x.2.2.2.2.1, x.2.2.2.2.2]
theorem lsx_iff (x y : Hx) : lsx x y = true ↔ tld x = true ∧ tld y = true ∧ cmpL (row5 x) (row5 y) < 0 := by
  unfold lsx lessB
  rw [Bool.and_eq_true, Bool.and_eq_true, decide_eq_true_iff]
  exact Iff.rfl
theorem lsx_irr (x : Hx) : lsx x x = false := by
  cases h : lsx x x with
  | false => rfl
  | true => exact absurd ((lsx_iff x x).1 h).2.2 (cmpL_irr _)
theorem lsx_tr {x y z : Hx} (h : lsx x y = true) (k : lsx y z = true) : lsx x z = true := by
  have a := (lsx_iff _ _).1 h
  have b := (lsx_iff _ _).1 k
  exact (lsx_iff _ _).2 ⟨a.1, b.2.1, cmpL_tr (xs := row5 x) (ys := row5 y) (zs := row5 z) rfl rfl a.2.2 b.2.2⟩
theorem lsx_as {x y : Hx} (h : lsx x y = true) : lsx y x = false := by
  cases k : lsx y x with
  | false => rfl
  | true =>
    have := lsx_tr h k
    rw [lsx_irr] at this
    cases this
theorem lsx_tot {x y : Hx} (hx : tld x = true) (hy : tld y = true) (hi : x.2.2.2.2.2 ≠ y.2.2.2.2.2) : lsx x y = true ∨ lsx y x = true := by
  rw [lsx_iff, lsx_iff]
  have : row5 x ≠ row5 y := fun e => hi (by
    unfold row5 at e
    simp only [List.cons.injEq, and_true] at e
    exact e.2.2.2.2)
  rcases cmpL_tot (show (row5 x).length = (row5 y).length from rfl) this with h | h
  · exact .inl ⟨hx, hy, h⟩
  · exact .inr ⟨hy, hx, h⟩
/-- What is put in, from the front. -/
def insQ (y : Vw) : List Vw → List Vw
  | [] => [y]
  | x :: r => if lsx y.2 x.2 = true then y :: x :: r else x :: insQ y r
theorem ins_done (y : Vw) (l xs : List Vw) : l.foldl (inS y) (xs, true) = (xs ++ l, true) := by
  induction l generalizing xs with
  | nil => simp
  | cons x r ih =>
    have e : inS y (xs, true) x = (xs ++ [x], true) := by
      unfold inS in1
      rw [if_neg (fun h => by cases h.1)]
    rw [List.foldl_cons, e, ih, List.append_assoc]
    rfl
theorem ins_go (y : Vw) (l xs : List Vw) : inF y (l.foldl (inS y) (xs, false)) = xs ++ insQ y l := by
  induction l generalizing xs with
  | nil =>
    unfold inF
    rw [List.foldl_nil, if_neg (by simp)]
    rfl
  | cons x r ih =>
    rw [List.foldl_cons]
    show _ = xs ++ (if lsx y.2 x.2 = true then y :: x :: r else x :: insQ y r)
    by_cases h : lsx y.2 x.2 = true
    · have e : inS y (xs, false) x = (xs ++ [y] ++ [x], true) := by
        unfold inS in1
        rw [if_pos ⟨rfl, h⟩]
      rw [e, ins_done, if_pos h]
      unfold inF
      rw [if_pos rfl]
      simp
    · have e : inS y (xs, false) x = (xs ++ [x], false) := by
        unfold inS in1
        rw [if_neg (fun k => h k.2)]
      rw [e, ih, if_neg h, List.append_assoc]
      rfl
theorem insO_eq (y : Vw) (l : List Vw) : insO y l = insQ y l := ins_go y l []
theorem insQ_perm (y : Vw) (l : List Vw) : (insQ y l).Perm (y :: l) := by
  induction l with
  | nil => exact .refl _
  | cons x r ih =>
    show (if lsx y.2 x.2 = true then y :: x :: r else x :: insQ y r).Perm _
    split
    · exact .refl _
    · exact (List.Perm.cons x ih).trans (List.Perm.swap y x r)
theorem vord_snoc (l : List Vw) (y : Vw) : vordL (l ++ [y]) = insQ y (vordL l) := by
  unfold vordL
  rw [List.foldl_append]
  show insO y _ = _
  rw [insO_eq]
theorem vord_perm (l : List Vw) : (vordL l).Perm l := by
  have h : ∀ (l xs : List Vw), (l.foldl (fun xs y => insO y xs) xs).Perm (xs ++ l) := by
    intro l
    induction l with
    | nil => intro xs; simp
    | cons y r ih =>
      intro xs
      rw [List.foldl_cons]
      refine (ih _).trans ?_
      rw [insO_eq]
      exact ((insQ_perm y xs).append_right r).trans (List.perm_middle.symm)
  exact h l []
/-- Views each of which is below those behind it. -/
def Fall (l : List Vw) : Prop := l.Pairwise (fun a b => lsx a.2 b.2 = true)
theorem insQ_fall {y : Vw} {l : List Vw} (h : Fall l) (ht : ∀ x ∈ l, lsx x.2 y.2 = true ∨ lsx y.2 x.2 = true) : Fall (insQ y l) := by
  induction l with
  | nil => exact List.pairwise_singleton _ _
  | cons x r ih =>
    obtain ⟨h1, h2⟩ := List.pairwise_cons.1 h
    show Fall (if lsx y.2 x.2 = true then y :: x :: r else x :: insQ y r)
    by_cases hp : lsx y.2 x.2 = true
    · rw [if_pos hp]
      refine List.pairwise_cons.2 ⟨fun z hz => ?_, h⟩
      rcases List.mem_cons.1 hz with rfl | hz
      · exact hp
      · exact lsx_tr hp (h1 z hz)
    · rw [if_neg hp]
      refine List.pairwise_cons.2 ⟨fun z hz => ?_, ih h2 (fun x hx => ht x (by simp [hx]))⟩
      rcases List.mem_cons.1 ((insQ_perm y r).mem_iff.1 hz) with rfl | hz
      · exact (ht x (by simp)).elim (fun h => h) (fun h => absurd h hp)
      · exact h1 z hz
theorem vord_fall {l : List Vw} (h : l.Pairwise (fun a b => lsx a.2 b.2 = true ∨ lsx b.2 a.2 = true)) : Fall (vordL l) := by
  have go : ∀ (l xs : List Vw), Fall xs → l.Pairwise (fun a b => lsx a.2 b.2 = true ∨ lsx b.2 a.2 = true) → (∀ x ∈ xs, ∀ y ∈ l, lsx x.2 y.2 = true ∨ lsx y.2 x.2 = true) → Fall (l.foldl (fun xs y => insO y xs) xs) := by
    intro l
    induction l with
    | nil => intro xs h _ _; exact h
    | cons y r ih =>
      intro xs hx hl hm
      obtain ⟨h1, h2⟩ := List.pairwise_cons.1 hl
      rw [List.foldl_cons]
      refine ih _ ?_ h2 (fun x hx2 z hz => ?_)
      · rw [insO_eq]
        exact insQ_fall hx (fun x hx2 => hm x hx2 y (by simp))
      · rw [insO_eq] at hx2
        rcases List.mem_cons.1 ((insQ_perm y xs).mem_iff.1 hx2) with rfl | hx2
        · exact h1 z hz
        · exact hm x hx2 z (by simp [hz])
  exact go l [] List.Pairwise.nil h (fun _ hx => nomatch hx)
/-- What is known of views that are right, and of a height of another node that is told. -/
structure SpOk (l : List Vw) (own : Hx) : Prop where
  ok : VOk l
  told : tld own = true
  off : ∀ y ∈ l, y.1 ≠ own.2.2.2.2.2
section
variable {l : List Vw} {own : Hx}
theorem SpOk.tl (h : SpOk l own) {y : Vw} (hy : y ∈ l) : tld y.2 = !y.2.1 := by
  have h1 := ((vok_iff l).1 h.ok).2 y hy
  have h2 := h1.2.1
  unfold hOk at h2
  unfold tld Go.Proofs.Ytmimgpnogjgliaa.told
  rw [decide_eq_true h2, Bool.and_true]
theorem SpOk.id (h : SpOk l own) {y : Vw} (hy : y ∈ l) : y.2.2.2.2.2.2 = y.1 := (((vok_iff l).1 h.ok).2 y hy).2.2
theorem SpOk.rise (h : SpOk l own) : Rise l := ((vok_iff l).1 h.ok).1
theorem SpOk.tot (h : SpOk l own) {y z : Vw} (hy : y ∈ l) (hz : z ∈ l) (ty : tld y.2 = true) (tz : tld z.2 = true) (hne : y ≠ z) : lsx y.2 z.2 = true ∨ lsx z.2 y.2 = true :=
  lsx_tot ty tz (by rw [h.id hy, h.id hz]; exact fun e => hne (rise_key h.rise hy hz e))
theorem SpOk.vs (h : SpOk l own) {y : Vw} (hy : y ∈ l) (ty : tld y.2 = true) : lsx y.2 own = true ∨ lsx own y.2 = true :=
  lsx_tot ty h.told (by rw [h.id hy]; exact h.off y hy)
theorem mem_bel {y : Vw} : y ∈ belF l own ↔ y ∈ l ∧ lsx y.2 own = true := by unfold belF; rw [List.mem_filter]
theorem mem_abo {y : Vw} : y ∈ aboF l own ↔ y ∈ l ∧ lsx own y.2 = true := by unfold aboF; rw [List.mem_filter]
theorem SpOk.fall (h : SpOk l own) : Fall (vordL (belF l own)) := by
  refine vord_fall ?_
  have hn : (belF l own).Nodup := (rise_nd h.rise).sublist List.filter_sublist
  refine List.Pairwise.imp_of_mem (fun {a b} ha hb hab => ?_) hn
  obtain ⟨a1, a2⟩ := mem_bel.1 ha
  obtain ⟨b1, b2⟩ := mem_bel.1 hb
  exact h.tot a1 b1 ((lsx_iff _ _).1 a2).1 ((lsx_iff _ _).1 b2).1 hab
theorem SpOk.cnt (h : SpOk l own) : (belV l own).length + (aboV l own).length = l.countP (fun y => !y.2.1) := by
  have e1 : (belV l own).length = (belF l own).length := by unfold belV; rw [List.length_map, (vord_perm _).length_eq]
  have e2 : (aboV l own).length = (aboF l own).length := by unfold aboV; rw [List.length_map, (vord_perm _).length_eq]
  rw [e1, e2]
  have h1 : ∀ y ∈ l, ((!y.2.1) = (lsx y.2 own || lsx own y.2)) ∧ (lsx y.2 own && lsx own y.2) = false := by
    intro y hy
    rw [← h.tl hy]
    cases ht : tld y.2 with
    | false =>
      have a1 : lsx y.2 own = false := by
        cases k : lsx y.2 own with
        | false => rfl
        | true => rw [((lsx_iff _ _).1 k).1] at ht; cases ht
      have a2 : lsx own y.2 = false := by
        cases k : lsx own y.2 with
        | false => rfl
        | true => rw [((lsx_iff _ _).1 k).2.1] at ht; cases ht
      rw [a1, a2]
      exact ⟨rfl, rfl⟩
    | true =>
      rcases h.vs hy ht with k | k
      · rw [k, lsx_as k]; exact ⟨rfl, rfl⟩
      · rw [k, lsx_as k]; exact ⟨rfl, rfl⟩
  clear h e1 e2
  unfold belF aboF
  induction l with
  | nil => rfl
  | cons y r ih =>
    have hr := ih (fun z hz => h1 z (by simp [hz]))
    obtain ⟨k1, k2⟩ := h1 y (by simp)
    rw [List.countP_cons, k1]
    cases a : lsx y.2 own with
    | true =>
      rw [a] at k2
      have b : lsx own y.2 = false := by simpa using k2
      rw [List.filter_cons_of_pos (by simpa using a), List.filter_cons_of_neg (by simp [b]), List.length_cons, b]
      simp
      omega
    | false =>
      cases b : lsx own y.2 with
      | true =>
        rw [List.filter_cons_of_neg (by simp [a]), List.filter_cons_of_pos (by simpa using b), List.length_cons]
        simp
        omega
      | false =>
        rw [List.filter_cons_of_neg (by simp [a]), List.filter_cons_of_neg (by simp [b])]
        simpa using hr
/-- The lowest one that is told. -/
theorem low_spec (l : List Vw) : ((lowF l).2 = false ∧ ∀ z ∈ l, tld z.2 = false) ∨ ((lowF l).2 = true ∧ (lowF l).1 ∈ l ∧ tld (lowF l).1.2 = true ∧ ∀ z ∈ l, lsx z.2 (lowF l).1.2 = false) := by
  have hno : ∀ {z : Hx} {x : Hx}, tld z = false → lsx z x = false := fun {z x} h => by
    cases k : lsx z x with
    | false => rfl
    | true => rw [((lsx_iff _ _).1 k).1] at h; cases h
  suffices hg : ∀ (r : List Vw) (p : List Vw) (acc : Vw × Bool), ((acc.2 = false ∧ ∀ z ∈ p, tld z.2 = false) ∨ (acc.2 = true ∧ acc.1 ∈ p ∧ tld acc.1.2 = true ∧ ∀ z ∈ p, lsx z.2 acc.1.2 = false)) →
      (((r.foldl lowS acc).2 = false ∧ ∀ z ∈ p ++ r, tld z.2 = false) ∨ ((r.foldl lowS acc).2 = true ∧ (r.foldl lowS acc).1 ∈ p ++ r ∧ tld (r.foldl lowS acc).1.2 = true ∧ ∀ z ∈ p ++ r, lsx z.2 (r.foldl lowS acc).1.2 = false)) by
    have := hg l [] (zVw, false) (.inl ⟨rfl, (fun _ hz => nomatch hz)⟩)
    exact this
  intro r
  induction r with
  | nil => intro p acc h; simpa using h
  | cons y r ih =>
    intro p acc h
    rw [List.foldl_cons, show p ++ y :: r = (p ++ [y]) ++ r by simp]
    refine ih _ _ ?_
    unfold lowS
    by_cases hc : tld y.2 = true ∧ (acc.2 = false ∨ lsx y.2 acc.1.2 = true)
    · rw [if_pos hc]
      refine .inr ⟨rfl, by simp, hc.1, fun z hz => ?_⟩
      rcases List.mem_append.1 hz with hz | hz
      · rcases h with h | h
        · exact hno (h.2 z hz)
        · cases k : lsx z.2 y.2 with
          | false => rfl
          | true =>
            rcases hc.2 with h5 | h5
            · rw [h.1] at h5; cases h5
            · have := lsx_tr k h5
              rw [h.2.2.2 z hz] at this
              cases this
      · obtain rfl := List.mem_singleton.1 hz
        exact lsx_irr _
    · rw [if_neg hc]
      rcases h with h | h
      · refine .inl ⟨h.1, fun z hz => ?_⟩
        rcases List.mem_append.1 hz with hz | hz
        · exact h.2 z hz
        · obtain rfl := List.mem_singleton.1 hz
          cases k : tld z.2 with
          | false => rfl
          | true => exact absurd ⟨k, .inl h.1⟩ hc
      · refine .inr ⟨h.1, by simp [h.2.1], h.2.2.1, fun z hz => ?_⟩
        rcases List.mem_append.1 hz with hz | hz
        · exact h.2.2.2 z hz
        · obtain rfl := List.mem_singleton.1 hz
          cases k : lsx z.2 acc.1.2 with
          | false => rfl
          | true => exact absurd ⟨((lsx_iff _ _).1 k).1, .inr k⟩ hc
theorem SpOk.low_any (h : SpOk l own) : (lowF l).2 = decide (0 < l.countP (fun y => !y.2.1)) := by
  rcases low_spec l with ⟨h1, h2⟩ | ⟨h1, h2, h3, _⟩
  · rw [h1]
    symm
    rw [decide_eq_false_iff_not]
    intro h4
    obtain ⟨y, hy, hp⟩ := List.countP_pos_iff.1 h4
    have := h2 y hy
    rw [h.tl hy] at this
    rw [this] at hp
    cases hp
  · rw [h1]
    symm
    rw [decide_eq_true_iff]
    exact List.countP_pos_iff.2 ⟨_, h2, by rw [← h.tl h2]; exact h3⟩
theorem SpOk.low_first (h : SpOk l own) {z : Vw} {r : List Vw} (hz : vordL (belF l own) = z :: r) : (lowF l).1 = z := by
  have hzm : z ∈ belF l own := (vord_perm _).mem_iff.1 (by rw [hz]; simp)
  obtain ⟨z1, z2⟩ := mem_bel.1 hzm
  have zt := ((lsx_iff _ _).1 z2).1
  rcases low_spec l with ⟨_, h2⟩ | ⟨_, h2, h3, h4⟩
  · rw [h2 z z1] at zt; cases zt
  · refine Classical.byContradiction fun hne => ?_
    have hlz : lsx (lowF l).1.2 z.2 = true := by
      rcases h.tot h2 z1 h3 zt hne with k | k
      · exact k
      · rw [h4 z z1] at k; cases k
    have hlm : (lowF l).1 ∈ vordL (belF l own) := (vord_perm _).mem_iff.2 (mem_bel.2 ⟨h2, lsx_tr hlz z2⟩)
    rw [hz] at hlm
    rcases List.mem_cons.1 hlm with e | hlm
    · exact hne e
    · have hf := h.fall
      rw [hz] at hf
      have := (List.pairwise_cons.1 hf).1 _ hlm
      rw [lsx_as hlz] at this
      cases this
end
end Go.Proofs.Ytmimgpnogjgliaa

namespace Go.Proofs.Ytmimgpnogjgliaa
set_option maxRecDepth 100000
open Go.RowKit Go.WideShapes Go.ChangeShapes

theorem hx_trod {H : Type} {enc : TypeId × Value → H} {w : World} {base n : Nat} {spare : Nat → Bool} {held : Bool} {cs : List Value} {x : DataW H × List MemPlace} (hl6 : cs.length = 6)
    (hf : DataW.trod enc Try.prog w base spare held n 24 cs = some x) : ∃ h : Hx, cs = [.bool h.1, .int .i64 h.2.1, .int .i64 h.2.2.1, .int .i64 h.2.2.2.1, .int .i64 h.2.2.2.2.1, .int .i64 h.2.2.2.2.2] := by
  obtain ⟨c0, c1, c2, c3, c4, c5, rfl⟩ : ∃ c0 c1 c2 c3 c4 c5, cs = [c0, c1, c2, c3, c4, c5] := by
    match cs, hl6 with
    | [c0, c1, c2, c3, c4, c5], _ => exact ⟨c0, c1, c2, c3, c4, c5, rfl⟩
  clear hl6
  obtain ⟨xs, m, _, _, _, hl, hx⟩ := DataW.trod_struct under23 hf
  obtain ⟨y0, h0⟩ := cell_form (j := 0) (T := 4) (O := 0) (v := c0) hl hx (by kernel_rfl) (by kernel_rfl) rfl
  obtain ⟨n, hn, _⟩ := DataW.trod_bool Try.underlying4 h0
  simp only [List.cons.injEq, and_true] at hn
  obtain ⟨t, rfl, ht⟩ := int_cell (cell_form (j := 1) (T := 3) (O := 1) (v := c1) hl hx (by kernel_rfl) (by kernel_rfl) rfl)
  obtain ⟨o, rfl, ho⟩ := int_cell (cell_form (j := 2) (T := 3) (O := 2) (v := c2) hl hx (by kernel_rfl) (by kernel_rfl) rfl)
  obtain ⟨r, rfl, hr⟩ := int_cell (cell_form (j := 3) (T := 3) (O := 3) (v := c3) hl hx (by kernel_rfl) (by kernel_rfl) rfl)
  obtain ⟨d, rfl, hd⟩ := int_cell (cell_form (j := 4) (T := 3) (O := 4) (v := c4) hl hx (by kernel_rfl) (by kernel_rfl) rfl)
  obtain ⟨i, rfl, hi⟩ := int_cell (cell_form (j := 5) (T := 3) (O := 5) (v := c5) hl hx (by kernel_rfl) (by kernel_rfl) rfl)
  subst hn
  exact ⟨(n, t, o, r, d, i), rfl⟩
theorem vw_trod {H : Type} {enc : TypeId × Value → H} {w : World} {base n : Nat} {spare : Nat → Bool} {held : Bool} {cs : List Value} {x : DataW H × List MemPlace} (hl7 : cs.length = 7)
    (hf : DataW.trod enc Try.prog w base spare held n 43 cs = some x) : ∃ y : Vw, cs = vwc y := by
  obtain ⟨c0, c1, c2, c3, c4, c5, c6, rfl⟩ : ∃ c0 c1 c2 c3 c4 c5 c6, cs = [c0, c1, c2, c3, c4, c5, c6] := by
    match cs, hl7 with
    | [c0, c1, c2, c3, c4, c5, c6], _ => exact ⟨c0, c1, c2, c3, c4, c5, c6, rfl⟩
  clear hl7
  obtain ⟨xs, m, _, _, _, hl, hx⟩ := DataW.trod_struct underVW hf
  obtain ⟨k, rfl, _⟩ := int_cell (cell_form (j := 0) (T := 3) (O := 0) (v := c0) hl hx (by kernel_rfl) (by kernel_rfl) rfl)
  obtain ⟨y0, h0⟩ := part_form (j := 1) (T := 24) (O := 1) (K := 6) hl hx (by kernel_rfl) (by kernel_rfl)
  obtain ⟨h, hh⟩ := hx_trod rfl h0
  simp only [List.drop_succ_cons, List.drop_zero, List.take_succ_cons, List.take_zero] at hh
  refine ⟨(k, h), ?_⟩
  unfold vwc
  rw [hh]
/-- Rows of views as an argument. -/
theorem vs_form {H : Type} {enc : TypeId × Value → H} {w : World} {base : Nat} {spare : Nat → Bool} {held : Bool} {x : Option Addr} {l c : Nat} {d : DataW H} {p : List MemPlace}
    (h : DataW.Trod enc Try.prog w base spare held 22 (.slice x l c) d p) : ∃ ys : List Vw, ys.length = l ∧ Vs w (.slice x l c) ys ∧ ys.length ≤ maxLen := by
  obtain ⟨fuel, hf⟩ := h
  have hm : l ≤ maxLen := by
    rcases Deep.open_slice underVS hf with ⟨hcs, _⟩ | ⟨a, len, cap, m, n, D, Pl, hcs, _, h1, h2, _⟩
    · simp [Value.cells] at hcs
      rw [hcs.2.1]
      exact Nat.zero_le _
    · simp [Value.cells] at hcs
      rw [hcs.2.1]
      exact Nat.le_trans h1 h2
  obtain ⟨a, cap, ys, h1, h2⟩ := gs_trod (R := RV) (u := .slice x l c) (fun n' cs X h1 h2 => vw_trod h1 h2) hf
  simp only [Value.slice.injEq] at h1
  exact ⟨ys, h1.2.1.symm, h2, Nat.le_trans (Nat.le_of_eq h1.2.1.symm) hm⟩
end Go.Proofs.Ytmimgpnogjgliaa

namespace Go.Proofs.Ytmimgpnogjgliaa
set_option maxRecDepth 100000

/-- The comparison of two views. -/
def clV (x y : Vw) : Bool := lsx x.2 y.2
/-- A numbered view put in, from the front. -/
def insT (y : Vw × Nat) : List (Vw × Nat) → List (Vw × Nat)
  | [] => [y]
  | x :: r => if clV y.1 x.1 = true then y :: x :: r else x :: insT y r
theorem insT_fst (y : Vw × Nat) (l : List (Vw × Nat)) : (insT y l).map (·.1) = insQ y.1 (l.map (·.1)) := by
  induction l with
  | nil => rfl
  | cons x r ih =>
    show (if clV y.1 x.1 = true then y :: x :: r else x :: insT y r).map (·.1) = (if lsx y.1.2 x.1.2 = true then y.1 :: x.1 :: r.map (·.1) else x.1 :: insQ y.1 (r.map (·.1)))
    by_cases h : clV y.1 x.1 = true
    · rw [if_pos h, if_pos (show lsx y.1.2 x.1.2 = true from h)]; rfl
    · rw [if_neg h, if_neg (show ¬ lsx y.1.2 x.1.2 = true from h), List.map_cons, ih]
theorem insT_perm (y : Vw × Nat) (l : List (Vw × Nat)) : (insT y l).Perm (y :: l) := by
  induction l with
  | nil => exact .refl _
  | cons x r ih =>
    show (if clV y.1 x.1 = true then y :: x :: r else x :: insT y r).Perm _
    split
    · exact .refl _
    · exact (List.Perm.cons x ih).trans (List.Perm.swap y x r)
theorem clV_tr (x y z : Vw) (h : clV x y = true) (k : clV y z = true) : clV x z = true := lsx_tr h k
/-- Among views that are told: neither less, neither less. -/
theorem clV_nt {x y z : Vw} (tx : tld x.2 = true) (ty : tld y.2 = true) (tz : tld z.2 = true) (h : clV x y = false) (k : clV y z = false) : clV x z = false := by
  cases e : clV x z with
  | false => rfl
  | true =>
    have e3 := ((lsx_iff _ _).1 e).2.2
    have h' : ¬ cmpL (row5 x.2) (row5 y.2) < 0 := fun g => by
      have : clV x y = true := (lsx_iff _ _).2 ⟨tx, ty, g⟩
      rw [h] at this; cases this
    have k' : ¬ cmpL (row5 y.2) (row5 z.2) < 0 := fun g => by
      have : clV y z = true := (lsx_iff _ _).2 ⟨ty, tz, g⟩
      rw [k] at this; cases this
    exfalso
    by_cases e1 : row5 x.2 = row5 y.2
    · rw [e1] at e3; exact k' e3
    · rcases cmpL_tot (show (row5 x.2).length = (row5 y.2).length from rfl) e1 with g | g
      · exact h' g
      · exact k' (cmpL_tr (xs := row5 y.2) (ys := row5 x.2) (zs := row5 z.2) rfl rfl g e3)
def Told2 (l : List (Vw × Nat)) : Prop := ∀ x ∈ l, tld x.1.2 = true
theorem stbV_tr {x y z : Vw × Nat} (tx : tld x.1.2 = true) (ty : tld y.1.2 = true) (tz : tld z.1.2 = true) (h : stb clV x y) (k : stb clV y z) : stb clV x z := by
  unfold stb at *
  rcases h with h | ⟨h, h'⟩
  · rcases k with k | ⟨k, _⟩
    · exact .inl (clV_tr _ _ _ h k)
    · cases hxz : clV x.1 z.1 with
      | true => exact .inl rfl
      | false => rw [clV_nt tx tz ty hxz k] at h; cases h
  · rcases k with k | ⟨k, k'⟩
    · cases hxz : clV x.1 z.1 with
      | true => exact .inl rfl
      | false => rw [clV_nt ty tx tz h hxz] at k; cases k
    · exact .inr ⟨clV_nt tz ty tx k h, by omega⟩
theorem insT_stb {y : Vw × Nat} {l : List (Vw × Nat)} (ty : tld y.1.2 = true) (tl : Told2 l) (h : l.Pairwise (stb clV)) (hn : ∀ x ∈ l, x.2 < y.2) : (insT y l).Pairwise (stb clV) := by
  induction l with
  | nil => exact List.pairwise_singleton _ _
  | cons x r ih =>
    obtain ⟨h1, h2⟩ := List.pairwise_cons.1 h
    have tx := tl x (by simp)
    have tr : Told2 r := fun z hz => tl z (by simp [hz])
    show (if clV y.1 x.1 = true then y :: x :: r else x :: insT y r).Pairwise (stb clV)
    by_cases hp : clV y.1 x.1 = true
    · rw [if_pos hp]
      refine List.pairwise_cons.2 ⟨fun z hz => ?_, h⟩
      rcases List.mem_cons.1 hz with rfl | hz
      · exact .inl hp
      · exact stbV_tr ty tx (tr z hz) (.inl hp) (h1 z hz)
    · rw [if_neg hp]
      refine List.pairwise_cons.2 ⟨fun z hz => ?_, ih tr h2 (fun x hx => hn x (by simp [hx]))⟩
      rcases List.mem_cons.1 ((insT_perm y r).mem_iff.1 hz) with rfl | hz
      · exact .inr ⟨by simpa using hp, hn x (by simp)⟩
      · exact h1 z hz
/-- Views with the places at which they stood. -/
def tagF (l : List Vw) (n : Nat) : List (Vw × Nat) := l.zipIdx n
theorem tag_fold : ∀ (l : List Vw) (n : Nat) (zs : List (Vw × Nat)), (∀ y ∈ l, tld y.2 = true) → Told2 zs → zs.Pairwise (stb clV) → (∀ x ∈ zs, x.2 < n) →
    ((l.zipIdx n).foldl (fun zs y => insT y zs) zs).Pairwise (stb clV) ∧ ((l.zipIdx n).foldl (fun zs y => insT y zs) zs).Perm (zs ++ l.zipIdx n) ∧ ((l.zipIdx n).foldl (fun zs y => insT y zs) zs).map (·.1) = l.foldl (fun xs y => insO y xs) (zs.map (·.1)) := by
  intro l
  induction l with
  | nil => intro n zs _ _ h _; exact ⟨h, by simp, rfl⟩
  | cons y r ih =>
    intro n zs tl tz h hn
    have ty := tl y (by simp)
    rw [List.zipIdx_cons, List.foldl_cons, List.foldl_cons]
    have hp := insT_perm (y, n) zs
    obtain ⟨i1, i2, i3⟩ := ih (n + 1) (insT (y, n) zs) (fun z hz => tl z (by simp [hz])) (fun z hz => by
      rcases List.mem_cons.1 (hp.mem_iff.1 hz) with rfl | hz
      · exact ty
      · exact tz z hz) (insT_stb ty tz h hn) (fun z hz => by
      rcases List.mem_cons.1 (hp.mem_iff.1 hz) with rfl | hz
      · exact Nat.lt_succ_self n
      · exact Nat.lt_succ_of_lt (hn z hz))
    refine ⟨i1, i2.trans ((hp.append_right _).trans ?_), i3.trans ?_⟩
    · exact List.perm_middle.symm
    · rw [insT_fst, insO_eq]
/-- What a stable sort by the heights answers is the document's order. -/
theorem vord_stb {l : List Vw} (tl : ∀ y ∈ l, tld y.2 = true) {zs : List (Vw × Nat)} (hp : zs.Perm (l.zipIdx 0)) (hs : zs.Pairwise (stb clV)) : zs.map (·.1) = vordL l := by
  obtain ⟨h1, h2, h3⟩ := tag_fold l 0 [] tl (fun _ hx => nomatch hx) List.Pairwise.nil (fun _ hx => nomatch hx)
  have e : zs = (l.zipIdx 0).foldl (fun zs y => insT y zs) [] := by
    refine (hp.trans h2.symm).eq_of_pairwise (fun a b _ _ g k => ?_) hs h1
    unfold stb at g k
    exfalso
    rcases g with g | ⟨g, g'⟩
    · rcases k with k | ⟨k, _⟩
      · have := lsx_as (x := a.1.2) (y := b.1.2) g
        rw [show lsx b.1.2 a.1.2 = true from k] at this
        cases this
      · rw [g] at k; cases k
    · rcases k with k | ⟨_, k'⟩
      · rw [k] at g; cases g
      · omega
  rw [e, h3]
  rfl
end Go.Proofs.Ytmimgpnogjgliaa
