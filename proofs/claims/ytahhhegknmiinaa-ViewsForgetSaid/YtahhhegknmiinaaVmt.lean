/- Mathematics of views: set, got, dropped. No walks. -/
import Derived.Test.YtahhhegknmiinaaVaw
namespace Go.Proofs.Ytahhhegknmiinaa
set_option maxRecDepth 100000

/-- A view that is right by itself; views whose Ids rise. -/
def vOk1 (y : Vw) : Prop := NodeOk y.1 ∧ hOk y.2 ∧ y.2.2.2.2.2.2 = y.1
def Rise (l : List Vw) : Prop := l.Pairwise (fun a b => a.1 < b.1)
theorem getD_mem {l : List Vw} {i : Nat} (h : i < l.length) : l.getD i zVw ∈ l := by simp [List.getD, h]
theorem vok_iff (l : List Vw) : VOk l ↔ Rise l ∧ ∀ y ∈ l, vOk1 y := by
  constructor
  · intro h
    have hr : ∀ j, j < l.length → ∀ i, i < j → (l.getD i zVw).1 < (l.getD j zVw).1 := by
      intro j
      induction j with
      | zero => intro _ i hi; omega
      | succ j ih =>
        intro hj i hi
        have h1 := (h (j + 1) hj).2.1 (Nat.succ_pos _)
        rw [Nat.add_sub_cancel] at h1
        rcases Nat.lt_or_ge i j with h2 | h2
        · exact Int.lt_trans (ih (by omega) i h2) h1
        · obtain rfl : i = j := by omega
          exact h1
    refine ⟨List.pairwise_iff_getElem.2 fun i j hi hj hij => ?_, fun y hy => ?_⟩
    · have := hr j hj i hij
      simpa [List.getD, hi, hj] using this
    · obtain ⟨i, hi, rfl⟩ := List.mem_iff_getElem.1 hy
      have h1 := h i hi
      have e : l.getD i zVw = l[i] := by simp [List.getD, hi]
      unfold VwAt at h1
      rw [e] at h1
      exact ⟨h1.1, h1.2.2.1, h1.2.2.2⟩
  · rintro ⟨h1, h2⟩ i hi
    obtain ⟨a1, a2, a3⟩ := h2 _ (getD_mem hi)
    refine ⟨a1, fun h0 => ?_, a2, a3⟩
    have h3 := List.pairwise_iff_getElem.1 h1 (i - 1) i (by omega) hi (by omega)
    have e1 : l.getD i zVw = l[i] := by simp [List.getD, hi]
    have e2 : l.getD (i - 1) zVw = l[i - 1] := by simp [List.getD, show i - 1 < l.length by omega]
    rw [e1, e2]
    exact h3
theorem rise_nd {l : List Vw} (h : Rise l) : l.Nodup := List.Pairwise.imp (fun h e => by rw [e] at h; exact absurd h (Int.lt_irrefl _)) h
theorem rise_key {l : List Vw} (h : Rise l) {y z : Vw} (hy : y ∈ l) (hz : z ∈ l) (e : y.1 = z.1) : y = z := by
  obtain ⟨i, hi, rfl⟩ := List.mem_iff_getElem.1 hy
  obtain ⟨j, hj, rfl⟩ := List.mem_iff_getElem.1 hz
  rcases Nat.lt_trichotomy i j with h1 | h1 | h1
  · have := List.pairwise_iff_getElem.1 h i j hi hj h1
    omega
  · subst h1; rfl
  · have := List.pairwise_iff_getElem.1 h j i hj hi h1
    omega
theorem rise_ext {l l' : List Vw} (h : Rise l) (h' : Rise l') (hm : ∀ y, y ∈ l ↔ y ∈ l') : l = l' :=
  ((List.perm_ext_iff_of_nodup (rise_nd h) (rise_nd h')).2 hm).eq_of_pairwise (fun a b _ _ h1 h2 => by omega) h h'
/-- What is set, from the front. -/
def setQ (id : Int) (h : Hx) : List Vw → List Vw
  | [] => [(id, h)]
  | y :: r => if id ≤ y.1 then (id, h) :: dropF (y :: r) id else y :: setQ id h r
theorem sts_done (id : Int) (h : Hx) (l xs : List Vw) : l.foldl (stS id h) (xs, true) = (xs ++ dropF l id, true) := by
  induction l generalizing xs with
  | nil => unfold dropF; simp
  | cons y r ih =>
    rw [List.foldl_cons]
    have e1 : st1 id h (xs, true) y = (xs, true) := by unfold st1; rw [if_neg (fun h => by cases h.1)]
    unfold stS
    rw [e1]
    by_cases hy : y.1 = id
    · have e2 : st2 id (xs, true) y = (xs, true) := by unfold st2; rw [if_pos hy]
      rw [e2]
      have := ih xs
      unfold stS at this
      rw [this]
      unfold dropF
      rw [List.filter_cons_of_neg (by simp [isId, hy])]
    · have e2 : st2 id (xs, true) y = (xs ++ [y], true) := by unfold st2; rw [if_neg hy]
      rw [e2]
      have := ih (xs ++ [y])
      unfold stS at this
      rw [this]
      unfold dropF
      rw [List.filter_cons_of_pos (by simp [isId, hy]), List.append_assoc]
      rfl
theorem sts_go (id : Int) (h : Hx) (l xs : List Vw) : rawF id h (l.foldl (stS id h) (xs, false)) = xs ++ setQ id h l := by
  induction l generalizing xs with
  | nil =>
    unfold rawF
    rw [List.foldl_nil, if_neg (by simp)]
    rfl
  | cons y r ih =>
    rw [List.foldl_cons]
    by_cases hp : id ≤ y.1
    · have e1 : st1 id h (xs, false) y = (xs ++ [(id, h)], true) := by unfold st1; rw [if_pos ⟨rfl, hp⟩]
      have e3 : stS id h (xs, false) y = stS id h (xs ++ [(id, h)], true) y := by
        have e4 : st1 id h (xs ++ [(id, h)], true) y = (xs ++ [(id, h)], true) := by unfold st1; rw [if_neg (fun h => by cases h.1)]
        unfold stS
        rw [e1, e4]
      rw [e3, ← List.foldl_cons, sts_done]
      unfold rawF
      rw [if_pos rfl, List.append_assoc]
      show _ = xs ++ (if id ≤ y.1 then (id, h) :: dropF (y :: r) id else y :: setQ id h r)
      rw [if_pos hp]
      rfl
    · have e1 : st1 id h (xs, false) y = (xs, false) := by unfold st1; rw [if_neg (fun h => hp h.2)]
      have e2 : stS id h (xs, false) y = (xs ++ [y], false) := by
        unfold stS
        rw [e1]
        unfold st2
        rw [if_neg (by omega)]
      rw [e2, ih]
      show _ = xs ++ (if id ≤ y.1 then (id, h) :: dropF (y :: r) id else y :: setQ id h r)
      rw [if_neg hp, List.append_assoc]
      rfl
theorem raw_eq (id : Int) (h : Hx) (l : List Vw) : rawS id h l = setQ id h l := sts_go id h l []
theorem mem_drop {l : List Vw} {id : Int} {y : Vw} : y ∈ dropF l id ↔ y ∈ l ∧ y.1 ≠ id := by
  unfold dropF
  rw [List.mem_filter]
  simp [isId]
theorem mem_setQ {id : Int} {h : Hx} {l : List Vw} {y : Vw} : y ∈ setQ id h l ↔ y = (id, h) ∨ (y ∈ l ∧ y.1 ≠ id) := by
  induction l with
  | nil => simp [setQ]
  | cons z r ih =>
    show y ∈ (if id ≤ z.1 then (id, h) :: dropF (z :: r) id else z :: setQ id h r) ↔ _
    by_cases hp : id ≤ z.1
    · rw [if_pos hp, List.mem_cons, mem_drop]
    · rw [if_neg hp, List.mem_cons, ih, List.mem_cons]
      constructor
      · rintro (rfl | h1 | h1)
        · exact .inr ⟨.inl rfl, by omega⟩
        · exact .inl h1
        · exact .inr ⟨.inr h1.1, h1.2⟩
      · rintro (h1 | ⟨rfl | h1, h2⟩)
        · exact .inr (.inl h1)
        · exact .inl rfl
        · exact .inr (.inr ⟨h1, h2⟩)
theorem rise_drop {l : List Vw} (h : Rise l) (id : Int) : Rise (dropF l id) := h.sublist List.filter_sublist
theorem rise_setQ {l : List Vw} (h : Rise l) (id : Int) (x : Hx) : Rise (setQ id x l) := by
  induction l with
  | nil => exact List.pairwise_singleton _ _
  | cons y r ih =>
    obtain ⟨h1, h2⟩ := List.pairwise_cons.1 h
    show Rise (if id ≤ y.1 then (id, x) :: dropF (y :: r) id else y :: setQ id x r)
    by_cases hp : id ≤ y.1
    · rw [if_pos hp]
      refine List.pairwise_cons.2 ⟨fun z hz => ?_, rise_drop h id⟩
      obtain ⟨h3, h4⟩ := mem_drop.1 hz
      show id < z.1
      rcases List.mem_cons.1 h3 with rfl | h3
      · omega
      · have := h1 z h3
        omega
    · rw [if_neg hp]
      refine List.pairwise_cons.2 ⟨fun z hz => ?_, ih h2⟩
      rcases mem_setQ.1 hz with rfl | h3
      · show y.1 < id
        omega
      · exact h1 z h3.1
theorem raw_ok {l : List Vw} {id : Int} {h : Hx} (hl : VOk l) : VOk (rawS id h l) ↔ vOk1 (id, h) := by
  rw [raw_eq, vok_iff]
  obtain ⟨h1, h2⟩ := (vok_iff l).1 hl
  constructor
  · intro h3
    exact h3.2 _ (mem_setQ.2 (.inl rfl))
  · intro h3
    refine ⟨rise_setQ h1 id h, fun y hy => ?_⟩
    rcases mem_setQ.1 hy with rfl | h4
    · exact h3
    · exact h2 y h4.1
/-- What is set, where it may be. -/
structure SetOk (l : List Vw) (id : Int) (h : Hx) (x : List Vw) : Prop where
  ok : VOk x
  l_ : VOk l
  one : vOk1 (id, h)
  mem : ∀ y, y ∈ x ↔ y = (id, h) ∨ (y ∈ l ∧ y.1 ≠ id)
theorem set_ok {l : List Vw} {id : Int} {h : Hx} (hl : VOk l) (h1 : vOk1 (id, h)) : setE l id h = 0 ∧ SetOk l id h (setL l id h) := by
  have h2 := (raw_ok (id := id) (h := h) hl).2 h1
  unfold setE setL
  rw [if_pos ⟨hl, h2⟩, if_pos ⟨hl, h2⟩]
  exact ⟨rfl, h2, hl, h1, fun y => by rw [raw_eq]; exact mem_setQ⟩
theorem set_cases (l : List Vw) (id : Int) (h : Hx) : (setE l id h = 0 ∧ SetOk l id h (setL l id h)) ∨ (setE l id h = 1 ∧ setL l id h = []) := by
  by_cases hh : VOk l ∧ VOk (rawS id h l)
  · exact .inl (set_ok hh.1 ((raw_ok hh.1).1 hh.2))
  · unfold setE setL
    rw [if_neg hh, if_neg hh]
    exact .inr ⟨rfl, rfl⟩
theorem get_mem {l : List Vw} (h : Rise l) {id : Int} {x : Hx} (hm : (id, x) ∈ l) : getV l id = x ∧ getB l id = true := by
  have hb : getB l id = true := List.any_eq_true.2 ⟨_, hm, by simp [isId]⟩
  refine ⟨?_, hb⟩
  unfold getV
  cases hf : l.find? (isId id) with
  | none =>
    have := List.find?_eq_none.1 hf _ hm
    simp [isId] at this
  | some y =>
    have h1 := List.find?_some hf
    have h2 := List.mem_of_find?_eq_some hf
    have e : y = (id, x) := rise_key h h2 hm (by simpa [isId] using h1)
    rw [e]
    rfl
theorem get_none {l : List Vw} {id : Int} (hm : ∀ y ∈ l, y.1 ≠ id) : getV l id = zHx ∧ getB l id = false := by
  have h : ∀ y ∈ l, isId id y = false := fun y hy => by simpa [isId] using hm y hy
  refine ⟨?_, ?_⟩
  · unfold getV
    rw [List.find?_eq_none.2 (fun y hy => by rw [h y hy]; simp)]
    rfl
  · unfold getB
    exact List.any_eq_false.2 fun y hy => by rw [h y hy]; simp
theorem get_same {l l' : List Vw} (h : Rise l) (h' : Rise l') {id : Int} (hm : ∀ y : Vw, y.1 = id → (y ∈ l ↔ y ∈ l')) : getV l id = getV l' id ∧ getB l id = getB l' id := by
  by_cases he : ∃ y ∈ l, y.1 = id
  · obtain ⟨⟨i, x⟩, hy, rfl⟩ := he
    obtain ⟨a1, a2⟩ := get_mem h hy
    obtain ⟨b1, b2⟩ := get_mem h' ((hm _ rfl).1 hy)
    exact ⟨a1.trans b1.symm, a2.trans b2.symm⟩
  · have h1 : ∀ y ∈ l, y.1 ≠ id := fun y hy e => he ⟨y, hy, e⟩
    have h2 : ∀ y ∈ l', y.1 ≠ id := fun y hy e => he ⟨y, (hm y e).2 hy, e⟩
    obtain ⟨a1, a2⟩ := get_none h1
    obtain ⟨b1, b2⟩ := get_none h2
    exact ⟨a1.trans b1.symm, a2.trans b2.symm⟩
theorem drop_one {l : List Vw} (h : Rise l) {id : Int} {x : Hx} (hm : (id, x) ∈ l) : (dropF l id).length + 1 = l.length := by
  induction l with
  | nil => cases hm
  | cons y r ih =>
    obtain ⟨h1, h2⟩ := List.pairwise_cons.1 h
    unfold dropF
    by_cases hy : y.1 = id
    · rw [List.filter_cons_of_neg (by simp [isId, hy]), List.length_cons]
      have : r.filter (fun y => !isId id y) = r := List.filter_eq_self.2 fun z hz => by
        have := h1 z hz
        simp [isId]
        omega
      rw [this]
    · rw [List.filter_cons_of_pos (by simp [isId, hy]), List.length_cons, List.length_cons]
      rcases List.mem_cons.1 hm with e | hm
      · exact absurd (by rw [← e]) hy
      · have := ih h2 hm
        unfold dropF at this
        omega
end Go.Proofs.Ytahhhegknmiinaa
