/- Mathematics of a stable merge in place (symmetric comparisons): rows of elements under a strict order. Of no program. -/

import Derived.Below
namespace Go.Proofs.Ytmimgpnogjgliaa

section
variable {α : Type} {lt : α → α → Prop}
theorem pw_take_drop {L : List α} (h : L.Pairwise lt) (s : Nat) : ∀ x ∈ L.take s, ∀ y ∈ L.drop s, lt x y := by
  have := (List.take_append_drop s L) ▸ h
  exact (List.pairwise_append.1 this).2.2
/-- What stands ahead of a place is no greater than what stands there. -/
theorem pw_le_last (tr : ∀ x y z, lt x y → lt y z → lt x z) {L : List α} (h : L.Pairwise lt) {s : Nat} (h0 : 0 < s) (hs : s ≤ L.length) {z : α} (hz : lt (L[s - 1]'(by omega)) z) : ∀ x ∈ L.take s, lt x z := by
  intro x hx
  obtain ⟨i, hi, rfl⟩ := List.mem_iff_getElem.1 hx
  rw [List.length_take] at hi
  rw [List.getElem_take]
  by_cases e : i = s - 1
  · subst e; exact hz
  · exact tr _ _ _ (List.pairwise_iff_getElem.1 h i (s - 1) (by omega) (by omega) (by omega)) hz
theorem pw_first_le (tr : ∀ x y z, lt x y → lt y z → lt x z) {L : List α} (h : L.Pairwise lt) {s : Nat} (hs : s < L.length) {z : α} (hz : lt z L[s]) : ∀ y ∈ L.drop s, lt z y := by
  intro y hy
  obtain ⟨i, hi, rfl⟩ := List.mem_iff_getElem.1 hy
  rw [List.length_drop] at hi
  rw [List.getElem_drop]
  by_cases e : i = 0
  · subst e; exact hz
  · exact tr _ _ _ hz (List.pairwise_iff_getElem.1 h s (s + i) hs (by omega) (by omega))
/-- Two rows that rise, each cut in two, so that the last ones of the first parts are below the first ones of the others: all of the first parts is below all of the others. -/
theorem sym_split (tr : ∀ x y z, lt x y → lt y z → lt x z) {L R : List α} (hL : L.Pairwise lt) (hR : R.Pairwise lt) {s e : Nat} (hs : s ≤ L.length) (he : e ≤ R.length)
    (h1 : ∀ (a : 0 < s) (b : e < R.length), lt (L[s - 1]'(by omega)) R[e]) (h2 : ∀ (a : 0 < e) (b : s < L.length), lt (R[e - 1]'(by omega)) L[s]) :
    ∀ x ∈ L.take s ++ R.take e, ∀ y ∈ L.drop s ++ R.drop e, lt x y := by
  intro x hx y hy
  rcases List.mem_append.1 hx with hx | hx
  · rcases List.mem_append.1 hy with hy | hy
    · exact pw_take_drop hL s x hx y hy
    · have h0 : 0 < s := by
        rcases Nat.eq_zero_or_pos s with h | h
        · subst h; simp at hx
        · exact h
      have hb : e < R.length := by
        rcases Nat.lt_or_ge e R.length with h | h
        · exact h
        · rw [List.drop_eq_nil_of_le h] at hy; cases hy
      exact pw_first_le tr hR hb (pw_le_last tr hL h0 hs (h1 h0 hb) x hx) y hy
  · rcases List.mem_append.1 hy with hy | hy
    · have h0 : 0 < e := by
        rcases Nat.eq_zero_or_pos e with h | h
        · subst h; simp at hx
        · exact h
      have hb : s < L.length := by
        rcases Nat.lt_or_ge s L.length with h | h
        · exact h
        · rw [List.drop_eq_nil_of_le h] at hy; cases hy
      exact pw_first_le tr hL hb (pw_le_last tr hR h0 he (h2 h0 hb) x hx) y hy
    · exact pw_take_drop hR e x hx y hy
/-- The two parts merged: all is merged. -/
theorem sym_join (tr : ∀ x y z, lt x y → lt y z → lt x z) {L R A B : List α} (hL : L.Pairwise lt) (hR : R.Pairwise lt) {s e : Nat} (hs : s ≤ L.length) (he : e ≤ R.length)
    (h1 : ∀ (a : 0 < s) (b : e < R.length), lt (L[s - 1]'(by omega)) R[e]) (h2 : ∀ (a : 0 < e) (b : s < L.length), lt (R[e - 1]'(by omega)) L[s])
    (pA : A.Perm (L.take s ++ R.take e)) (sA : A.Pairwise lt) (pB : B.Perm (L.drop s ++ R.drop e)) (sB : B.Pairwise lt) : (A ++ B).Pairwise lt ∧ (A ++ B).Perm (L ++ R) := by
  have hab := sym_split tr hL hR hs he h1 h2
  refine ⟨List.pairwise_append.2 ⟨sA, sB, fun x hx y hy => hab x (pA.mem_iff.1 hx) y (pB.mem_iff.1 hy)⟩, (pA.append pB).trans ?_⟩
  have e1 : (L ++ R).Perm ((L.take s ++ L.drop s) ++ (R.take e ++ R.drop e)) := by rw [List.take_append_drop, List.take_append_drop]
  refine List.Perm.trans ?_ e1.symm
  rw [List.append_assoc, List.append_assoc]
  refine List.Perm.append_left _ ?_
  rw [← List.append_assoc, ← List.append_assoc]
  exact List.Perm.append_right _ List.perm_append_comm
/-- A row of which the elements are numbered as they stood: which one is ahead of another in a stable sort. -/
def stb (cl : α → α → Bool) (x y : α × Nat) : Prop := cl x.1 y.1 = true ∨ (cl y.1 x.1 = false ∧ x.2 < y.2)
theorem stb_tr {cl : α → α → Bool} (htr : ∀ x y z, cl x y = true → cl y z = true → cl x z = true) (hnt : ∀ x y z, cl x y = false → cl y z = false → cl x z = false) (x y z : α × Nat) (h : stb cl x y) (k : stb cl y z) : stb cl x z := by
  unfold stb at *
  rcases h with h | ⟨h, h'⟩
  · rcases k with k | ⟨k, _⟩
    · exact .inl (htr _ _ _ h k)
    · cases hxz : cl x.1 z.1 with
      | true => exact .inl rfl
      | false => rw [hnt _ _ _ hxz k] at h; cases h
  · rcases k with k | ⟨k, k'⟩
    · cases hxz : cl x.1 z.1 with
      | true => exact .inl rfl
      | false => rw [hnt _ _ _ h hxz] at k; cases k
    · exact .inr ⟨hnt _ _ _ k h, by omega⟩
theorem stb_tot {cl : α → α → Bool} {x y : α × Nat} (hne : x.2 ≠ y.2) : stb cl x y ∨ stb cl y x := by
  unfold stb
  cases h : cl x.1 y.1 with
  | true => exact .inl (.inl rfl)
  | false =>
    cases k : cl y.1 x.1 with
    | true => exact .inr (.inl rfl)
    | false =>
      rcases Nat.lt_or_ge x.2 y.2 with h1 | h1
      · exact .inl (.inr ⟨rfl, h1⟩)
      · exact .inr (.inr ⟨rfl, by omega⟩)
/-- Of one that stood behind another: whether it is ahead of it now is what the comparison says. -/
theorem stb_back {cl : α → α → Bool} {x y : α × Nat} (h : x.2 < y.2) : stb cl y x ↔ cl y.1 x.1 = true := by
  unfold stb
  constructor
  · rintro (h1 | h1)
    · exact h1
    · omega
  · exact .inl
end
end Go.Proofs.Ytmimgpnogjgliaa

