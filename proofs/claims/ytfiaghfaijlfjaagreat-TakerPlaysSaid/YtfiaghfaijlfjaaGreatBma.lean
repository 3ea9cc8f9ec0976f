/- Objects as batches, the plain mathematics: what is cut, whole, in order, as full as may be. No conditions. -/
import Derived.Test.YtfiaghfaijlfjaaGreatOps
namespace Go.Proofs.YtfiaghfaijlfjaaGreat
set_option maxRecDepth 100000
open Go.RowKit Go.Sort

theorem bs_le37 (y : Ob) : y.bs.length ≤ 37 := by
  unfold Ob.bs obBs
  split
  · have h := htB_le y.n y.t y.o y.r y.d y.i
    unfold obB
    split
    · simp
    · split
      · simp; omega
      · split
        · simp [i8_len]
        · simp; omega
  · simp
theorem osz_app (xs ys : List Ob) : osz (xs ++ ys) = osz xs + osz ys := by
  unfold osz; rw [List.map_append, List.sum_append]
/-- The objects from A on, until T. -/
def seg (ys : List Ob) (A T : Nat) : List Ob := (ys.drop A).take (T - A)
theorem seg_len (ys : List Ob) {A T : Nat} (h : T ≤ ys.length) : (seg ys A T).length = T - A := by
  unfold seg; rw [List.length_take, List.length_drop]; omega
theorem seg_self (ys : List Ob) (A : Nat) : seg ys A A = [] := by unfold seg; simp
theorem seg_join (ys : List Ob) {A B T : Nat} (h1 : A ≤ B) (h2 : B ≤ T) : seg ys A T = seg ys A B ++ seg ys B T := by
  unfold seg
  rw [show T - A = (B - A) + (T - B) by omega, List.take_add, List.drop_drop, show A + (B - A) = B by omega]
theorem seg_succ (ys : List Ob) {A T : Nat} (h1 : A ≤ T) (h2 : T < ys.length) : seg ys A (T + 1) = seg ys A T ++ [ys.getD T z12] := by
  rw [seg_join ys h1 (Nat.le_succ T)]
  congr 1
  unfold seg
  rw [show T + 1 - T = 1 by omega, List.drop_eq_getElem_cons h2, List.take_succ_cons, List.take_zero]
  simp [List.getD, h2]
theorem seg_get (ys : List Ob) {A T i : Nat} (hi : i < T - A) : (seg ys A T).getD i z12 = ys.getD (A + i) z12 := by
  unfold seg; simp [List.getD, hi]
theorem seg_end (ys : List Ob) {A T : Nat} (h : ys.length ≤ T) : seg ys A T = ys.drop A := by
  unfold seg; rw [List.take_of_length_le]; rw [List.length_drop]; omega
theorem seg_ok {ys : List Ob} (h : AllOk ys) (A T : Nat) : AllOk (seg ys A T) := sub_ok h A (T - A)
theorem osz_one (ys : List Ob) {A : Nat} (h : A < ys.length) : osz (seg ys A (A + 1)) = (ys.getD A z12).bs.length := by
  rw [seg_succ ys (Nat.le_refl A) h, seg_self]; simp [osz]
theorem cutF_spec (most : Int) (ys : List Ob) (A : Nat) : ∀ f t : Nat, t ≤ ys.length → ys.length ≤ t + f → t ≤ cutF most ys A f t ∧ cutF most ys A f t ≤ ys.length ∧ ¬ Fit1 most ys A (cutF most ys A f t) ∧ ∀ s, t ≤ s → s < cutF most ys A f t → Fit1 most ys A s
  | 0, t, h1, h2 => by
    rw [cutF]
    exact ⟨Nat.le_refl _, h1, fun h => by have := h.1; omega, fun s h3 h4 => by omega⟩
  | f + 1, t, h1, h2 => by
    rw [cutF]
    by_cases h : Fit1 most ys A t
    · rw [if_pos h]
      have hl := h.1
      obtain ⟨k1, k2, k3, k4⟩ := cutF_spec most ys A f (t + 1) (by omega) (by omega)
      refine ⟨by omega, k2, k3, fun s h3 h4 => ?_⟩
      by_cases e : s = t
      · subst e; exact h
      · exact k4 s (by omega) h4
    · rw [if_neg h]
      exact ⟨Nat.le_refl _, h1, h, fun s h3 h4 => by omega⟩
theorem cut_spec (most : Int) (ys : List Ob) {A : Nat} (hA : A < ys.length) : A + 1 ≤ cutTo most ys A ∧ cutTo most ys A ≤ ys.length ∧ ¬ Fit1 most ys A (cutTo most ys A) ∧ ∀ s, A + 1 ≤ s → s < cutTo most ys A → Fit1 most ys A s :=
  cutF_spec most ys A ys.length (A + 1) hA (by omega)
/-- What is cut fits. -/
theorem cut_fit {most : Int} {ys : List Ob} {A : Nat} (hA : A < ys.length) (hm : 40 ≤ most) : (seg ys A (cutTo most ys A)).length ≤ 32 ∧ 3 + (osz (seg ys A (cutTo most ys A)) : Int) ≤ most := by
  obtain ⟨k1, k2, k3, k4⟩ := cut_spec most ys hA
  rw [seg_len ys k2]
  by_cases h : cutTo most ys A = A + 1
  · rw [h, osz_one ys hA]
    have := bs_le37 (ys.getD A z12)
    omega
  · obtain ⟨h1, h2, h3⟩ := k4 (cutTo most ys A - 1) (by omega) (by omega)
    rw [show cutTo most ys A - 1 + 1 - A = cutTo most ys A - A by omega] at h3
    exact ⟨by omega, h3⟩
theorem packF_nil (most : Int) (ys : List Ob) (f A : Nat) (n : Int) (h : ys.length ≤ A) : packF most ys f A n = [] := by
  cases f with
  | zero => rfl
  | succ f => rw [packF, if_neg (by omega)]
theorem packF_cons {most : Int} {ys : List Ob} {f A : Nat} {n : Int} (h : A < ys.length) : packF most ys (f + 1) A n = (n, seg ys A (cutTo most ys A)) :: packF most ys f (cutTo most ys A) (nxt n) := by
  rw [packF, if_pos h]; rfl
/-- All objects, in their order. -/
theorem packF_all (most : Int) (ys : List Ob) : ∀ (f A : Nat) (n : Int), ys.length ≤ A + f → ((packF most ys f A n).map Prod.snd).flatten = ys.drop A
  | 0, A, n, hf => by rw [packF, List.drop_eq_nil_of_le (by omega)]; rfl
  | f + 1, A, n, hf => by
    by_cases hA : A < ys.length
    · obtain ⟨k1, k2, _, _⟩ := cut_spec most ys hA
      rw [packF_cons hA, List.map_cons, List.flatten_cons, packF_all most ys f (cutTo most ys A) (nxt n) (by omega), ← seg_end ys (A := A) (Nat.le_refl _), ← seg_end ys (A := cutTo most ys A) (Nat.le_refl _)]
      exact (seg_join ys (by omega) k2).symm
    · rw [packF_nil most ys (f + 1) A n (by omega), List.drop_eq_nil_of_le (by omega)]; rfl
/-- The numbers, one behind the other. -/
def numAt (n : Int) : Nat → Int
  | 0 => n
  | i + 1 => numAt (nxt n) i
theorem nxt_rng (n : Int) : 0 ≤ nxt n ∧ nxt n ≤ 65535 := by unfold nxt; omega
theorem lft_rng (n : Int) : 0 ≤ lft n ∧ lft n ≤ 65535 := by unfold lft; omega
theorem packF_num (most : Int) (ys : List Ob) : ∀ (f A : Nat) (n : Int) (i : Nat), i < (packF most ys f A n).length → ((packF most ys f A n).getD i zb).1 = numAt n i
  | 0, A, n, i, h => by simp [packF] at h
  | f + 1, A, n, i, h => by
    by_cases hA : A < ys.length
    · rw [packF_cons hA] at h ⊢
      cases i with
      | zero => rfl
      | succ i =>
        rw [List.getD_cons_succ, numAt]
        exact packF_num most ys f (cutTo most ys A) (nxt n) i (by simpa using h)
    · rw [packF_nil most ys (f + 1) A n (by omega)] at h; simp at h
/-- Each one is right, and no longer than was asked for. -/
theorem packF_ok {most : Int} {ys : List Ob} (hok : AllOk ys) (hm : 40 ≤ most ∧ most ≤ 512) : ∀ (f A : Nat) (n : Int), 0 ≤ n ∧ n ≤ 65535 → ∀ i, i < (packF most ys f A n).length → BtOk ((packF most ys f A n).getD i zb).1 ((packF most ys f A n).getD i zb).2 ∧ 3 + (osz ((packF most ys f A n).getD i zb).2 : Int) ≤ most
  | 0, A, n, hn, i, h => by simp [packF] at h
  | f + 1, A, n, hn, i, h => by
    by_cases hA : A < ys.length
    · rw [packF_cons hA] at h ⊢
      cases i with
      | zero =>
        rw [List.getD_cons_zero]
        obtain ⟨k1, k2, _, _⟩ := cut_spec most ys hA
        obtain ⟨c1, c2⟩ := cut_fit hA hm.1
        have hl := seg_len ys (A := A) k2
        dsimp only
        exact ⟨⟨hn, ⟨by omega, c1⟩, seg_ok hok A _, by omega⟩, c2⟩
      | succ i =>
        rw [List.getD_cons_succ]
        exact packF_ok hok hm f (cutTo most ys A) (nxt n) (nxt_rng n) i (by simpa using h)
    · rw [packF_nil most ys (f + 1) A n (by omega)] at h; simp at h
/-- The first object of the next one would have been too much. -/
theorem packF_full (most : Int) (ys : List Ob) : ∀ (f A : Nat) (n : Int), ys.length ≤ A + f → ∀ i, i + 1 < (packF most ys f A n).length → 1 ≤ ((packF most ys f A n).getD (i + 1) zb).2.length ∧ ¬ (((packF most ys f A n).getD i zb).2.length < 32 ∧ 3 + (osz ((packF most ys f A n).getD i zb).2 : Int) + ((((packF most ys f A n).getD (i + 1) zb).2.getD 0 z12).bs.length : Int) ≤ most)
  | 0, A, n, hf, i, h => by simp [packF] at h
  | f + 1, A, n, hf, i, h => by
    by_cases hA : A < ys.length
    · obtain ⟨k1, k2, k3, _⟩ := cut_spec most ys hA
      rw [packF_cons hA] at h ⊢
      cases i with
      | zero =>
        rw [List.getD_cons_zero, List.getD_cons_succ]
        have h' : 0 < (packF most ys f (cutTo most ys A) (nxt n)).length := by simpa using h
        by_cases hT : cutTo most ys A < ys.length
        · cases f with
          | zero => simp [packF] at h'
          | succ f =>
            rw [packF_cons hT, List.getD_cons_zero]
            obtain ⟨j1, j2, _, _⟩ := cut_spec most ys hT
            have hl := seg_len ys (A := cutTo most ys A) j2
            dsimp only
            refine ⟨by omega, fun hc => k3 ⟨hT, ?_, ?_⟩⟩
            · rw [seg_len ys k2] at hc; exact hc.1
            · have h3 := hc.2
              rw [seg_get ys (show 0 < _ by omega), Nat.add_zero] at h3
              have h4 : osz (seg ys A (cutTo most ys A + 1)) = osz (seg ys A (cutTo most ys A)) + (ys.getD (cutTo most ys A) z12).bs.length := by
                rw [seg_succ ys (by omega) hT, osz_app]; simp [osz]
              unfold seg at h4 h3
              omega
        · rw [packF_nil most ys f _ _ (by omega)] at h'; simp at h'
      | succ i =>
        rw [List.getD_cons_succ, List.getD_cons_succ]
        exact packF_full most ys f (cutTo most ys A) (nxt n) (by omega) i (by simpa using h)
    · rw [packF_nil most ys (f + 1) A n (by omega)] at h; simp at h
theorem packL_all (most : Int) (ys : List Ob) (first : Int) : ((packL most ys first).map Prod.snd).flatten = ys := packF_all most ys ys.length 0 _ (by omega)
theorem packL_num (most : Int) (ys : List Ob) (first : Int) (i : Nat) (h : i < (packL most ys first).length) : ((packL most ys first).getD i zb).1 = numAt (lft first) i := packF_num most ys ys.length 0 _ i h
theorem packL_ok {most : Int} {ys : List Ob} (hok : AllOk ys) (hm : 40 ≤ most ∧ most ≤ 512) (first : Int) (i : Nat) (h : i < (packL most ys first).length) : BtOk ((packL most ys first).getD i zb).1 ((packL most ys first).getD i zb).2 ∧ 3 + (osz ((packL most ys first).getD i zb).2 : Int) ≤ most := packF_ok hok hm ys.length 0 _ (lft_rng first) i h
theorem packL_full (most : Int) (ys : List Ob) (first : Int) (i : Nat) (h : i + 1 < (packL most ys first).length) : 1 ≤ ((packL most ys first).getD (i + 1) zb).2.length ∧ ¬ (((packL most ys first).getD i zb).2.length < 32 ∧ 3 + (osz ((packL most ys first).getD i zb).2 : Int) + ((((packL most ys first).getD (i + 1) zb).2.getD 0 z12).bs.length : Int) ≤ most) := packF_full most ys ys.length 0 _ (by omega) i h
theorem packF_le (most : Int) (ys : List Ob) : ∀ (f A : Nat) (n : Int), (packF most ys f A n).length ≤ f
  | 0, A, n => by simp [packF]
  | f + 1, A, n => by
    by_cases hA : A < ys.length
    · rw [packF_cons hA, List.length_cons]; have := packF_le most ys f (cutTo most ys A) (nxt n); omega
    · rw [packF_nil most ys (f + 1) A n (by omega)]; simp
theorem packL_le (most : Int) (ys : List Ob) (first : Int) : (packL most ys first).length ≤ ys.length := packF_le most ys ys.length 0 _
end Go.Proofs.YtfiaghfaijlfjaaGreat

