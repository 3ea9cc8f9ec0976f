/- The reference's heights: which are right, told, levels. No conditions. -/
import Derived.Test.YtmimgpnogjgliaaLev
namespace Go.Proofs.Ytmimgpnogjgliaa
set_option maxRecDepth 100000
open Go.RowKit Go.Sort

theorem htF {t o r d i : Int} : HtOk false t o r d i ↔ NodeOk i ∧ RowOk t o r d := by simp [HtOk]
set_option maxHeartbeats 4000000 in
theorem rright_any (n : Bool) (t o r d i : Int) (w : World) :
    Calls Try.prog 54 #[.agg #[.bool n, .int .i64 t, .int .i64 o, .int .i64 r, .int .i64 d, .int .i64 i]] w fun e w' => e = .returned (.bool (decide (HtOk n t o r d i))) ∧ Below w.heap.size w w' := by
  have E1 := guard23
  have E2 := eql23
  cases n with
  | true =>
    cases hq : eqH true t o r d i true 0 0 0 0 i with
    | true =>
      have hn : NullOk t o r d := ⟨(eqH_iff.1 hq).2.1, (eqH_iff.1 hq).2.2.1, (eqH_iff.1 hq).2.2.2.1, (eqH_iff.1 hq).2.2.2.2.1⟩
      go_enter Try.func54, Try.ntmps54
      go_wp2_with fail
      all_goals
        go_ret
        first
          | exact ⟨ret_true ⟨by unfold NodeOk; omega, .inl ⟨rfl, hn⟩⟩, (Below.refl _ w).alloc (Nat.le_refl _) _⟩
          | exact ⟨ret_false (fun h => by have := h.1; unfold NodeOk at this; omega), (Below.refl _ w).alloc (Nat.le_refl _) _⟩
    | false =>
      have hn : ¬ HtOk true t o r d i := fun h => by
          rcases h.2 with ⟨-, rfl, rfl, rfl, rfl⟩ | ⟨h, -⟩
          · rw [eqH_iff.2 ⟨rfl, rfl, rfl, rfl, rfl, rfl⟩] at hq; cases hq
          · cases h
      have HN := Lib.hid hn
      clear hn
      go_enter Try.func54, Try.ntmps54
      go_wp2_with fail
      all_goals
        go_ret
        exact ⟨ret_false HN.out, (Below.refl _ w).alloc (Nat.le_refl _) _⟩
  | false =>
    go_enter Try.func54, Try.ntmps54
    go_wp2_with fail
    all_goals
      go_ret
      first
        | exact ⟨ret_false (fun h => by have h := htF.1 h; unfold RowOk NodeOk at h; omega), (Below.refl _ w).alloc (Nat.le_refl _) _⟩
        | exact ⟨ret_dec (Iff.trans (by unfold RowOk NodeOk; omega) htF.symm), (Below.refl _ w).alloc (Nat.le_refl _) _⟩
theorem told_eq {n : Bool} {t o r d i : Int} : (decide (HtOk n t o r d i) && !n) = told n t o r d i := by unfold told; cases n <;> simp
set_option maxHeartbeats 4000000 in
theorem rtold_any (n : Bool) (t o r d i : Int) (w : World) :
    Calls Try.prog 34 #[.agg #[.bool n, .int .i64 t, .int .i64 o, .int .i64 r, .int .i64 d, .int .i64 i]] w fun e w' => e = .returned (.bool (told n t o r d i)) ∧ Below w.heap.size w w' := by
  by_cases h : HtOk n t o r d i
  · have hd : decide (HtOk n t o r d i) = true := decide_eq_true h
    have ht : told n t o r d i = !n := by rw [← told_eq, hd]; simp
    rw [ht]
    clear h ht
    go_enter Try.func34, Try.ntmps34
    go_wp2_with (go_at_call 54; refine (rright_any _ _ _ _ _ _ _).mono ?_; rintro e w' ⟨rfl, hb⟩; rw [hd]; have ⟨c0, c1, c2, c3, c4, c5⟩ := (cells6_alloc w n t o r d i 24).below hb)
    go_ret
    exact ⟨rfl, ((Below.refl _ w).alloc (Nat.le_refl _) _).trans (hb.mono (by simp))⟩
  · have hd : decide (HtOk n t o r d i) = false := decide_eq_false h
    have ht : told n t o r d i = false := by rw [← told_eq, hd]; simp
    rw [ht]
    clear h ht
    go_enter Try.func34, Try.ntmps34
    go_wp2_with (go_at_call 54; refine (rright_any _ _ _ _ _ _ _).mono ?_; rintro e w' ⟨rfl, hb⟩; rw [hd])
    go_ret
    exact ⟨rfl, ((Below.refl _ w).alloc (Nat.le_refl _) _).trans (hb.mono (by simp))⟩
theorem rrow_any (n : Bool) (t o r d i : Int) (w : World) :
    Calls Try.prog 56 #[.agg #[.bool n, .int .i64 t, .int .i64 o, .int .i64 r, .int .i64 d, .int .i64 i]] w fun e w' => ∃ v, e = .returned v ∧ Ints w' v [t, o, r, d, i] ∧ Below w.heap.size w w' := by
  go_enter Try.func56, Try.ntmps56
  go_wp2
  go_ret
  exact ⟨_, rfl, ints5 _ _ _ _ _ _ _ _ (by simp), ((Below.refl _ w).alloc (Nat.le_refl _) _).alloc (by simp) _⟩

set_option maxHeartbeats 4000000 in
theorem rlevel_any (n : Bool) (t o r d i : Int) (w : World) :
    Calls Try.prog 41 #[.agg #[.bool n, .int .i64 t, .int .i64 o, .int .i64 r, .int .i64 d, .int .i64 i]] w fun e w' => e = .returned (levV n t o r d i) ∧ Below w.heap.size w w' := by
  cases ht : told n t o r d i with
  | true =>
    rw [levV, if_pos ht]
    go_enter Try.func41, Try.ntmps41
    go_wp2_with (go_at_call 34; refine (rtold_any _ _ _ _ _ _ _).mono ?_; rintro e w' ⟨rfl, hb⟩; rw [ht]; have ⟨c0, c1, c2, c3, c4, c5⟩ := ((cells6_alloc w n t o r d i 24).below ((Below.refl _ _).alloc (Nat.le_refl _) (.cells #[.int .i64 0, .int .i64 0, .int .i64 0] 49))).below hb; have ⟨⟨k0, k1, k2⟩, fz⟩ := (own3_alloc (w.alloc (.cells #[.bool n, .int .i64 t, .int .i64 o, .int .i64 r, .int .i64 d, .int .i64 i] 24)) 0 0 0 49 (w.heap.size + 1) (by simp)).below hb; have HB : Hid (Below w.heap.size w w') := (((Below.refl _ w).alloc (Nat.le_refl _) _).alloc (by simp) _).trans (hb.mono (by simp; omega)); clear hb)
    have hs := set3 ⟨k0, k1, k2⟩ t o r
    have hbs := bel_set3 (b := w.heap.size + 1) HB.out (by omega) t o r
    generalize (((w'.setCell ⟨w.heap.size + 1, 0, none⟩ (.int .i64 t)).setCell ⟨w.heap.size + 1, 1, none⟩ (.int .i64 o)).setCell ⟨w.heap.size + 1, 2, none⟩ (.int .i64 r)) = W5 at *
    obtain ⟨s0, s1, s2⟩ := hs
    exact bodyPost_ret (v := .agg #[.int .i64 t, .int .i64 o, .int .i64 r]) (by simp [results, Try.results41, go_sem, s0, s1, s2]) rfl ⟨rfl, hbs⟩
  | false =>
    rw [levV, if_neg (by rw [ht]; decide)]
    go_enter Try.func41, Try.ntmps41
    go_wp2_with (go_at_call 34; refine (rtold_any _ _ _ _ _ _ _).mono ?_; rintro e w' ⟨rfl, hb⟩; rw [ht]; have ⟨c0, c1, c2, c3, c4, c5⟩ := ((cells6_alloc w n t o r d i 24).below ((Below.refl _ _).alloc (Nat.le_refl _) (.cells #[.int .i64 0, .int .i64 0, .int .i64 0] 49))).below hb; have ⟨⟨k0, k1, k2⟩, fz⟩ := (own3_alloc (w.alloc (.cells #[.bool n, .int .i64 t, .int .i64 o, .int .i64 r, .int .i64 d, .int .i64 i] 24)) 0 0 0 49 (w.heap.size + 1) (by simp)).below hb; have HB : Hid (Below w.heap.size w w') := (((Below.refl _ w).alloc (Nat.le_refl _) _).alloc (by simp) _).trans (hb.mono (by simp; omega)); clear hb)
    have hs := set3 ⟨k0, k1, k2⟩ 0 0 0
    have hbs := bel_set3 (b := w.heap.size + 1) HB.out (by omega) 0 0 0
    generalize (((w'.setCell ⟨w.heap.size + 1, 0, none⟩ (.int .i64 0)).setCell ⟨w.heap.size + 1, 1, none⟩ (.int .i64 0)).setCell ⟨w.heap.size + 1, 2, none⟩ (.int .i64 0)) = W5 at *
    obtain ⟨s0, s1, s2⟩ := hs
    exact bodyPost_ret (v := .agg #[.int .i64 0, .int .i64 0, .int .i64 0]) (by simp [results, Try.results41, go_sem, s0, s1, s2]) rfl ⟨rfl, hbs⟩
end Go.Proofs.Ytmimgpnogjgliaa

