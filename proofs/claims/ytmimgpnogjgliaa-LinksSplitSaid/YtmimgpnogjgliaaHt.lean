/- Heights: which are right. No conditions. -/
import Derived.Test.YtmimgpnogjgliaaPut
import Derived.Test.YtmimgpnogjgliaaHeq
import Derived.BigQuiet
import Derived.Deep.QuietTactic
import Derived.Lib.QuietBelow
namespace Go.Proofs.Ytmimgpnogjgliaa
set_option maxRecDepth 100000
open Go.RowKit Go.Sort

theorem ret_false {p : Prop} [Decidable p] (h : ¬ p) : Ending.returned (.bool false) = .returned (.bool (decide p)) := by rw [decide_eq_false h]
theorem ret_true {p : Prop} [Decidable p] (h : p) : Ending.returned (.bool true) = .returned (.bool (decide p)) := by rw [decide_eq_true h]
theorem ret_dec {q p : Prop} [Decidable q] [Decidable p] (h : q ↔ p) : Ending.returned (.bool (decide q)) = .returned (.bool (decide p)) := by
  congr 2; exact decide_eq_decide.2 h
def NodeOk (i : Int) : Prop := 0 ≤ i ∧ i < 64
instance (i : Int) : Decidable (NodeOk i) := by unfold NodeOk; infer_instance
theorem isNode_any (i : Int) (w : World) :
    Calls Try.prog 43 #[.int .i64 i] w fun e w' => e = .returned (.bool (decide (NodeOk i))) ∧ w = w' := by
  go_enter Try.func43, Try.ntmps43
  go_wp2
  all_goals
    go_ret
    first
      | exact ⟨ret_false (by unfold NodeOk; omega), rfl⟩
      | exact ⟨ret_dec (by unfold NodeOk; omega), rfl⟩
/-- All but the Id of a height that is not Null is within its bounds. -/
def RowOk (t o r d : Int) : Prop := 0 ≤ t ∧ t ≤ 4611686018427387903 ∧ NodeOk o ∧ (r = 0 ∨ r = 1) ∧ -1099511627776 ≤ d ∧ d ≤ 1099511627776
instance (t o r d : Int) : Decidable (RowOk t o r d) := by unfold RowOk; infer_instance
set_option maxHeartbeats 400000 in
theorem isRow_any (n : Bool) (t o r d i : Int) (w : World) :
    Calls Try.prog 44 #[.agg #[.bool n, .int .i64 t, .int .i64 o, .int .i64 r, .int .i64 d, .int .i64 i]] w fun e w' => e = .returned (.bool (decide (RowOk t o r d))) ∧ Below w.heap.size w w' := by
  by_cases h1 : NodeOk o
  · have ho : decide (NodeOk o) = true := decide_eq_true h1
    have H1 := Lib.hid h1
    clear h1
    go_enter Try.func44, Try.ntmps44
    go_wp2_with (go_at_call 43; refine (isNode_any _ _).mono ?_; rintro e w' ⟨rfl, rfl⟩; rw [ho])
    all_goals
      go_ret
      have h1 := H1.out
      first
        | exact ⟨ret_false (by unfold RowOk NodeOk; omega), (Below.refl _ w).alloc (Nat.le_refl _) _⟩
        | exact ⟨ret_dec (by unfold RowOk NodeOk; unfold NodeOk at h1; omega), (Below.refl _ w).alloc (Nat.le_refl _) _⟩
  · have ho : decide (NodeOk o) = false := decide_eq_false h1
    have H1 := Lib.hid h1
    clear h1
    go_enter Try.func44, Try.ntmps44
    go_wp2_with (go_at_call 43; refine (isNode_any _ _).mono ?_; rintro e w' ⟨rfl, rfl⟩; rw [ho])
    all_goals
      go_ret
      exact ⟨ret_false (fun h => H1.out h.2.2.1), (Below.refl _ w).alloc (Nat.le_refl _) _⟩
def NullOk (t o r d : Int) : Prop := t = 0 ∧ o = 0 ∧ r = 0 ∧ d = 0
instance (t o r d : Int) : Decidable (NullOk t o r d) := by unfold NullOk; infer_instance
def HtOk (n : Bool) (t o r d i : Int) : Prop := NodeOk i ∧ (n = true ∧ NullOk t o r d ∨ n = false ∧ RowOk t o r d)
instance (n : Bool) (t o r d i : Int) : Decidable (HtOk n t o r d i) := by unfold HtOk; infer_instance
theorem null_any (i : Int) (w : World) :
    Calls Try.prog 39 #[.int .i64 i] w fun e w' => e = .returned (.agg #[.bool true, .int .i64 0, .int .i64 0, .int .i64 0, .int .i64 0, .int .i64 i]) ∧ Below w.heap.size w w' := by
  go_enter Try.func39, Try.ntmps39
  go_wp2
  refine bodyPost_ret (v := .agg #[.bool true, .int .i64 0, .int .i64 0, .int .i64 0, .int .i64 0, .int .i64 i]) (by simp [results, Try.results39, go_sem]) rfl ⟨rfl, (Below.refl _ w).alloc (Nat.le_refl _) _⟩
/-- The six cells of a height. -/
def Cells6 (w : World) (b : Nat) (n : Bool) (t o r d i : Int) : Prop :=
  w.cell? ⟨b, 0, none⟩ = some (.bool n) ∧ w.cell? ⟨b, 1, none⟩ = some (.int .i64 t) ∧ w.cell? ⟨b, 2, none⟩ = some (.int .i64 o) ∧
  w.cell? ⟨b, 3, none⟩ = some (.int .i64 r) ∧ w.cell? ⟨b, 4, none⟩ = some (.int .i64 d) ∧ w.cell? ⟨b, 5, none⟩ = some (.int .i64 i)
theorem cells6_alloc (w : World) (n : Bool) (t o r d i : Int) (T : TypeId) : Cells6 (w.alloc (.cells #[.bool n, .int .i64 t, .int .i64 o, .int .i64 r, .int .i64 d, .int .i64 i] T)) w.heap.size n t o r d i := by
  simp [Cells6]
theorem Cells6.below {w w' : World} {b : Nat} {n : Bool} {t o r d i : Int} (h : Cells6 w b n t o r d i) (hb : Below w.heap.size w w') : Cells6 w' b n t o r d i := by
  obtain ⟨h0, h1, h2, h3, h4, h5⟩ := h
  have k : ∀ {a : Addr} {v : Value}, w.cell? a = some v → w'.cell? a = some v := fun h => by rw [hb.cell (World.block_lt_of_cell? w _ h)]; exact h
  exact ⟨k h0, k h1, k h2, k h3, k h4, k h5⟩
/-- Its cells behind whatever blocks. -/
theorem Cells6.regrown {w : World} {b : Nat} {n : Bool} {t o r d i : Int} (h : Cells6 w b n t o r d i) :
    (∀ D os, (grow (redrawn w D) os).cell? ⟨b, 0, none⟩ = some (.bool n)) ∧ (∀ D os, (grow (redrawn w D) os).cell? ⟨b, 1, none⟩ = some (.int .i64 t)) ∧
    (∀ D os, (grow (redrawn w D) os).cell? ⟨b, 2, none⟩ = some (.int .i64 o)) ∧ (∀ D os, (grow (redrawn w D) os).cell? ⟨b, 3, none⟩ = some (.int .i64 r)) ∧
    (∀ D os, (grow (redrawn w D) os).cell? ⟨b, 4, none⟩ = some (.int .i64 d)) ∧ (∀ D os, (grow (redrawn w D) os).cell? ⟨b, 5, none⟩ = some (.int .i64 i)) :=
  ⟨cell_regrown h.1, cell_regrown h.2.1, cell_regrown h.2.2.1, cell_regrown h.2.2.2.1, cell_regrown h.2.2.2.2.1, cell_regrown h.2.2.2.2.2⟩
/-- What Check answers. -/
def chk (n : Bool) (t o r d i : Int) : Int := if HtOk n t o r d i then 0 else 1
theorem chk_ok {n : Bool} {t o r d i : Int} (h : HtOk n t o r d i) : chk n t o r d i = 0 := by unfold chk; rw [if_pos h]
theorem chk_no {n : Bool} {t o r d i : Int} (h : ¬ HtOk n t o r d i) : chk n t o r d i = 1 := by unfold chk; rw [if_neg h]
set_option maxHeartbeats 4000000 in
theorem check_any (n : Bool) (t o r d i : Int) (w : World) :
    Calls Try.prog 23 #[.agg #[.bool n, .int .i64 t, .int .i64 o, .int .i64 r, .int .i64 d, .int .i64 i]] w fun e w' => e = .returned (.int .i64 (chk n t o r d i)) ∧ Below w.heap.size w w' := by
  have E1 := guard23
  have E2 := neq23
  by_cases h1 : NodeOk i
  · have ho : decide (NodeOk i) = true := decide_eq_true h1
    cases n with
    | true =>
      cases hq : eqH true t o r d i true 0 0 0 0 i with
      | true =>
        rw [chk_ok ⟨h1, .inl ⟨rfl, (eqH_iff.1 hq).2.1, (eqH_iff.1 hq).2.2.1, (eqH_iff.1 hq).2.2.2.1, (eqH_iff.1 hq).2.2.2.2.1⟩⟩]
        go_enter Try.func23, Try.ntmps23
        go_wp2_with (go_at_call 43; refine (isNode_any _ _).mono ?_; rintro e w' ⟨rfl, rfl⟩; rw [ho])
        have hbel : Below w.heap.size w (w.alloc (.cells #[.bool true, .int .i64 t, .int .i64 o, .int .i64 r, .int .i64 d, .int .i64 i] 24)) := (Below.refl _ w).alloc (Nat.le_refl _) _
        have c := cells6_alloc w true t o r d i 24
        generalize w.alloc (.cells #[.bool true, .int .i64 t, .int .i64 o, .int .i64 r, .int .i64 d, .int .i64 i] 24) = W at *
        obtain ⟨k0, k1, k2, k3, k4, k5⟩ := c.regrown
        clear c
        refine wp_region_quiet_below (by kernel_rfl) (by kernel_rfl) ?_
        repeat (quiet_step (first | exact Calls.regrown_of (null_any _ _)))
        refine wpQuiet_nil ?_
        rintro _ ⟨⟨dq, osq⟩, rfl⟩
        have hb2 := hbel.trans ((below_regrown W dq osq).mono hbel.size)
        go_wp2_with fail
        go_ret
        exact ⟨rfl, hb2⟩
      | false =>
        rw [chk_no (fun h => by
          rcases h.2 with ⟨-, rfl, rfl, rfl, rfl⟩ | ⟨h, -⟩
          · rw [eqH_iff.2 ⟨rfl, rfl, rfl, rfl, rfl, rfl⟩] at hq; cases hq
          · cases h)]
        go_enter Try.func23, Try.ntmps23
        go_wp2_with (go_at_call 43; refine (isNode_any _ _).mono ?_; rintro e w' ⟨rfl, rfl⟩; rw [ho])
        have hbel : Below w.heap.size w (w.alloc (.cells #[.bool true, .int .i64 t, .int .i64 o, .int .i64 r, .int .i64 d, .int .i64 i] 24)) := (Below.refl _ w).alloc (Nat.le_refl _) _
        have c := cells6_alloc w true t o r d i 24
        generalize w.alloc (.cells #[.bool true, .int .i64 t, .int .i64 o, .int .i64 r, .int .i64 d, .int .i64 i] 24) = W at *
        obtain ⟨k0, k1, k2, k3, k4, k5⟩ := c.regrown
        clear c
        refine wp_region_quiet_below (by kernel_rfl) (by kernel_rfl) ?_
        repeat (quiet_step (first | exact Calls.regrown_of (null_any _ _)))
        refine wpQuiet_nil ?_
        rintro _ ⟨⟨dq, osq⟩, rfl⟩
        have hb2 := hbel.trans ((below_regrown W dq osq).mono hbel.size)
        go_wp2_with fail
        go_ret
        exact ⟨rfl, hb2⟩
    | false =>
      by_cases hr : RowOk t o r d
      · have cR : ∀ W, Calls Try.prog 44 #[.agg #[.bool false, .int .i64 t, .int .i64 o, .int .i64 r, .int .i64 d, .int .i64 i]] W fun e w' => e = .returned (.bool true) ∧ Below W.heap.size W w' := fun W => by
          rw [← decide_eq_true hr]; exact isRow_any _ _ _ _ _ _ _
        rw [chk_ok ⟨h1, .inr ⟨rfl, hr⟩⟩]
        go_enter Try.func23, Try.ntmps23
        go_wp2_with (go_at_call 43; refine (isNode_any _ _).mono ?_; rintro e w' ⟨rfl, rfl⟩; rw [ho])
        have hbel : Below w.heap.size w (w.alloc (.cells #[.bool false, .int .i64 t, .int .i64 o, .int .i64 r, .int .i64 d, .int .i64 i] 24)) := (Below.refl _ w).alloc (Nat.le_refl _) _
        have c := cells6_alloc w false t o r d i 24
        generalize w.alloc (.cells #[.bool false, .int .i64 t, .int .i64 o, .int .i64 r, .int .i64 d, .int .i64 i] 24) = W at *
        obtain ⟨k0, k1, k2, k3, k4, k5⟩ := c.regrown
        clear c
        refine wp_region_quiet_below (by kernel_rfl) (by kernel_rfl) ?_
        repeat (quiet_step (first | exact Calls.regrown_of (null_any _ _) | exact Calls.regrown_of (cR _)))
        refine wpQuiet_nil ?_
        rintro _ ⟨⟨dq, osq⟩, rfl⟩
        have hb2 := hbel.trans ((below_regrown W dq osq).mono hbel.size)
        go_wp2_with fail
        go_ret
        exact ⟨rfl, hb2⟩
      · have cR : ∀ W, Calls Try.prog 44 #[.agg #[.bool false, .int .i64 t, .int .i64 o, .int .i64 r, .int .i64 d, .int .i64 i]] W fun e w' => e = .returned (.bool false) ∧ Below W.heap.size W w' := fun W => by
          rw [← decide_eq_false hr]; exact isRow_any _ _ _ _ _ _ _
        rw [chk_no (fun h => by rcases h.2 with ⟨h, -⟩ | ⟨-, h⟩; · cases h
                                exact hr h)]
        go_enter Try.func23, Try.ntmps23
        go_wp2_with (go_at_call 43; refine (isNode_any _ _).mono ?_; rintro e w' ⟨rfl, rfl⟩; rw [ho])
        have hbel : Below w.heap.size w (w.alloc (.cells #[.bool false, .int .i64 t, .int .i64 o, .int .i64 r, .int .i64 d, .int .i64 i] 24)) := (Below.refl _ w).alloc (Nat.le_refl _) _
        have c := cells6_alloc w false t o r d i 24
        generalize w.alloc (.cells #[.bool false, .int .i64 t, .int .i64 o, .int .i64 r, .int .i64 d, .int .i64 i] 24) = W at *
        obtain ⟨k0, k1, k2, k3, k4, k5⟩ := c.regrown
        clear c
        refine wp_region_quiet_below (by kernel_rfl) (by kernel_rfl) ?_
        repeat (quiet_step (first | exact Calls.regrown_of (null_any _ _) | exact Calls.regrown_of (cR _)))
        refine wpQuiet_nil ?_
        rintro _ ⟨⟨dq, osq⟩, rfl⟩
        have hb2 := hbel.trans ((below_regrown W dq osq).mono hbel.size)
        go_wp2_with fail
        go_ret
        exact ⟨rfl, hb2⟩
  · have ho : decide (NodeOk i) = false := decide_eq_false h1
    rw [chk_no (fun h => h1 h.1)]
    go_enter Try.func23, Try.ntmps23
    go_wp2_with (go_at_call 43; refine (isNode_any _ _).mono ?_; rintro e w' ⟨rfl, rfl⟩; rw [ho])
    go_ret
    exact ⟨rfl, (Below.refl _ w).alloc (Nat.le_refl _) _⟩
def told (n : Bool) (t o r d i : Int) : Bool := !n && decide (HtOk n t o r d i)
set_option maxHeartbeats 400000 in
theorem isTold_any (n : Bool) (t o r d i : Int) (w : World) :
    Calls Try.prog 45 #[.agg #[.bool n, .int .i64 t, .int .i64 o, .int .i64 r, .int .i64 d, .int .i64 i]] w fun e w' => e = .returned (.bool (told n t o r d i)) ∧ Below w.heap.size w w' := by
  cases n with
  | true =>
    have ht : told true t o r d i = false := rfl
    rw [ht]
    go_enter Try.func45, Try.ntmps45
    go_wp2_with fail
    go_ret
    exact ⟨rfl, (Below.refl _ w).alloc (Nat.le_refl _) _⟩
  | false =>
    by_cases h : HtOk false t o r d i
    · have hc := chk_ok h
      have ht : told false t o r d i = true := by simp [told, h]
      rw [ht]
      go_enter Try.func45, Try.ntmps45
      go_wp2_with (go_at_call 23; refine (check_any _ _ _ _ _ _ _).mono ?_; rintro e w' ⟨rfl, hb⟩; rw [hc])
      go_ret
      exact ⟨rfl, ((Below.refl _ w).alloc (Nat.le_refl _) _).trans (hb.mono (by simp))⟩
    · have hc := chk_no h
      have ht : told false t o r d i = false := by simp [told, h]
      rw [ht]
      go_enter Try.func45, Try.ntmps45
      go_wp2_with (go_at_call 23; refine (check_any _ _ _ _ _ _ _).mono ?_; rintro e w' ⟨rfl, hb⟩; rw [hc])
      go_ret
      exact ⟨rfl, ((Below.refl _ w).alloc (Nat.le_refl _) _).trans (hb.mono (by simp))⟩
end Go.Proofs.Ytmimgpnogjgliaa

