/- The reference's word on which objects are right. No conditions. -/
import Derived.Test.YtfiaghfaijlfjaaGreatObb
namespace Go.Proofs.YtfiaghfaijlfjaaGreat
set_option maxRecDepth 100000
open Go.RowKit Go.Sort

theorem lv0 {p q s : Int} : LvOk p q s false ↔ eqL p q s 0 0 0 = true := by simp [LvOk, eqL_iff]
theorem hg0 {n : Bool} {t o r d i : Int} : HgOk n t o r d i false ↔ eqH n t o r d i false 0 0 0 0 0 = true := by simp [HgOk, eqH_iff]
theorem ok_1 {x : Int} {n : Bool} {t o r d i p q s m : Int} : ObOk 1 x n t o r d i p q s m ↔ NodeOk x ∧ eqL p q s 0 0 0 = true ∧ eqH n t o r d i false 0 0 0 0 0 = true ∧ m = 0 := by
  rw [← lv0, ← hg0]
  exact ⟨fun h => ⟨h.2.1, h.2.2.2.1, h.2.2.2.2.1, h.2.2.2.2.2⟩, fun h => ⟨rfl, h.1, by simp, h.2.1, h.2.2.1, h.2.2.2⟩⟩
theorem ok_2 {x : Int} {n : Bool} {t o r d i p q s m : Int} : ObOk 2 x n t o r d i p q s m ↔ NodeOk x ∧ eqL p q s 0 0 0 = true ∧ m = 0 ∧ HtOk n t o r d i := by
  rw [← lv0]
  exact ⟨fun h => ⟨h.2.1, h.2.2.2.1, h.2.2.2.2.2, h.2.2.2.2.1⟩, fun h => ⟨rfl, h.1, by simp, h.2.1, h.2.2.2, h.2.2.1⟩⟩
theorem ok_3 {x : Int} {n : Bool} {t o r d i p q s m : Int} : ObOk 3 x n t o r d i p q s m ↔ NodeOk x ∧ eqH n t o r d i false 0 0 0 0 0 = true ∧ m = 0 ∧ HtOk false p q s 0 0 := by
  rw [← hg0]
  exact ⟨fun h => ⟨h.2.1, h.2.2.2.2.1, h.2.2.2.2.2, h.2.2.2.1⟩, fun h => ⟨rfl, h.1, by simp, h.2.2.2, h.2.1, h.2.2.1⟩⟩
theorem ok_4 {x : Int} {n : Bool} {t o r d i p q s m : Int} : ObOk 4 x n t o r d i p q s m ↔ NodeOk x ∧ eqL p q s 0 0 0 = true ∧ (0 ≤ m ∧ m ≤ 65535) ∧ told n t o r d i = true := by
  rw [← lv0, ← told_eq]
  constructor
  · intro h
    refine ⟨h.2.1, h.2.2.2.1, h.2.2.2.2.2, ?_⟩
    have h1 : HtOk n t o r d i := h.2.2.2.2.1
    have h2 := h.2.2.1
    cases n
    · simp [h1]
    · simp at h2
  · intro h
    obtain ⟨h1, h2, h3, h4⟩ := h
    simp only [Bool.and_eq_true, decide_eq_true_eq, Bool.not_eq_true'] at h4
    exact ⟨rfl, h1, by simp [h4.2], h2, h4.1, h3⟩
theorem ok_no {k x : Int} {n : Bool} {t o r d i p q s m : Int} (h1 : k ≠ 1) (h2 : k ≠ 2) (h3 : k ≠ 3) (h4 : k ≠ 4) : ¬ ObOk k x n t o r d i p q s m := fun h => by
  rcases kind_of h with h | h | h | h
  · exact h1 h
  · exact h2 h
  · exact h3 h
  · exact h4 h
set_option maxHeartbeats 4000000 in
theorem rright_1 (x : Int) (n : Bool) (t o r d i p q s m : Int) (bl bh : Bool) (w : World) (ok : ObOk 1 x n t o r d i p q s m ↔ NodeOk x ∧ bl = true ∧ bh = true ∧ m = 0) (hL : eqL p q s 0 0 0 = bl) (hH : eqH n t o r d i false 0 0 0 0 0 = bh) :
    Calls Tryz.prog 93 #[.agg #[.int .i64 1, .int .i64 x, .bool n, .int .i64 t, .int .i64 o, .int .i64 r, .int .i64 d, .int .i64 i, .int .i64 p, .int .i64 q, .int .i64 s, .int .i64 m]] w fun e w' => e = .returned (.bool (decide (ObOk 1 x n t o r d i p q s m))) ∧ Below w.heap.size w w' := by
  have E1 := guard23
  have E2 := eql23
  have E3 := guard25
  have E4 := eql25
  have OK := Lib.hid ok
  clear ok
  cases bl <;> cases bh
  all_goals
    go_enter Tryz.func93, Tryz.ntmps93
    go_wp2_with fail
    all_goals
      go_ret
      refine ⟨?_, by first | assumption | exact (Below.refl _ w).alloc (Nat.le_refl _) _⟩
      first
        | exact ret_true (OK.out.2 ⟨(by unfold NodeOk; omega), by simp, by simp, by omega⟩)
        | exact ret_false (fun h => by obtain ⟨h1, h2, h3, h4⟩ := OK.out.1 h; unfold NodeOk at h1; first | omega | exact absurd h2 (by decide) | exact absurd h3 (by decide))
        | exact ret_dec (Iff.trans ⟨fun h => ⟨(by unfold NodeOk; omega), by simp, by simp, by omega⟩, fun h => by have := h.2.2.2; omega⟩ OK.out.symm)
set_option maxHeartbeats 4000000 in
theorem rright_2 (x : Int) (n : Bool) (t o r d i p q s m : Int) (bl br : Bool) (w : World) (ok : ObOk 2 x n t o r d i p q s m ↔ NodeOk x ∧ bl = true ∧ m = 0 ∧ br = true) (hL : eqL p q s 0 0 0 = bl) (cR : ∀ w, Calls Tryz.prog 115 #[.agg #[.bool n, .int .i64 t, .int .i64 o, .int .i64 r, .int .i64 d, .int .i64 i]] w fun e w' => e = .returned (.bool br) ∧ Below w.heap.size w w') :
    Calls Tryz.prog 93 #[.agg #[.int .i64 2, .int .i64 x, .bool n, .int .i64 t, .int .i64 o, .int .i64 r, .int .i64 d, .int .i64 i, .int .i64 p, .int .i64 q, .int .i64 s, .int .i64 m]] w fun e w' => e = .returned (.bool (decide (ObOk 2 x n t o r d i p q s m))) ∧ Below w.heap.size w w' := by
  have E1 := guard23
  have E2 := eql23
  have E3 := guard25
  have E4 := eql25
  have OK := Lib.hid ok
  clear ok
  cases bl <;> cases br
  all_goals
    go_enter Tryz.func93, Tryz.ntmps93
    go_wp2_with (go_at_call 115; refine (cR _).mono ?_; rintro e w1 ⟨rfl, hb⟩; have HB1 : Below w.heap.size w w1 := ((Below.refl _ w).alloc (Nat.le_refl _) _).trans (hb.mono (by simp)); clear hb)
    all_goals
      go_ret
      refine ⟨?_, by first | assumption | exact (Below.refl _ w).alloc (Nat.le_refl _) _⟩
      first
        | exact ret_true (OK.out.2 ⟨(by unfold NodeOk; omega), by simp, by omega, by simp⟩)
        | exact ret_false (fun h => by obtain ⟨h1, h2, h3, h4⟩ := OK.out.1 h; unfold NodeOk at h1; first | omega | exact absurd h2 (by decide) | exact absurd h4 (by decide))
        | exact ret_dec (Iff.trans ⟨fun h => ⟨(by unfold NodeOk; omega), by simp, by omega, by simp⟩, fun h => by have := h.2.2.1; omega⟩ OK.out.symm)
set_option maxHeartbeats 4000000 in
theorem rright_3 (x : Int) (n : Bool) (t o r d i p q s m : Int) (bh br : Bool) (w : World) (ok : ObOk 3 x n t o r d i p q s m ↔ NodeOk x ∧ bh = true ∧ m = 0 ∧ br = true) (hH : eqH n t o r d i false 0 0 0 0 0 = bh) (cR : ∀ w, Calls Tryz.prog 115 #[.agg #[.bool false, .int .i64 p, .int .i64 q, .int .i64 s, .int .i64 0, .int .i64 0]] w fun e w' => e = .returned (.bool br) ∧ Below w.heap.size w w') :
    Calls Tryz.prog 93 #[.agg #[.int .i64 3, .int .i64 x, .bool n, .int .i64 t, .int .i64 o, .int .i64 r, .int .i64 d, .int .i64 i, .int .i64 p, .int .i64 q, .int .i64 s, .int .i64 m]] w fun e w' => e = .returned (.bool (decide (ObOk 3 x n t o r d i p q s m))) ∧ Below w.heap.size w w' := by
  have E1 := guard23
  have E2 := eql23
  have E3 := guard25
  have E4 := eql25
  have OK := Lib.hid ok
  clear ok
  cases bh <;> cases br
  all_goals
    go_enter Tryz.func93, Tryz.ntmps93
    go_wp2_with (go_at_call 115; refine (cR _).mono ?_; rintro e w1 ⟨rfl, hb⟩; have HB1 : Below w.heap.size w w1 := ((Below.refl _ w).alloc (Nat.le_refl _) _).trans (hb.mono (by simp)); clear hb)
    all_goals
      go_ret
      refine ⟨?_, by first | assumption | exact (Below.refl _ w).alloc (Nat.le_refl _) _⟩
      first
        | exact ret_true (OK.out.2 ⟨(by unfold NodeOk; omega), by simp, by omega, by simp⟩)
        | exact ret_false (fun h => by obtain ⟨h1, h2, h3, h4⟩ := OK.out.1 h; unfold NodeOk at h1; first | omega | exact absurd h2 (by decide) | exact absurd h4 (by decide))
        | exact ret_dec (Iff.trans ⟨fun h => ⟨(by unfold NodeOk; omega), by simp, by omega, by simp⟩, fun h => by have := h.2.2.1; omega⟩ OK.out.symm)
set_option maxHeartbeats 4000000 in
theorem rright_4 (x : Int) (n : Bool) (t o r d i p q s m : Int) (bl br : Bool) (w : World) (ok : ObOk 4 x n t o r d i p q s m ↔ NodeOk x ∧ bl = true ∧ (0 ≤ m ∧ m ≤ 65535) ∧ br = true) (hL : eqL p q s 0 0 0 = bl) (cR : ∀ w, Calls Tryz.prog 116 #[.agg #[.bool n, .int .i64 t, .int .i64 o, .int .i64 r, .int .i64 d, .int .i64 i]] w fun e w' => e = .returned (.bool br) ∧ Below w.heap.size w w') :
    Calls Tryz.prog 93 #[.agg #[.int .i64 4, .int .i64 x, .bool n, .int .i64 t, .int .i64 o, .int .i64 r, .int .i64 d, .int .i64 i, .int .i64 p, .int .i64 q, .int .i64 s, .int .i64 m]] w fun e w' => e = .returned (.bool (decide (ObOk 4 x n t o r d i p q s m))) ∧ Below w.heap.size w w' := by
  have E1 := guard23
  have E2 := eql23
  have E3 := guard25
  have E4 := eql25
  have OK := Lib.hid ok
  clear ok
  cases bl <;> cases br
  all_goals
    go_enter Tryz.func93, Tryz.ntmps93
    go_wp2_with (go_at_call 116; refine (cR _).mono ?_; rintro e w1 ⟨rfl, hb⟩; have HB1 : Below w.heap.size w w1 := ((Below.refl _ w).alloc (Nat.le_refl _) _).trans (hb.mono (by simp)); clear hb)
    all_goals
      go_ret
      refine ⟨?_, by first | assumption | exact (Below.refl _ w).alloc (Nat.le_refl _) _⟩
      first
        | exact ret_true (OK.out.2 ⟨(by unfold NodeOk; omega), by simp, by omega, by simp⟩)
        | exact ret_false (fun h => by obtain ⟨h1, h2, h3, h4⟩ := OK.out.1 h; unfold NodeOk at h1; first | omega | exact absurd h2 (by decide) | exact absurd h4 (by decide))
        | exact ret_dec (Iff.trans ⟨fun h => ⟨(by unfold NodeOk; omega), by simp, by omega, by simp⟩, fun h => by have := h.2.2.1; omega⟩ OK.out.symm)
set_option maxHeartbeats 4000000 in
theorem rright_other (k x : Int) (n : Bool) (t o r d i p q s m : Int) (w : World) (h1 : k ≠ 1) (h2 : k ≠ 2) (h3 : k ≠ 3) (h4 : k ≠ 4) :
    Calls Tryz.prog 93 #[.agg #[.int .i64 k, .int .i64 x, .bool n, .int .i64 t, .int .i64 o, .int .i64 r, .int .i64 d, .int .i64 i, .int .i64 p, .int .i64 q, .int .i64 s, .int .i64 m]] w fun e w' => e = .returned (.bool (decide (ObOk k x n t o r d i p q s m))) ∧ Below w.heap.size w w' := by
  have E1 := guard23
  have E2 := eql23
  have E3 := guard25
  have E4 := eql25
  have hn : Ending.returned (.bool false) = .returned (.bool (decide (ObOk k x n t o r d i p q s m))) := ret_false (ok_no h1 h2 h3 h4)
  have HN := Lib.hid hn
  have e4 : (k == 4) = false := by simpa using h4
  have e2 : (k == 2) = false := by simpa using h2
  have e1 : (k == 1) = false := by simpa using h1
  have e3 : (k == 3) = false := by simpa using h3
  clear hn h1 h2 h3 h4
  go_enter Tryz.func93, Tryz.ntmps93
  go_wp2_with fail
  all_goals
    go_ret
    exact ⟨HN.out, (Below.refl _ w).alloc (Nat.le_refl _) _⟩
theorem oright_any (k x : Int) (n : Bool) (t o r d i p q s m : Int) (w : World) :
    Calls Tryz.prog 93 #[.agg #[.int .i64 k, .int .i64 x, .bool n, .int .i64 t, .int .i64 o, .int .i64 r, .int .i64 d, .int .i64 i, .int .i64 p, .int .i64 q, .int .i64 s, .int .i64 m]] w fun e w' => e = .returned (.bool (decide (ObOk k x n t o r d i p q s m))) ∧ Below w.heap.size w w' := by
  by_cases h1 : k = 1
  · subst h1
    exact rright_1 x n t o r d i p q s m _ _ w ok_1 rfl rfl
  by_cases h2 : k = 2
  · subst h2
    exact rright_2 x n t o r d i p q s m _ (decide (HtOk n t o r d i)) w (by rw [decide_eq_true_eq]; exact ok_2) rfl (fun w => rright_any n t o r d i w)
  by_cases h3 : k = 3
  · subst h3
    exact rright_3 x n t o r d i p q s m _ (decide (HtOk false p q s 0 0)) w (by rw [decide_eq_true_eq]; exact ok_3) rfl (fun w => rright_any false p q s 0 0 w)
  by_cases h4 : k = 4
  · subst h4
    exact rright_4 x n t o r d i p q s m _ _ w ok_4 rfl (fun w => rtold_any n t o r d i w)
  exact rright_other k x n t o r d i p q s m w h1 h2 h3 h4
end Go.Proofs.YtfiaghfaijlfjaaGreat

