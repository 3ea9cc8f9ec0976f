/- Texts Cmp, Lev, Obk of this proof, in one. No conditions but on lengths. -/
import Derived.Test.YthnajpckhoomgaaGreatRows
import Derived.Test.YthnajpckhoomgaaGreatU02
import Derived.Test.YthnajpckhoomgaaGreatU04
import Derived.Below
import Derived.BigQuiet
import Derived.Calls
import Derived.ChangeOld
import Derived.Deep.QuietTactic
import Derived.Laws.AppendOwnNone
import Derived.Laws.BytesArg
import Derived.Laws.StructEq
import Derived.Lib.Hide
import Derived.Lib.QuietBelow
import Derived.LoopTactic
import Derived.OpenShut
import Derived.Orders
import Derived.Outline
import Derived.ProofKit
import Derived.ShutString
import Derived.WalkKit
import Derived.WalkSpells
namespace Go.Proofs.YthnajpckhoomgaaGreat
set_option maxRecDepth 100000
open Go.RowKit Go.Sort

/-- A slice of numbers that reads as xs. -/
def Ints (w : World) (v : Value) (xs : List Int) : Prop :=
  ∃ b, v = .slice (some ⟨b, 0, none⟩) xs.length xs.length ∧ xs.length ≤ 1000 ∧ ∀ i, i < xs.length → w.cell? ⟨b, i, none⟩ = some (.int .i64 (xs.getD i 0))
theorem Ints.below {w w' : World} {v : Value} {xs : List Int} (h : Ints w v xs) (hb : Below w.heap.size w w') : Ints w' v xs := by
  obtain ⟨b, h1, h2, h3⟩ := h
  exact ⟨b, h1, h2, fun i hi => by rw [hb.cell (World.block_lt_of_cell? w _ (h3 i hi))]; exact h3 i hi⟩
end Go.Proofs.YthnajpckhoomgaaGreat
namespace Go.Proofs.YthnajpckhoomgaaGreat
set_option maxRecDepth 100000
open Go.RowKit Go.Sort

def Cells3 (w : World) (b : Nat) (t o r : Int) : Prop :=
  w.cell? ⟨b, 0, none⟩ = some (.int .i64 t) ∧ w.cell? ⟨b, 1, none⟩ = some (.int .i64 o) ∧ w.cell? ⟨b, 2, none⟩ = some (.int .i64 r)
theorem Cells3.below {w w' : World} {b : Nat} {t o r : Int} (h : Cells3 w b t o r) (hb : Below w.heap.size w w') : Cells3 w' b t o r := by
  obtain ⟨h0, h1, h2⟩ := h
  have k : ∀ {a : Addr} {v : Value}, w.cell? a = some v → w'.cell? a = some v := fun h => by rw [hb.cell (World.block_lt_of_cell? w _ h)]; exact h
  exact ⟨k h0, k h1, k h2⟩
/-- The cells of a variable that may be written. -/
def Own3 (w : World) (b : Nat) (x y z : Int) : Prop := Cells3 w b x y z ∧ ∀ k, w.frozen? ⟨b, k, none⟩ = false
def Own6 (w : World) (b : Nat) (n : Bool) (t o r d i : Int) : Prop := Cells6 w b n t o r d i ∧ ∀ k, w.frozen? ⟨b, k, none⟩ = false
theorem Own3.below {W w' : World} {b : Nat} {x y z : Int} (h : Own3 W b x y z) (hb : Below W.heap.size W w') : Own3 w' b x y z :=
  ⟨h.1.below hb, fun k => (hb.frozen (p := ⟨b, k, none⟩) (by have hl := World.block_lt_of_cell? W _ h.1.1; exact hl)).trans (h.2 k)⟩
theorem Own6.below {W w' : World} {b : Nat} {n : Bool} {t o r d i : Int} (h : Own6 W b n t o r d i) (hb : Below W.heap.size W w') : Own6 w' b n t o r d i :=
  ⟨h.1.below hb, fun k => (hb.frozen (p := ⟨b, k, none⟩) (by have hl := World.block_lt_of_cell? W _ h.1.1; exact hl)).trans (h.2 k)⟩
theorem own6_alloc (w : World) (n : Bool) (t o r d i : Int) (T : TypeId) (g : Nat) (hg : g = w.heap.size) : Own6 (w.alloc (.cells #[.bool n, .int .i64 t, .int .i64 o, .int .i64 r, .int .i64 d, .int .i64 i] T)) g n t o r d i := by
  subst hg
  exact ⟨cells6_alloc w n t o r d i T, fun k => by simp⟩
theorem set6 {w : World} {b : Nat} {m : Bool} {x1 x2 x3 x4 x5 : Int} (h : Cells6 w b m x1 x2 x3 x4 x5) (n : Bool) (t o r d i : Int) : Cells6 ((((((w.setCell ⟨b, 0, none⟩ (.bool n)).setCell ⟨b, 1, none⟩ (.int .i64 t)).setCell ⟨b, 2, none⟩ (.int .i64 o)).setCell ⟨b, 3, none⟩ (.int .i64 r)).setCell ⟨b, 4, none⟩ (.int .i64 d)).setCell ⟨b, 5, none⟩ (.int .i64 i)) b n t o r d i := by
  obtain ⟨h0, h1, h2, h3, h4, h5⟩ := h
  refine ⟨?_, ?_, ?_, ?_, ?_, ?_⟩ <;> simp [go_sem, h0, h1, h2, h3, h4, h5]
theorem bel_set6 {B : Nat} {a w : World} {b : Nat} (h : Below B a w) (hB : B ≤ b) (n : Bool) (t o r d i : Int) : Below B a ((((((w.setCell ⟨b, 0, none⟩ (.bool n)).setCell ⟨b, 1, none⟩ (.int .i64 t)).setCell ⟨b, 2, none⟩ (.int .i64 o)).setCell ⟨b, 3, none⟩ (.int .i64 r)).setCell ⟨b, 4, none⟩ (.int .i64 d)).setCell ⟨b, 5, none⟩ (.int .i64 i)) :=
  (((((h.setCell (by exact hB) _).setCell (by exact hB) _).setCell (by exact hB) _).setCell (by exact hB) _).setCell (by exact hB) _).setCell (by exact hB) _
/-- What At answers. -/
def atV (t o r d i : Int) : Value := if HtOk false t o r d i then .tuple #[.agg #[.bool false, .int .i64 t, .int .i64 o, .int .i64 r, .int .i64 d, .int .i64 i], .int .i64 0] else .tuple #[.agg #[.bool false, .int .i64 0, .int .i64 0, .int .i64 0, .int .i64 0, .int .i64 0], .int .i64 1]
set_option maxHeartbeats 4000000 in
theorem at_any (t o r d i : Int) (w : World) :
    Calls Tryz.prog 143 #[.agg #[.int .i64 t, .int .i64 o, .int .i64 r], .int .i64 d, .int .i64 i] w fun e w' => e = .returned (atV t o r d i) ∧ Below w.heap.size w w' := by
  by_cases h : HtOk false t o r d i
  · rw [atV, if_pos h]
    have hq := chk_ok h
    clear h
    go_enter Tryz.func143, Tryz.ntmps143
    go_wp2_with (go_at_call 144; refine (check_any _ _ _ _ _ _ _).mono ?_; rintro e w' ⟨rfl, hb⟩; rw [hq]; have ⟨⟨c0, c1, c2, c3, c4, c5⟩, _⟩ := (own6_alloc ((w.alloc (.cells #[.int .i64 t, .int .i64 o, .int .i64 r] 37)).alloc (.cells #[.bool false, .int .i64 0, .int .i64 0, .int .i64 0, .int .i64 0, .int .i64 0] 35)) false t o r d i 35 (w.heap.size + 1 + 1) (by simp)).below hb; have ⟨⟨k0, k1, k2, k3, k4, k5⟩, fz⟩ := ((own6_alloc (w.alloc (.cells #[.int .i64 t, .int .i64 o, .int .i64 r] 37)) false 0 0 0 0 0 35 (w.heap.size + 1) (by simp)).below ((Below.refl _ _).alloc (Nat.le_refl _) (.cells #[.bool false, .int .i64 t, .int .i64 o, .int .i64 r, .int .i64 d, .int .i64 i] 35))).below hb; have HB : Hid (Below w.heap.size w w') := ((((Below.refl _ w).alloc (Nat.le_refl _) _).alloc (by simp) _).alloc (by simp; omega) _).trans (hb.mono (by simp; omega)); clear hb)
    have hs := set6 ⟨k0, k1, k2, k3, k4, k5⟩ false t o r d i
    have hbs := bel_set6 (b := w.heap.size + 1) HB.out (by omega) false t o r d i
    generalize ((((((w'.setCell ⟨w.heap.size + 1, 0, none⟩ (.bool false)).setCell ⟨w.heap.size + 1, 1, none⟩ (.int .i64 t)).setCell ⟨w.heap.size + 1, 2, none⟩ (.int .i64 o)).setCell ⟨w.heap.size + 1, 3, none⟩ (.int .i64 r)).setCell ⟨w.heap.size + 1, 4, none⟩ (.int .i64 d)).setCell ⟨w.heap.size + 1, 5, none⟩ (.int .i64 i)) = W5 at *
    obtain ⟨s0, s1, s2, s3, s4, s5⟩ := hs
    exact bodyPost_ret (v := .tuple #[.agg #[.bool false, .int .i64 t, .int .i64 o, .int .i64 r, .int .i64 d, .int .i64 i], .int .i64 0]) (by simp [results, Tryz.results143, go_sem, s0, s1, s2, s3, s4, s5]) rfl ⟨rfl, hbs⟩
  · rw [atV, if_neg h]
    have hq := chk_no h
    clear h
    go_enter Tryz.func143, Tryz.ntmps143
    go_wp2_with (go_at_call 144; refine (check_any _ _ _ _ _ _ _).mono ?_; rintro e w' ⟨rfl, hb⟩; rw [hq]; have ⟨⟨c0, c1, c2, c3, c4, c5⟩, _⟩ := (own6_alloc ((w.alloc (.cells #[.int .i64 t, .int .i64 o, .int .i64 r] 37)).alloc (.cells #[.bool false, .int .i64 0, .int .i64 0, .int .i64 0, .int .i64 0, .int .i64 0] 35)) false t o r d i 35 (w.heap.size + 1 + 1) (by simp)).below hb; have ⟨⟨k0, k1, k2, k3, k4, k5⟩, fz⟩ := ((own6_alloc (w.alloc (.cells #[.int .i64 t, .int .i64 o, .int .i64 r] 37)) false 0 0 0 0 0 35 (w.heap.size + 1) (by simp)).below ((Below.refl _ _).alloc (Nat.le_refl _) (.cells #[.bool false, .int .i64 t, .int .i64 o, .int .i64 r, .int .i64 d, .int .i64 i] 35))).below hb; have HB : Hid (Below w.heap.size w w') := ((((Below.refl _ w).alloc (Nat.le_refl _) _).alloc (by simp) _).alloc (by simp; omega) _).trans (hb.mono (by simp; omega)); clear hb)
    have hs := set6 ⟨k0, k1, k2, k3, k4, k5⟩ false 0 0 0 0 0
    have hbs := bel_set6 (b := w.heap.size + 1) HB.out (by omega) false 0 0 0 0 0
    generalize ((((((w'.setCell ⟨w.heap.size + 1, 0, none⟩ (.bool false)).setCell ⟨w.heap.size + 1, 1, none⟩ (.int .i64 0)).setCell ⟨w.heap.size + 1, 2, none⟩ (.int .i64 0)).setCell ⟨w.heap.size + 1, 3, none⟩ (.int .i64 0)).setCell ⟨w.heap.size + 1, 4, none⟩ (.int .i64 0)).setCell ⟨w.heap.size + 1, 5, none⟩ (.int .i64 0)) = W5 at *
    obtain ⟨s0, s1, s2, s3, s4, s5⟩ := hs
    exact bodyPost_ret (v := .tuple #[.agg #[.bool false, .int .i64 0, .int .i64 0, .int .i64 0, .int .i64 0, .int .i64 0], .int .i64 1]) (by simp [results, Tryz.results143, go_sem, s0, s1, s2, s3, s4, s5]) rfl ⟨rfl, hbs⟩
end Go.Proofs.YthnajpckhoomgaaGreat
namespace Go.Proofs.YthnajpckhoomgaaGreat
set_option maxRecDepth 100000
open Go.RowKit Go.Sort

theorem onode_any (i : Int) (w : World) :
    Calls Tryz.prog 95 #[.int .i64 i] w fun e w' => e = .returned (.bool (decide (NodeOk i))) ∧ w = w' := by
  go_enter Tryz.func95, Tryz.ntmps95
  go_wp2
  all_goals
    go_ret
    first
      | exact ⟨ret_false (by unfold NodeOk; omega), rfl⟩
      | exact ⟨ret_dec (by unfold NodeOk; omega), rfl⟩
/-- Whether a number is one that an object of its kind has. -/
def NumOk (m : Int) (b : Bool) : Prop := if b then 0 ≤ m ∧ m ≤ 65535 else m = 0
instance (m : Int) (b : Bool) : Decidable (NumOk m b) := by unfold NumOk; infer_instance
theorem onum_any (m : Int) (b : Bool) (w : World) :
    Calls Tryz.prog 98 #[.int .i64 m, .bool b] w fun e w' => e = .returned (.bool (decide (NumOk m b))) ∧ w = w' := by
  cases b with
  | false =>
    by_cases h : m = 0
    · subst h
      go_enter Tryz.func98, Tryz.ntmps98
      go_wp2
      go_ret
      exact ⟨rfl, rfl⟩
    · have hne : (m == 0) = false := by simpa using h
      have H := Lib.hid h
      clear h
      go_enter Tryz.func98, Tryz.ntmps98
      go_wp2
      go_ret
      exact ⟨ret_false (fun h => H.out (by simpa [NumOk] using h)), rfl⟩
  | true =>
    go_enter Tryz.func98, Tryz.ntmps98
    go_wp2
    all_goals
      go_ret
      first
        | exact ⟨ret_false (by simp only [NumOk, if_true]; omega), rfl⟩
        | exact ⟨ret_dec (by simp only [NumOk, if_true]; omega), rfl⟩
/-- A kind that there is. -/
def kn (k : Int) : Bool := k == 1 || (k == 2 || (k == 3 || k == 4))
def lvB (k : Int) : Bool := k == 3
def hgB (k : Int) : Bool := k == 2 || k == 4
def nuB (k : Int) : Bool := k == 4
def partsV (k : Int) : Value := .agg #[.bool (kn k), .bool (lvB k), .bool (hgB k), .bool (nuB k)]
set_option maxHeartbeats 4000000 in
theorem parts_any (k : Int) (w : World) :
    Calls Tryz.prog 94 #[.int .i64 k] w fun e w' => e = .returned (partsV k) ∧ Below w.heap.size w w' := by
  by_cases h4 : k = 4
  · subst h4
    go_enter Tryz.func94, Tryz.ntmps94
    go_wp2_with fail
    refine bodyPost_ret (v := .agg #[.bool true, .bool false, .bool true, .bool true]) (by simp [results, Tryz.results94, go_sem]) rfl ⟨rfl, ?_⟩
    repeat (first | exact Below.refl _ _ | refine Below.setCell ?_ (by simp) _ | refine Below.alloc ?_ (by simp) _)
  by_cases h2 : k = 2
  · subst h2
    go_enter Tryz.func94, Tryz.ntmps94
    go_wp2_with fail
    refine bodyPost_ret (v := .agg #[.bool true, .bool false, .bool true, .bool false]) (by simp [results, Tryz.results94, go_sem]) rfl ⟨rfl, ?_⟩
    repeat (first | exact Below.refl _ _ | refine Below.setCell ?_ (by simp) _ | refine Below.alloc ?_ (by simp) _)
  by_cases h1 : k = 1
  · subst h1
    go_enter Tryz.func94, Tryz.ntmps94
    go_wp2_with fail
    refine bodyPost_ret (v := .agg #[.bool true, .bool false, .bool false, .bool false]) (by simp [results, Tryz.results94, go_sem]) rfl ⟨rfl, ?_⟩
    repeat (first | exact Below.refl _ _ | refine Below.setCell ?_ (by simp) _ | refine Below.alloc ?_ (by simp) _)
  by_cases h3 : k = 3
  · subst h3
    go_enter Tryz.func94, Tryz.ntmps94
    go_wp2_with fail
    refine bodyPost_ret (v := .agg #[.bool true, .bool true, .bool false, .bool false]) (by simp [results, Tryz.results94, go_sem]) rfl ⟨rfl, ?_⟩
    repeat (first | exact Below.refl _ _ | refine Below.setCell ?_ (by simp) _ | refine Below.alloc ?_ (by simp) _)
  have e4 : (k == 4) = false := by simpa using h4
  have e2 : (k == 2) = false := by simpa using h2
  have e1 : (k == 1) = false := by simpa using h1
  have e3 : (k == 3) = false := by simpa using h3
  have hv : Ending.returned (.agg #[.bool false, .bool false, .bool false, .bool false]) = .returned (partsV k) := by simp [partsV, kn, lvB, hgB, nuB, e1, e2, e3, e4]
  have HV := Lib.hid hv
  clear hv h1 h2 h3 h4
  go_enter Tryz.func94, Tryz.ntmps94
  go_wp2_with fail
  refine bodyPost_ret (v := .agg #[.bool false, .bool false, .bool false, .bool false]) (by simp [results, Tryz.results94, go_sem]) rfl ⟨HV.out, ?_⟩
  repeat (first | exact Below.refl _ _ | refine Below.setCell ?_ (by simp) _ | refine Below.alloc ?_ (by simp) _)
/-- Whether a level is one that an object of its kind has. -/
def LvOk (t o r : Int) (b : Bool) : Prop := if b then HtOk false t o r 0 0 else t = 0 ∧ o = 0 ∧ r = 0
instance (t o r : Int) (b : Bool) : Decidable (LvOk t o r b) := by unfold LvOk; infer_instance
set_option maxHeartbeats 4000000 in
theorem olev_any (t o r : Int) (b : Bool) (w : World) :
    Calls Tryz.prog 96 #[.agg #[.int .i64 t, .int .i64 o, .int .i64 r], .bool b] w fun e w' => e = .returned (.bool (decide (LvOk t o r b))) ∧ Below w.heap.size w w' := by
  have E1 := guard25
  have E2 := eql25
  cases b with
  | false =>
    have hd : Ending.returned (.bool (eqL t o r 0 0 0)) = .returned (.bool (decide (LvOk t o r false))) := by
      congr 2
      rw [Bool.eq_iff_iff, eqL_iff]
      simp [LvOk]
    have HD := Lib.hid hd
    clear hd
    go_enter Tryz.func96, Tryz.ntmps96
    go_wp2_with fail
    go_ret
    exact ⟨HD.out, (Below.refl _ w).alloc (Nat.le_refl _) _⟩
  | true =>
    by_cases h : HtOk false t o r 0 0
    · have hd : Ending.returned (.bool true) = .returned (.bool (decide (LvOk t o r true))) := ret_true h
      have HD := Lib.hid hd
      have hv : atV t o r 0 0 = .tuple #[.agg #[.bool false, .int .i64 t, .int .i64 o, .int .i64 r, .int .i64 0, .int .i64 0], .int .i64 0] := by unfold atV; rw [if_pos h]
      clear hd h
      go_enter Tryz.func96, Tryz.ntmps96
      go_wp2_with (go_at_call 143; refine (at_any _ _ _ _ _ _).mono ?_; rintro e w' ⟨rfl, hb⟩; rw [hv]; have HB : Hid (Below w.heap.size w w') := ((Below.refl _ w).alloc (Nat.le_refl _) _).trans (hb.mono (by simp)); clear hb)
      go_ret
      refine ⟨HD.out, ?_⟩
      repeat (first | exact HB.out | refine Below.setCell ?_ HB.out.size _ | refine Below.alloc ?_ HB.out.size _)
    · have hd : Ending.returned (.bool false) = .returned (.bool (decide (LvOk t o r true))) := ret_false h
      have HD := Lib.hid hd
      have hv : atV t o r 0 0 = .tuple #[.agg #[.bool false, .int .i64 0, .int .i64 0, .int .i64 0, .int .i64 0, .int .i64 0], .int .i64 1] := by unfold atV; rw [if_neg h]
      clear hd h
      go_enter Tryz.func96, Tryz.ntmps96
      go_wp2_with (go_at_call 143; refine (at_any _ _ _ _ _ _).mono ?_; rintro e w' ⟨rfl, hb⟩; rw [hv]; have HB : Hid (Below w.heap.size w w') := ((Below.refl _ w).alloc (Nat.le_refl _) _).trans (hb.mono (by simp)); clear hb)
      go_ret
      refine ⟨HD.out, ?_⟩
      repeat (first | exact HB.out | refine Below.setCell ?_ HB.out.size _ | refine Below.alloc ?_ HB.out.size _)
/-- Whether a height is one that an object of its kind has. -/
def HgOk (n : Bool) (t o r d i : Int) (b : Bool) : Prop := if b then HtOk n t o r d i else n = false ∧ t = 0 ∧ o = 0 ∧ r = 0 ∧ d = 0 ∧ i = 0
instance (n : Bool) (t o r d i : Int) (b : Bool) : Decidable (HgOk n t o r d i b) := by unfold HgOk; infer_instance
set_option maxHeartbeats 4000000 in
theorem ohgt_any (n : Bool) (t o r d i : Int) (b : Bool) (w : World) :
    Calls Tryz.prog 97 #[.agg #[.bool n, .int .i64 t, .int .i64 o, .int .i64 r, .int .i64 d, .int .i64 i], .bool b] w fun e w' => e = .returned (.bool (decide (HgOk n t o r d i b))) ∧ Below w.heap.size w w' := by
  have E1 := guard23
  have E2 := eql23
  cases b with
  | false =>
    have hd : Ending.returned (.bool (eqH n t o r d i false 0 0 0 0 0)) = .returned (.bool (decide (HgOk n t o r d i false))) := by
      congr 2
      rw [Bool.eq_iff_iff, eqH_iff]
      simp [HgOk]
    have HD := Lib.hid hd
    clear hd
    go_enter Tryz.func97, Tryz.ntmps97
    go_wp2_with fail
    go_ret
    exact ⟨HD.out, (Below.refl _ w).alloc (Nat.le_refl _) _⟩
  | true =>
    by_cases h : HtOk n t o r d i
    · have hd : Ending.returned (.bool true) = .returned (.bool (decide (HgOk n t o r d i true))) := ret_true h
      have HD := Lib.hid hd
      have hv := chk_ok h
      clear hd h
      go_enter Tryz.func97, Tryz.ntmps97
      go_wp2_with (go_at_call 144; refine (check_any _ _ _ _ _ _ _).mono ?_; rintro e w' ⟨rfl, hb⟩; rw [hv]; have HB : Hid (Below w.heap.size w w') := ((Below.refl _ w).alloc (Nat.le_refl _) _).trans (hb.mono (by simp)); clear hb)
      go_ret
      exact ⟨HD.out, HB.out⟩
    · have hd : Ending.returned (.bool false) = .returned (.bool (decide (HgOk n t o r d i true))) := ret_false h
      have HD := Lib.hid hd
      have hv := chk_no h
      clear hd h
      go_enter Tryz.func97, Tryz.ntmps97
      go_wp2_with (go_at_call 144; refine (check_any _ _ _ _ _ _ _).mono ?_; rintro e w' ⟨rfl, hb⟩; rw [hv]; have HB : Hid (Below w.heap.size w w') := ((Below.refl _ w).alloc (Nat.le_refl _) _).trans (hb.mono (by simp)); clear hb)
      go_ret
      exact ⟨HD.out, HB.out⟩
/-- The twelve cells of an object. -/
def Cells12 (w : World) (b : Nat) (k x : Int) (n : Bool) (t o r d i p q s m : Int) : Prop :=
  w.cell? ⟨b, 0, none⟩ = some (.int .i64 k) ∧ w.cell? ⟨b, 1, none⟩ = some (.int .i64 x) ∧ w.cell? ⟨b, 2, none⟩ = some (.bool n) ∧ w.cell? ⟨b, 3, none⟩ = some (.int .i64 t) ∧ w.cell? ⟨b, 4, none⟩ = some (.int .i64 o) ∧ w.cell? ⟨b, 5, none⟩ = some (.int .i64 r) ∧ w.cell? ⟨b, 6, none⟩ = some (.int .i64 d) ∧ w.cell? ⟨b, 7, none⟩ = some (.int .i64 i) ∧ w.cell? ⟨b, 8, none⟩ = some (.int .i64 p) ∧ w.cell? ⟨b, 9, none⟩ = some (.int .i64 q) ∧ w.cell? ⟨b, 10, none⟩ = some (.int .i64 s) ∧ w.cell? ⟨b, 11, none⟩ = some (.int .i64 m)
theorem cells12_alloc (w : World) (k x : Int) (n : Bool) (t o r d i p q s m : Int) (T : TypeId) : Cells12 (w.alloc (.cells #[.int .i64 k, .int .i64 x, .bool n, .int .i64 t, .int .i64 o, .int .i64 r, .int .i64 d, .int .i64 i, .int .i64 p, .int .i64 q, .int .i64 s, .int .i64 m] T)) w.heap.size k x n t o r d i p q s m := by
  simp [Cells12]
theorem Cells12.below {w w' : World} {b : Nat} {k x : Int} {n : Bool} {t o r d i p q s m : Int} (h : Cells12 w b k x n t o r d i p q s m) (hb : Below w.heap.size w w') : Cells12 w' b k x n t o r d i p q s m := by
  obtain ⟨h0, h1, h2, h3, h4, h5, h6, h7, h8, h9, h10, h11⟩ := h
  have f : ∀ {a : Addr} {v : Value}, w.cell? a = some v → w'.cell? a = some v := fun h => by rw [hb.cell (World.block_lt_of_cell? w _ h)]; exact h
  exact ⟨f h0, f h1, f h2, f h3, f h4, f h5, f h6, f h7, f h8, f h9, f h10, f h11⟩
theorem Cells12.old {w w' : World} {b B : Nat} {k x : Int} {n : Bool} {t o r d i p q s m : Int} (h : Cells12 w b k x n t o r d i p q s m) (hb : Below B w w') (hB : b < B) : Cells12 w' b k x n t o r d i p q s m := by
  obtain ⟨h0, h1, h2, h3, h4, h5, h6, h7, h8, h9, h10, h11⟩ := h
  have f : ∀ {j : Nat} {v : Value}, w.cell? ⟨b, j, none⟩ = some v → w'.cell? ⟨b, j, none⟩ = some v := fun {j v} h => by rw [hb.cell (p := ⟨b, j, none⟩) hB]; exact h
  exact ⟨f h0, f h1, f h2, f h3, f h4, f h5, f h6, f h7, f h8, f h9, f h10, f h11⟩
/-- The four cells of an object's parts. -/
def Cells4 (w : World) (b : Nat) (a0 a1 a2 a3 : Bool) : Prop :=
  w.cell? ⟨b, 0, none⟩ = some (.bool a0) ∧ w.cell? ⟨b, 1, none⟩ = some (.bool a1) ∧ w.cell? ⟨b, 2, none⟩ = some (.bool a2) ∧ w.cell? ⟨b, 3, none⟩ = some (.bool a3)
theorem Cells4.below {w w' : World} {b : Nat} {a0 a1 a2 a3 : Bool} (h : Cells4 w b a0 a1 a2 a3) (hb : Below w.heap.size w w') : Cells4 w' b a0 a1 a2 a3 := by
  obtain ⟨h0, h1, h2, h3⟩ := h
  have f : ∀ {a : Addr} {v : Value}, w.cell? a = some v → w'.cell? a = some v := fun h => by rw [hb.cell (World.block_lt_of_cell? w _ h)]; exact h
  exact ⟨f h0, f h1, f h2, f h3⟩
/-- Parts are laid into a block of their own. -/
theorem parts_put (w : World) (a0 a1 a2 a3 : Bool) : ∃ V, w.alloc (.cells #[.bool a0, .bool a1, .bool a2, .bool a3] 178) = V ∧ Cells4 V w.heap.size a0 a1 a2 a3 ∧ Below w.heap.size w V ∧ w.heap.size < V.heap.size := by
  refine ⟨_, rfl, ?_, (Below.refl _ w).alloc (Nat.le_refl _) _, by simp⟩
  refine ⟨?_, ?_, ?_, ?_⟩ <;> simp
/-- An object that is right. -/
def ObOk (k x : Int) (n : Bool) (t o r d i p q s m : Int) : Prop :=
  kn k = true ∧ NodeOk x ∧ ¬ (k = 4 ∧ n = true) ∧ LvOk p q s (lvB k) ∧ HgOk n t o r d i (hgB k) ∧ NumOk m (nuB k)
instance (k x : Int) (n : Bool) (t o r d i p q s m : Int) : Decidable (ObOk k x n t o r d i p q s m) := by unfold ObOk; infer_instance
def obc (k x : Int) (n : Bool) (t o r d i p q s m : Int) : Int := if ObOk k x n t o r d i p q s m then 0 else 1
end Go.Proofs.YthnajpckhoomgaaGreat
