/- Texts Cmp, Lev of this proof, in one. No conditions but on lengths. -/
import Derived.Test.YtdigjklhfimnbaaGreatRows
import Derived.Test.YtdigjklhfimnbaaGreatU01
import Derived.Test.YtdigjklhfimnbaaGreatU04
import Derived.Below
import Derived.BigQuiet
import Derived.Calls
import Derived.ChangeOld
import Derived.Deep.QuietTactic
import Derived.Laws.AppendOwnNone
import Derived.Laws.BytesArg
import Derived.Laws.StructEq
import Derived.Lib.Hide
import Derived.Lib.QuietBelow
import Derived.LoopTactic
import Derived.OpenShut
import Derived.Orders
import Derived.Outline
import Derived.ProofKit
import Derived.ShutString
import Derived.WalkKit
import Derived.WalkSpells
namespace Go.Proofs.YtdigjklhfimnbaaGreat
set_option maxRecDepth 100000
open Go.RowKit Go.Sort

/-- A slice of numbers that reads as xs. -/
def Ints (w : World) (v : Value) (xs : List Int) : Prop :=
  ∃ b, v = .slice (some ⟨b, 0, none⟩) xs.length xs.length ∧ xs.length ≤ 1000 ∧ ∀ i, i < xs.length → w.cell? ⟨b, i, none⟩ = some (.int .i64 (xs.getD i 0))
theorem Ints.below {w w' : World} {v : Value} {xs : List Int} (h : Ints w v xs) (hb : Below w.heap.size w w') : Ints w' v xs := by
  obtain ⟨b, h1, h2, h3⟩ := h
  exact ⟨b, h1, h2, fun i hi => by rw [hb.cell (World.block_lt_of_cell? w _ (h3 i hi))]; exact h3 i hi⟩
end Go.Proofs.YtdigjklhfimnbaaGreat
namespace Go.Proofs.YtdigjklhfimnbaaGreat
set_option maxRecDepth 100000
open Go.RowKit Go.Sort

def Cells3 (w : World) (b : Nat) (t o r : Int) : Prop :=
  w.cell? ⟨b, 0, none⟩ = some (.int .i64 t) ∧ w.cell? ⟨b, 1, none⟩ = some (.int .i64 o) ∧ w.cell? ⟨b, 2, none⟩ = some (.int .i64 r)
theorem Cells3.below {w w' : World} {b : Nat} {t o r : Int} (h : Cells3 w b t o r) (hb : Below w.heap.size w w') : Cells3 w' b t o r := by
  obtain ⟨h0, h1, h2⟩ := h
  have k : ∀ {a : Addr} {v : Value}, w.cell? a = some v → w'.cell? a = some v := fun h => by rw [hb.cell (World.block_lt_of_cell? w _ h)]; exact h
  exact ⟨k h0, k h1, k h2⟩
/-- The cells of a variable that may be written. -/
def Own3 (w : World) (b : Nat) (x y z : Int) : Prop := Cells3 w b x y z ∧ ∀ k, w.frozen? ⟨b, k, none⟩ = false
def Own6 (w : World) (b : Nat) (n : Bool) (t o r d i : Int) : Prop := Cells6 w b n t o r d i ∧ ∀ k, w.frozen? ⟨b, k, none⟩ = false
theorem Own3.below {W w' : World} {b : Nat} {x y z : Int} (h : Own3 W b x y z) (hb : Below W.heap.size W w') : Own3 w' b x y z :=
  ⟨h.1.below hb, fun k => (hb.frozen (p := ⟨b, k, none⟩) (by have hl := World.block_lt_of_cell? W _ h.1.1; exact hl)).trans (h.2 k)⟩
theorem Own6.below {W w' : World} {b : Nat} {n : Bool} {t o r d i : Int} (h : Own6 W b n t o r d i) (hb : Below W.heap.size W w') : Own6 w' b n t o r d i :=
  ⟨h.1.below hb, fun k => (hb.frozen (p := ⟨b, k, none⟩) (by have hl := World.block_lt_of_cell? W _ h.1.1; exact hl)).trans (h.2 k)⟩
theorem own6_alloc (w : World) (n : Bool) (t o r d i : Int) (T : TypeId) (g : Nat) (hg : g = w.heap.size) : Own6 (w.alloc (.cells #[.bool n, .int .i64 t, .int .i64 o, .int .i64 r, .int .i64 d, .int .i64 i] T)) g n t o r d i := by
  subst hg
  exact ⟨cells6_alloc w n t o r d i T, fun k => by simp⟩
theorem set6 {w : World} {b : Nat} {m : Bool} {x1 x2 x3 x4 x5 : Int} (h : Cells6 w b m x1 x2 x3 x4 x5) (n : Bool) (t o r d i : Int) : Cells6 ((((((w.setCell ⟨b, 0, none⟩ (.bool n)).setCell ⟨b, 1, none⟩ (.int .i64 t)).setCell ⟨b, 2, none⟩ (.int .i64 o)).setCell ⟨b, 3, none⟩ (.int .i64 r)).setCell ⟨b, 4, none⟩ (.int .i64 d)).setCell ⟨b, 5, none⟩ (.int .i64 i)) b n t o r d i := by
  obtain ⟨h0, h1, h2, h3, h4, h5⟩ := h
  refine ⟨?_, ?_, ?_, ?_, ?_, ?_⟩ <;> simp [go_sem, h0, h1, h2, h3, h4, h5]
theorem bel_set6 {B : Nat} {a w : World} {b : Nat} (h : Below B a w) (hB : B ≤ b) (n : Bool) (t o r d i : Int) : Below B a ((((((w.setCell ⟨b, 0, none⟩ (.bool n)).setCell ⟨b, 1, none⟩ (.int .i64 t)).setCell ⟨b, 2, none⟩ (.int .i64 o)).setCell ⟨b, 3, none⟩ (.int .i64 r)).setCell ⟨b, 4, none⟩ (.int .i64 d)).setCell ⟨b, 5, none⟩ (.int .i64 i)) :=
  (((((h.setCell (by exact hB) _).setCell (by exact hB) _).setCell (by exact hB) _).setCell (by exact hB) _).setCell (by exact hB) _).setCell (by exact hB) _
/-- What At answers. -/
def atV (t o r d i : Int) : Value := if HtOk false t o r d i then .tuple #[.agg #[.bool false, .int .i64 t, .int .i64 o, .int .i64 r, .int .i64 d, .int .i64 i], .int .i64 0] else .tuple #[.agg #[.bool false, .int .i64 0, .int .i64 0, .int .i64 0, .int .i64 0, .int .i64 0], .int .i64 1]
set_option maxHeartbeats 4000000 in
theorem at_any (t o r d i : Int) (w : World) :
    Calls Tryz.prog 145 #[.agg #[.int .i64 t, .int .i64 o, .int .i64 r], .int .i64 d, .int .i64 i] w fun e w' => e = .returned (atV t o r d i) ∧ Below w.heap.size w w' := by
  by_cases h : HtOk false t o r d i
  · rw [atV, if_pos h]
    have hq := chk_ok h
    clear h
    go_enter Tryz.func145, Tryz.ntmps145
    go_wp2_with (go_at_call 146; refine (check_any _ _ _ _ _ _ _).mono ?_; rintro e w' ⟨rfl, hb⟩; rw [hq]; have ⟨⟨c0, c1, c2, c3, c4, c5⟩, _⟩ := (own6_alloc ((w.alloc (.cells #[.int .i64 t, .int .i64 o, .int .i64 r] 39)).alloc (.cells #[.bool false, .int .i64 0, .int .i64 0, .int .i64 0, .int .i64 0, .int .i64 0] 37)) false t o r d i 37 (w.heap.size + 1 + 1) (by simp)).below hb; have ⟨⟨k0, k1, k2, k3, k4, k5⟩, fz⟩ := ((own6_alloc (w.alloc (.cells #[.int .i64 t, .int .i64 o, .int .i64 r] 39)) false 0 0 0 0 0 37 (w.heap.size + 1) (by simp)).below ((Below.refl _ _).alloc (Nat.le_refl _) (.cells #[.bool false, .int .i64 t, .int .i64 o, .int .i64 r, .int .i64 d, .int .i64 i] 37))).below hb; have HB : Hid (Below w.heap.size w w') := ((((Below.refl _ w).alloc (Nat.le_refl _) _).alloc (by simp) _).alloc (by simp; omega) _).trans (hb.mono (by simp; omega)); clear hb)
    have hs := set6 ⟨k0, k1, k2, k3, k4, k5⟩ false t o r d i
    have hbs := bel_set6 (b := w.heap.size + 1) HB.out (by omega) false t o r d i
    generalize ((((((w'.setCell ⟨w.heap.size + 1, 0, none⟩ (.bool false)).setCell ⟨w.heap.size + 1, 1, none⟩ (.int .i64 t)).setCell ⟨w.heap.size + 1, 2, none⟩ (.int .i64 o)).setCell ⟨w.heap.size + 1, 3, none⟩ (.int .i64 r)).setCell ⟨w.heap.size + 1, 4, none⟩ (.int .i64 d)).setCell ⟨w.heap.size + 1, 5, none⟩ (.int .i64 i)) = W5 at *
    obtain ⟨s0, s1, s2, s3, s4, s5⟩ := hs
    exact bodyPost_ret (v := .tuple #[.agg #[.bool false, .int .i64 t, .int .i64 o, .int .i64 r, .int .i64 d, .int .i64 i], .int .i64 0]) (by simp [results, Tryz.results145, go_sem, s0, s1, s2, s3, s4, s5]) rfl ⟨rfl, hbs⟩
  · rw [atV, if_neg h]
    have hq := chk_no h
    clear h
    go_enter Tryz.func145, Tryz.ntmps145
    go_wp2_with (go_at_call 146; refine (check_any _ _ _ _ _ _ _).mono ?_; rintro e w' ⟨rfl, hb⟩; rw [hq]; have ⟨⟨c0, c1, c2, c3, c4, c5⟩, _⟩ := (own6_alloc ((w.alloc (.cells #[.int .i64 t, .int .i64 o, .int .i64 r] 39)).alloc (.cells #[.bool false, .int .i64 0, .int .i64 0, .int .i64 0, .int .i64 0, .int .i64 0] 37)) false t o r d i 37 (w.heap.size + 1 + 1) (by simp)).below hb; have ⟨⟨k0, k1, k2, k3, k4, k5⟩, fz⟩ := ((own6_alloc (w.alloc (.cells #[.int .i64 t, .int .i64 o, .int .i64 r] 39)) false 0 0 0 0 0 37 (w.heap.size + 1) (by simp)).below ((Below.refl _ _).alloc (Nat.le_refl _) (.cells #[.bool false, .int .i64 t, .int .i64 o, .int .i64 r, .int .i64 d, .int .i64 i] 37))).below hb; have HB : Hid (Below w.heap.size w w') := ((((Below.refl _ w).alloc (Nat.le_refl _) _).alloc (by simp) _).alloc (by simp; omega) _).trans (hb.mono (by simp; omega)); clear hb)
    have hs := set6 ⟨k0, k1, k2, k3, k4, k5⟩ false 0 0 0 0 0
    have hbs := bel_set6 (b := w.heap.size + 1) HB.out (by omega) false 0 0 0 0 0
    generalize ((((((w'.setCell ⟨w.heap.size + 1, 0, none⟩ (.bool false)).setCell ⟨w.heap.size + 1, 1, none⟩ (.int .i64 0)).setCell ⟨w.heap.size + 1, 2, none⟩ (.int .i64 0)).setCell ⟨w.heap.size + 1, 3, none⟩ (.int .i64 0)).setCell ⟨w.heap.size + 1, 4, none⟩ (.int .i64 0)).setCell ⟨w.heap.size + 1, 5, none⟩ (.int .i64 0)) = W5 at *
    obtain ⟨s0, s1, s2, s3, s4, s5⟩ := hs
    exact bodyPost_ret (v := .tuple #[.agg #[.bool false, .int .i64 0, .int .i64 0, .int .i64 0, .int .i64 0, .int .i64 0], .int .i64 1]) (by simp [results, Tryz.results145, go_sem, s0, s1, s2, s3, s4, s5]) rfl ⟨rfl, hbs⟩
end Go.Proofs.YtdigjklhfimnbaaGreat
