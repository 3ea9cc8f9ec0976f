/- Objects: which are right. No conditions. -/
import Derived.Test.YtgcjmnjepnmaeaaLev
namespace Go.Proofs.Ytgcjmnjepnmaeaa
set_option maxRecDepth 100000
open Go.RowKit Go.Sort

/-- Whether a number is one that an object of its kind has. -/
def NumOk (m : Int) (b : Bool) : Prop := if b then 0 ≤ m ∧ m ≤ 65535 else m = 0
instance (m : Int) (b : Bool) : Decidable (NumOk m b) := by unfold NumOk; infer_instance
/-- A kind that there is. -/
def kn (k : Int) : Bool := k == 1 || (k == 2 || (k == 3 || k == 4))
def lvB (k : Int) : Bool := k == 3
def hgB (k : Int) : Bool := k == 2 || k == 4
def nuB (k : Int) : Bool := k == 4
/-- Whether a level is one that an object of its kind has. -/
def LvOk (t o r : Int) (b : Bool) : Prop := if b then HtOk false t o r 0 0 else t = 0 ∧ o = 0 ∧ r = 0
instance (t o r : Int) (b : Bool) : Decidable (LvOk t o r b) := by unfold LvOk; infer_instance
/-- Whether a height is one that an object of its kind has. -/
def HgOk (n : Bool) (t o r d i : Int) (b : Bool) : Prop := if b then HtOk n t o r d i else n = false ∧ t = 0 ∧ o = 0 ∧ r = 0 ∧ d = 0 ∧ i = 0
instance (n : Bool) (t o r d i : Int) (b : Bool) : Decidable (HgOk n t o r d i b) := by unfold HgOk; infer_instance
/-- The twelve cells of an object. -/
def Cells12 (w : World) (b : Nat) (k x : Int) (n : Bool) (t o r d i p q s m : Int) : Prop :=
  w.cell? ⟨b, 0, none⟩ = some (.int .i64 k) ∧ w.cell? ⟨b, 1, none⟩ = some (.int .i64 x) ∧ w.cell? ⟨b, 2, none⟩ = some (.bool n) ∧ w.cell? ⟨b, 3, none⟩ = some (.int .i64 t) ∧ w.cell? ⟨b, 4, none⟩ = some (.int .i64 o) ∧ w.cell? ⟨b, 5, none⟩ = some (.int .i64 r) ∧ w.cell? ⟨b, 6, none⟩ = some (.int .i64 d) ∧ w.cell? ⟨b, 7, none⟩ = some (.int .i64 i) ∧ w.cell? ⟨b, 8, none⟩ = some (.int .i64 p) ∧ w.cell? ⟨b, 9, none⟩ = some (.int .i64 q) ∧ w.cell? ⟨b, 10, none⟩ = some (.int .i64 s) ∧ w.cell? ⟨b, 11, none⟩ = some (.int .i64 m)
theorem Cells12.below {w w' : World} {b : Nat} {k x : Int} {n : Bool} {t o r d i p q s m : Int} (h : Cells12 w b k x n t o r d i p q s m) (hb : Below w.heap.size w w') : Cells12 w' b k x n t o r d i p q s m := by
  obtain ⟨h0, h1, h2, h3, h4, h5, h6, h7, h8, h9, h10, h11⟩ := h
  have f : ∀ {a : Addr} {v : Value}, w.cell? a = some v → w'.cell? a = some v := fun h => by rw [hb.cell (World.block_lt_of_cell? w _ h)]; exact h
  exact ⟨f h0, f h1, f h2, f h3, f h4, f h5, f h6, f h7, f h8, f h9, f h10, f h11⟩
/-- The four cells of an object's parts. -/
def Cells4 (w : World) (b : Nat) (a0 a1 a2 a3 : Bool) : Prop :=
  w.cell? ⟨b, 0, none⟩ = some (.bool a0) ∧ w.cell? ⟨b, 1, none⟩ = some (.bool a1) ∧ w.cell? ⟨b, 2, none⟩ = some (.bool a2) ∧ w.cell? ⟨b, 3, none⟩ = some (.bool a3)
theorem Cells4.below {w w' : World} {b : Nat} {a0 a1 a2 a3 : Bool} (h : Cells4 w b a0 a1 a2 a3) (hb : Below w.heap.size w w') : Cells4 w' b a0 a1 a2 a3 := by
  obtain ⟨h0, h1, h2, h3⟩ := h
  have f : ∀ {a : Addr} {v : Value}, w.cell? a = some v → w'.cell? a = some v := fun h => by rw [hb.cell (World.block_lt_of_cell? w _ h)]; exact h
  exact ⟨f h0, f h1, f h2, f h3⟩
/-- An object that is right. -/
def ObOk (k x : Int) (n : Bool) (t o r d i p q s m : Int) : Prop :=
  kn k = true ∧ NodeOk x ∧ ¬ (k = 4 ∧ n = true) ∧ LvOk p q s (lvB k) ∧ HgOk n t o r d i (hgB k) ∧ NumOk m (nuB k)
instance (k x : Int) (n : Bool) (t o r d i p q s m : Int) : Decidable (ObOk k x n t o r d i p q s m) := by unfold ObOk; infer_instance
end Go.Proofs.Ytgcjmnjepnmaeaa

