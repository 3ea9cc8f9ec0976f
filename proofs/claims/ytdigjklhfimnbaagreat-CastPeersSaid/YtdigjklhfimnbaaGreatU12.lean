/- Texts Rdr of this proof, in one. No conditions but on lengths. -/
import Derived.Test.YtdigjklhfimnbaaGreatRows
import Derived.Test.YtdigjklhfimnbaaGreatU06
import Derived.Below
import Derived.BigQuiet
import Derived.Calls
import Derived.ChangeArms
import Derived.ChangeOld
import Derived.Deep.QuietTactic
import Derived.Laws.AppendOwnNone
import Derived.Laws.BytesArg
import Derived.Laws.StructEq
import Derived.Lib.Hide
import Derived.Lib.QuietBelow
import Derived.LoopTactic
import Derived.OpenShut
import Derived.Orders
import Derived.Outline
import Derived.ProofKit
import Derived.ShutString
import Derived.WalkKit
import Derived.WalkSpells
import Derived.WideShapes
namespace Go.Proofs.YtdigjklhfimnbaaGreat
set_option maxRecDepth 100000
open Go.RowKit Go.Sort

/-- The reader: its place, its error. -/
def Rd (w : World) (b : Nat) (at' e : Int) : Prop :=
  w.cell? ⟨b, 0, none⟩ = some (.int .i64 at') ∧ w.cell? ⟨b, 1, none⟩ = some (.int .i64 e) ∧ ∀ k, w.frozen? ⟨b, k, none⟩ = false
/-- Of the blocks that there were none but one has turned. -/
structure Onl (b : Nat) (w w' : World) : Prop where
  os : w'.os = w.os
  tape : w'.tape = w.tape
  output : w'.output = w.output
  size : w.heap.size ≤ w'.heap.size
  block : ∀ k, k < w.heap.size → k ≠ b → w'.heap[k]? = w.heap[k]?
theorem Onl.refl (b : Nat) (w : World) : Onl b w w := ⟨rfl, rfl, rfl, Nat.le_refl _, fun _ _ _ => rfl⟩
theorem Onl.trans {b : Nat} {w1 w2 w3 : World} (h : Onl b w1 w2) (h' : Onl b w2 w3) : Onl b w1 w3 :=
  ⟨h'.os.trans h.os, h'.tape.trans h.tape, h'.output.trans h.output, Nat.le_trans h.size h'.size, fun k hk hb => (h'.block k (Nat.lt_of_lt_of_le hk h.size) hb).trans (h.block k hk hb)⟩
theorem Onl.of_below (b : Nat) {w w' : World} (h : Below w.heap.size w w') : Onl b w w' := ⟨h.os, h.tape, h.output, h.size, fun k hk _ => h.block k hk⟩
theorem Onl.below {b B : Nat} {w w' : World} (h : Onl b w w') (hB : B ≤ b) (hw : B ≤ w.heap.size) : Below B w w' :=
  ⟨h.os, h.tape, h.output, h.size, fun k hk => h.block k (Nat.lt_of_lt_of_le hk hw) (by omega)⟩
theorem setCell_size (w : World) (p : Addr) (u : Value) : (w.setCell p u).heap.size = w.heap.size := by simp
theorem Onl.set {b : Nat} {w w' : World} (h : Onl b w w') (j : Nat) (u : Value) : Onl b w (w'.setCell ⟨b, j, none⟩ u) := by
  have hb : Below b w' (w'.setCell ⟨b, j, none⟩ u) := (Below.refl b w').setCell (Nat.le_refl _) u
  exact ⟨hb.os.trans h.os, hb.tape.trans h.tape, hb.output.trans h.output, Nat.le_trans h.size (Nat.le_of_eq (setCell_size _ _ _).symm), fun k hk hkb => (Below.heap_setCell w' ⟨b, j, none⟩ u k hkb).trans (h.block k hk hkb)⟩
theorem Onl.alloc {b : Nat} {w w' : World} (h : Onl b w w') (O : Obj) : Onl b w (w'.alloc O) := h.trans (Onl.of_below b ((Below.refl _ _).alloc (Nat.le_refl _) O))
theorem Onl.cell {b : Nat} {w w' : World} (h : Onl b w w') {p : Addr} (hp : p.block ≠ b) (hl : p.block < w.heap.size) : w'.cell? p = w.cell? p := World.cell?_of_block (w := w) (h.block p.block hl hp)
theorem Onl.frozen {b : Nat} {w w' : World} (h : Onl b w w') {p : Addr} (hp : p.block ≠ b) (hl : p.block < w.heap.size) : w'.frozen? p = w.frozen? p := World.frozen?_of_block (w := w) (h.block p.block hl hp)
theorem Rd.below {w w' : World} {g : Nat} {x y : Int} (h : Rd w g x y) (hb : Below w.heap.size w w') : Rd w' g x y := by
  have hl := World.block_lt_of_cell? w _ h.1
  exact ⟨(hb.cell (p := ⟨g, 0, none⟩) hl).trans h.1, (hb.cell (p := ⟨g, 1, none⟩) hl).trans h.2.1, fun k => (hb.frozen (p := ⟨g, k, none⟩) hl).trans (h.2.2 k)⟩
theorem Rd.set {w : World} {b : Nat} {x y : Int} (h : Rd w b x y) (x' y' : Int) : Rd ((w.setCell ⟨b, 0, none⟩ (.int .i64 x')).setCell ⟨b, 1, none⟩ (.int .i64 y')) b x' y' := by
  obtain ⟨h0, h1, hf⟩ := h
  refine ⟨?_, ?_, fun k => ?_⟩ <;> simp [go_sem, h0, h1, hf]
theorem Rd.alloc {w : World} {b : Nat} {x y : Int} (h : Rd w b x y) (O : Obj) : Rd (w.alloc O) b x y := h.below ((Below.refl _ _).alloc (Nat.le_refl _) O)
end Go.Proofs.YtdigjklhfimnbaaGreat
