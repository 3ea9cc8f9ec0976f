/-
  No cell of these rows narrows 'for every input' (looked for: loops, veiled, ifaces, maps, wideKeys, modest, calm, conditions, laid).
  DERIVED. THE GIVEN ROWS OF THIS SEAT. 5 by the template 'for every input the law returns true; each argument reads behind the call as it read before'; 0 by the template 'total and deterministic' (their statements: YtgcjmnjepnmaeaaTotals.lean).
  GIVEN WITH THE SEED: the statements are not yours to turn. If you find one false, say at which input.
  Laid BY PROGRAM, IN A SANDBOX (cutbox-rows.mjs): the forced cells as the released guide's own fill.sh prints them over the translation 3d2dd97652474924… (all of the seat's roots in one cut). By AI agents, Wed Nov 11 2026. No macro, syntax, notation, axiom, sorry.
-/
import Derived.Test.YtgcjmnjepnmaeaaChecked
import GoSem.Claim
import GoSem.ClaimJoined
import GoSem.ClaimMapViews
import Derived.JoinedTies
import Derived.KernelRfl
namespace Go.Proofs.Ytgcjmnjepnmaeaa
/- THE CELL 'sum', in the pinned program and in every row, IS THE sha256 OF THE DUMP (.gsa) THAT YtgcjmnjepnmaeaaProg.lean LOADS. Nothing in Lean hashes anything: it is a label: what it is worth is what the hold of that sum in a sandbox is worth. -/
noncomputable def Try.pinned : Pinned := { name := "ytgcjmnjepnmaeaa", sum := "3d2dd97652474924f511434afa6b9e6ea0dda3213bf11b81af35b1e66355e5b1", checked := Try.checked }
namespace Rows
def none {H : Type} : Left H := { results := [], args := [] }

/-- 'thalweglaw10.QueueDoes': WHATEVER THE INPUT: true; the input reads as it did. -/
def queueDoesSpec : ChangeSpec := { name := "queueDoes", fn := fun _ => fun
  | [d1, d2] => { results := [.lit (.bool true)], args := [d1, d2] }
  | _ => none }
def queueDoesRow : OpenClaim := { program := "ytgcjmnjepnmaeaa", sum := "3d2dd97652474924f511434afa6b9e6ea0dda3213bf11b81af35b1e66355e5b1", func := "thalweg/thalweglaw10.QueueDoes", spec := "queueDoes", inPlace := ["sync/atomic.LoadInt64", "sync/atomic.StoreInt64"], apart := false }
def QueueDoesSaid : Prop := queueDoesRow.holds Try.pinned (OpenSpec.ofChange queueDoesSpec)

/-- ITS FALSE NEIGHBOUR: 'it returns false'. Refute it at one input. -/
def queueDoesWrong : ChangeSpec := { name := "queueDoes", fn := fun _ => fun
  | [d1, d2] => { results := [.lit (.bool false)], args := [d1, d2] }
  | _ => none }
def QueueDoesWrongFalsely : Prop := queueDoesRow.holds Try.pinned (OpenSpec.ofChange queueDoesWrong)

/-- 'thalweglaw10.QueueOrder': WHATEVER THE INPUT: true; the input reads as it did. -/
def queueOrderSpec : ChangeSpec := { name := "queueOrder", fn := fun _ => fun
  | [d1, d2, d3] => { results := [.lit (.bool true)], args := [d1, d2, d3] }
  | _ => none }
def queueOrderRow : OpenClaim := { program := "ytgcjmnjepnmaeaa", sum := "3d2dd97652474924f511434afa6b9e6ea0dda3213bf11b81af35b1e66355e5b1", func := "thalweg/thalweglaw10.QueueOrder", spec := "queueOrder", inPlace := ["sync/atomic.LoadInt64", "sync/atomic.StoreInt64"], apart := false }
def QueueOrderSaid : Prop := queueOrderRow.holds Try.pinned (OpenSpec.ofChange queueOrderSpec)

/-- ITS FALSE NEIGHBOUR: 'it returns false'. Refute it at one input. -/
def queueOrderWrong : ChangeSpec := { name := "queueOrder", fn := fun _ => fun
  | [d1, d2, d3] => { results := [.lit (.bool false)], args := [d1, d2, d3] }
  | _ => none }
def QueueOrderWrongFalsely : Prop := queueOrderRow.holds Try.pinned (OpenSpec.ofChange queueOrderWrong)

/-- 'thalweglaw10.QueueClears': WHATEVER THE INPUT: true; the input reads as it did. -/
def queueClearsSpec : ChangeSpec := { name := "queueClears", fn := fun _ => fun
  | [d1, d2, d3] => { results := [.lit (.bool true)], args := [d1, d2, d3] }
  | _ => none }
def queueClearsRow : OpenClaim := { program := "ytgcjmnjepnmaeaa", sum := "3d2dd97652474924f511434afa6b9e6ea0dda3213bf11b81af35b1e66355e5b1", func := "thalweg/thalweglaw10.QueueClears", spec := "queueClears", inPlace := ["sync/atomic.LoadInt64", "sync/atomic.StoreInt64"], apart := false }
def QueueClearsSaid : Prop := queueClearsRow.holds Try.pinned (OpenSpec.ofChange queueClearsSpec)

/-- ITS FALSE NEIGHBOUR: 'it returns false'. Refute it at one input. -/
def queueClearsWrong : ChangeSpec := { name := "queueClears", fn := fun _ => fun
  | [d1, d2, d3] => { results := [.lit (.bool false)], args := [d1, d2, d3] }
  | _ => none }
def QueueClearsWrongFalsely : Prop := queueClearsRow.holds Try.pinned (OpenSpec.ofChange queueClearsWrong)

/-- 'thalweglaw10.QueueNil': WHATEVER THE INPUT: true; the input reads as it did. -/
def queueNilSpec : ChangeSpec := { name := "queueNil", fn := fun _ => fun
  | [d1, d2] => { results := [.lit (.bool true)], args := [d1, d2] }
  | _ => none }
def queueNilRow : OpenClaim := { program := "ytgcjmnjepnmaeaa", sum := "3d2dd97652474924f511434afa6b9e6ea0dda3213bf11b81af35b1e66355e5b1", func := "thalweg/thalweglaw10.QueueNil", spec := "queueNil", inPlace := ["sync/atomic.LoadInt64", "sync/atomic.StoreInt64"], apart := false }
def QueueNilSaid : Prop := queueNilRow.holds Try.pinned (OpenSpec.ofChange queueNilSpec)

/-- ITS FALSE NEIGHBOUR: 'it returns false'. Refute it at one input. -/
def queueNilWrong : ChangeSpec := { name := "queueNil", fn := fun _ => fun
  | [d1, d2] => { results := [.lit (.bool false)], args := [d1, d2] }
  | _ => none }
def QueueNilWrongFalsely : Prop := queueNilRow.holds Try.pinned (OpenSpec.ofChange queueNilWrong)

/-- 'thalweglaw10.QueueFirst': WHATEVER THE INPUT: true; the input reads as it did. -/
def queueFirstSpec : ChangeSpec := { name := "queueFirst", fn := fun _ => fun
  | [d1, d2] => { results := [.lit (.bool true)], args := [d1, d2] }
  | _ => none }
def queueFirstRow : OpenClaim := { program := "ytgcjmnjepnmaeaa", sum := "3d2dd97652474924f511434afa6b9e6ea0dda3213bf11b81af35b1e66355e5b1", func := "thalweg/thalweglaw10.QueueFirst", spec := "queueFirst", inPlace := ["sync/atomic.LoadInt64", "sync/atomic.StoreInt64"], apart := false }
def QueueFirstSaid : Prop := queueFirstRow.holds Try.pinned (OpenSpec.ofChange queueFirstSpec)

/-- ITS FALSE NEIGHBOUR: 'it returns false'. Refute it at one input. -/
def queueFirstWrong : ChangeSpec := { name := "queueFirst", fn := fun _ => fun
  | [d1, d2] => { results := [.lit (.bool false)], args := [d1, d2] }
  | _ => none }
def QueueFirstWrongFalsely : Prop := queueFirstRow.holds Try.pinned (OpenSpec.ofChange queueFirstWrong)

/- THE SECOND FORM. 'bulk': how many values and letters a reading holds, each counted each time it is reached (what is shared counts as often as it is met; a slice's spare places count too). A statement '..UptoSaid' is the law's where the arguments, and the package variables that the reading takes, are together of bulk at most 1048576: NARROWER than '..Said'. Prove '..Said' where nothing that the law and all that it calls make is longer than what came in: it says more and counts as full. Else prove '..UptoSaid'. A law counts once. -/
mutual
def uptoBulk {H : Type} : DataW H → Nat
  | .lit (.string bytes) => bytes.length + 1
  | .lit _ => 1
  | .nil => 1
  | .ptr d => uptoBulk d + 1
  | .slice elems spare => uptoBulkAll elems + uptoBulkAll spare + 1
  | .agg parts => uptoBulkAll parts + 1
  | .iface _ d => uptoBulk d + 1
  | .map entries => uptoBulkEntries entries + 1
  | .held _ => 1
def uptoBulkAll {H : Type} : List (DataW H) → Nat
  | [] => 0
  | d :: r => uptoBulk d + uptoBulkAll r
def uptoBulkEntries {H : Type} : List (Lit × DataW H) → Nat
  | [] => 0
  | x :: r => uptoBulkEntry x + uptoBulkEntries r
def uptoBulkEntry {H : Type} : Lit × DataW H → Nat
  | (.string bytes, d) => bytes.length + uptoBulk d + 1
  | (_, d) => uptoBulk d + 1
 end
def uptoSmall : (H : Type) → List (DataW H) → Bool := fun _ ds => decide (uptoBulkAll ds ≤ 1048576)
def OpenSpec.upto (s : _root_.Go.ChangeSpec) : _root_.Go.OpenSpec := { _root_.Go.OpenSpec.ofChange s with cond := some uptoSmall }

/-- 'thalweglaw10.QueueDoes', WHERE WHAT IT READS IS OF BULK AT MOST 1048576: true; the input reads as it did. -/
def queueDoesUptoRow : OpenClaim := { program := "ytgcjmnjepnmaeaa", sum := "3d2dd97652474924f511434afa6b9e6ea0dda3213bf11b81af35b1e66355e5b1", func := "thalweg/thalweglaw10.QueueDoes", spec := "queueDoes", inPlace := ["sync/atomic.LoadInt64", "sync/atomic.StoreInt64"], apart := false, narrowed := true }
def QueueDoesUptoSaid : Prop := queueDoesUptoRow.holds Try.pinned (OpenSpec.upto queueDoesSpec)

/-- 'thalweglaw10.QueueOrder', WHERE WHAT IT READS IS OF BULK AT MOST 1048576: true; the input reads as it did. -/
def queueOrderUptoRow : OpenClaim := { program := "ytgcjmnjepnmaeaa", sum := "3d2dd97652474924f511434afa6b9e6ea0dda3213bf11b81af35b1e66355e5b1", func := "thalweg/thalweglaw10.QueueOrder", spec := "queueOrder", inPlace := ["sync/atomic.LoadInt64", "sync/atomic.StoreInt64"], apart := false, narrowed := true }
def QueueOrderUptoSaid : Prop := queueOrderUptoRow.holds Try.pinned (OpenSpec.upto queueOrderSpec)

/-- 'thalweglaw10.QueueClears', WHERE WHAT IT READS IS OF BULK AT MOST 1048576: true; the input reads as it did. -/
def queueClearsUptoRow : OpenClaim := { program := "ytgcjmnjepnmaeaa", sum := "3d2dd97652474924f511434afa6b9e6ea0dda3213bf11b81af35b1e66355e5b1", func := "thalweg/thalweglaw10.QueueClears", spec := "queueClears", inPlace := ["sync/atomic.LoadInt64", "sync/atomic.StoreInt64"], apart := false, narrowed := true }
def QueueClearsUptoSaid : Prop := queueClearsUptoRow.holds Try.pinned (OpenSpec.upto queueClearsSpec)

/-- 'thalweglaw10.QueueNil', WHERE WHAT IT READS IS OF BULK AT MOST 1048576: true; the input reads as it did. -/
def queueNilUptoRow : OpenClaim := { program := "ytgcjmnjepnmaeaa", sum := "3d2dd97652474924f511434afa6b9e6ea0dda3213bf11b81af35b1e66355e5b1", func := "thalweg/thalweglaw10.QueueNil", spec := "queueNil", inPlace := ["sync/atomic.LoadInt64", "sync/atomic.StoreInt64"], apart := false, narrowed := true }
def QueueNilUptoSaid : Prop := queueNilUptoRow.holds Try.pinned (OpenSpec.upto queueNilSpec)

/-- 'thalweglaw10.QueueFirst', WHERE WHAT IT READS IS OF BULK AT MOST 1048576: true; the input reads as it did. -/
def queueFirstUptoRow : OpenClaim := { program := "ytgcjmnjepnmaeaa", sum := "3d2dd97652474924f511434afa6b9e6ea0dda3213bf11b81af35b1e66355e5b1", func := "thalweg/thalweglaw10.QueueFirst", spec := "queueFirst", inPlace := ["sync/atomic.LoadInt64", "sync/atomic.StoreInt64"], apart := false, narrowed := true }
def QueueFirstUptoSaid : Prop := queueFirstUptoRow.holds Try.pinned (OpenSpec.upto queueFirstSpec)

end Rows
end Go.Proofs.Ytgcjmnjepnmaeaa
