/-
  No cell of these rows narrows 'for every input' (looked for: loops, veiled, ifaces, maps, wideKeys, modest, calm, conditions, laid).
  DERIVED. THE GIVEN ROWS OF THIS SEAT. 5 by the template 'for every input the law returns true; each argument reads behind the call as it read before'; 0 by the template 'total and deterministic' (their statements: YthnajpckhoomgaaGreatTotals.lean).
  GIVEN WITH THE SEED: the statements are not yours to turn. If you find one false, say at which input.
  Laid BY PROGRAM, IN A SANDBOX (cutbox-rows.mjs): the forced cells as the released guide's own fill.sh prints them over the translation 3e3effa338fe1650… (all of the seat's roots in one cut). By AI agents, Wed Nov 11 2026. No macro, syntax, notation, axiom, sorry.
-/
import Derived.Test.YthnajpckhoomgaaGreatChecked
import GoSem.Claim
import GoSem.ClaimJoined
import GoSem.ClaimMapViews
import Derived.JoinedTies
import Derived.KernelRfl
namespace Go.Proofs.YthnajpckhoomgaaGreat
/- THE CELL 'sum', in the pinned program and in every row, IS THE sha256 OF THE DUMP (.gsa) THAT YthnajpckhoomgaaGreatProg.lean LOADS. Nothing in Lean hashes anything: it is a label: what it is worth is what the hold of that sum in a sandbox is worth. -/
noncomputable def Tryz.pinned : Pinned := { name := "ythnajpckhoomgaagreat", sum := "3e3effa338fe16507d29c16562310191c7338066e869ec67a39682a5ad43392d", checked := Tryz.checked }
namespace Rows
def none {H : Type} : Left H := { results := [], args := [] }

/-- 'thalweglaw16.PairDoes': WHATEVER THE INPUT: true; the input reads as it did. -/
def pairDoesSpec : ChangeSpec := { name := "pairDoes", fn := fun _ => fun
  | [d1, d2, d3, d4, d5] => { results := [.lit (.bool true)], args := [d1, d2, d3, d4, d5] }
  | _ => none }
def pairDoesRow : OpenClaim := { program := "ythnajpckhoomgaagreat", sum := "3e3effa338fe16507d29c16562310191c7338066e869ec67a39682a5ad43392d", func := "thalweg/thalweglaw16.PairDoes", spec := "pairDoes", inPlace := ["sync/atomic.StorePointer", "sync/atomic.SwapPointer", "sync/atomic.LoadPointer", "sync/atomic.StoreUint64", "sync/atomic.LoadUint64", "sync/atomic.StoreInt64", "sync/atomic.SwapUint32", "sync/atomic.LoadUint32", "(*internal/sync.Mutex).Lock", "internal/race.Disable", "sync/atomic.CompareAndSwapInt32", "internal/race.Enable", "internal/race.Acquire", "(*internal/sync.Mutex).lockSlow", "internal/sync.runtime_canSpin", "internal/sync.runtime_doSpin", "internal/sync.throw", "internal/sync.runtime_nanotime", "internal/sync.runtime_SemacquireMutex", "sync/atomic.AddInt32", "(*internal/sync.Mutex).Unlock", "internal/race.ReleaseMerge", "(*internal/sync.Mutex).unlockSlow", "internal/sync.fatal", "internal/sync.runtime_Semrelease", "sync/atomic.StoreUint32", "sync/atomic.LoadInt64", "sync/atomic.AddInt64"], unfollowed := true, recurses := true, apart := false }
def PairDoesSaid : Prop := pairDoesRow.holds Tryz.pinned (OpenSpec.ofChange pairDoesSpec)

/-- ITS FALSE NEIGHBOUR: 'it returns false'. Refute it at one input. -/
def pairDoesWrong : ChangeSpec := { name := "pairDoes", fn := fun _ => fun
  | [d1, d2, d3, d4, d5] => { results := [.lit (.bool false)], args := [d1, d2, d3, d4, d5] }
  | _ => none }
def PairDoesWrongFalsely : Prop := pairDoesRow.holds Tryz.pinned (OpenSpec.ofChange pairDoesWrong)

/-- 'thalweglaw16.PairPlays': WHATEVER THE INPUT: true; the input reads as it did. -/
def pairPlaysSpec : ChangeSpec := { name := "pairPlays", fn := fun _ => fun
  | [d1, d2, d3, d4] => { results := [.lit (.bool true)], args := [d1, d2, d3, d4] }
  | _ => none }
def pairPlaysRow : OpenClaim := { program := "ythnajpckhoomgaagreat", sum := "3e3effa338fe16507d29c16562310191c7338066e869ec67a39682a5ad43392d", func := "thalweg/thalweglaw16.PairPlays", spec := "pairPlays", inPlace := ["sync/atomic.StorePointer", "sync/atomic.SwapPointer", "sync/atomic.LoadPointer", "sync/atomic.StoreUint64", "sync/atomic.LoadUint64", "sync/atomic.StoreInt64", "sync/atomic.SwapUint32", "sync/atomic.LoadUint32", "(*internal/sync.Mutex).Lock", "internal/race.Disable", "sync/atomic.CompareAndSwapInt32", "internal/race.Enable", "internal/race.Acquire", "(*internal/sync.Mutex).lockSlow", "internal/sync.runtime_canSpin", "internal/sync.runtime_doSpin", "internal/sync.throw", "internal/sync.runtime_nanotime", "internal/sync.runtime_SemacquireMutex", "sync/atomic.AddInt32", "(*internal/sync.Mutex).Unlock", "internal/race.ReleaseMerge", "(*internal/sync.Mutex).unlockSlow", "internal/sync.fatal", "internal/sync.runtime_Semrelease", "sync/atomic.StoreUint32", "sync/atomic.LoadInt64", "sync/atomic.AddInt64"], unfollowed := true, recurses := true, apart := false }
def PairPlaysSaid : Prop := pairPlaysRow.holds Tryz.pinned (OpenSpec.ofChange pairPlaysSpec)

/-- ITS FALSE NEIGHBOUR: 'it returns false'. Refute it at one input. -/
def pairPlaysWrong : ChangeSpec := { name := "pairPlays", fn := fun _ => fun
  | [d1, d2, d3, d4] => { results := [.lit (.bool false)], args := [d1, d2, d3, d4] }
  | _ => none }
def PairPlaysWrongFalsely : Prop := pairPlaysRow.holds Tryz.pinned (OpenSpec.ofChange pairPlaysWrong)

/-- 'thalweglaw16.PairOnly': WHATEVER THE INPUT: true; the input reads as it did. -/
def pairOnlySpec : ChangeSpec := { name := "pairOnly", fn := fun _ => fun
  | [d1, d2, d3] => { results := [.lit (.bool true)], args := [d1, d2, d3] }
  | _ => none }
def pairOnlyRow : OpenClaim := { program := "ythnajpckhoomgaagreat", sum := "3e3effa338fe16507d29c16562310191c7338066e869ec67a39682a5ad43392d", func := "thalweg/thalweglaw16.PairOnly", spec := "pairOnly", inPlace := ["sync/atomic.StorePointer", "sync/atomic.SwapPointer", "sync/atomic.LoadPointer", "sync/atomic.StoreUint64", "sync/atomic.LoadUint64", "sync/atomic.StoreInt64", "sync/atomic.SwapUint32", "sync/atomic.LoadUint32", "(*internal/sync.Mutex).Lock", "internal/race.Disable", "sync/atomic.CompareAndSwapInt32", "internal/race.Enable", "internal/race.Acquire", "(*internal/sync.Mutex).lockSlow", "internal/sync.runtime_canSpin", "internal/sync.runtime_doSpin", "internal/sync.throw", "internal/sync.runtime_nanotime", "internal/sync.runtime_SemacquireMutex", "sync/atomic.AddInt32", "(*internal/sync.Mutex).Unlock", "internal/race.ReleaseMerge", "(*internal/sync.Mutex).unlockSlow", "internal/sync.fatal", "internal/sync.runtime_Semrelease", "sync/atomic.StoreUint32"], unfollowed := true, recurses := true, apart := false }
def PairOnlySaid : Prop := pairOnlyRow.holds Tryz.pinned (OpenSpec.ofChange pairOnlySpec)

/-- ITS FALSE NEIGHBOUR: 'it returns false'. Refute it at one input. -/
def pairOnlyWrong : ChangeSpec := { name := "pairOnly", fn := fun _ => fun
  | [d1, d2, d3] => { results := [.lit (.bool false)], args := [d1, d2, d3] }
  | _ => none }
def PairOnlyWrongFalsely : Prop := pairOnlyRow.holds Tryz.pinned (OpenSpec.ofChange pairOnlyWrong)

/-- 'thalweglaw16.PairNil': WHATEVER THE INPUT: true; the input reads as it did. -/
def pairNilSpec : ChangeSpec := { name := "pairNil", fn := fun _ => fun
  | [d1, d2] => { results := [.lit (.bool true)], args := [d1, d2] }
  | _ => none }
def pairNilRow : OpenClaim := { program := "ythnajpckhoomgaagreat", sum := "3e3effa338fe16507d29c16562310191c7338066e869ec67a39682a5ad43392d", func := "thalweg/thalweglaw16.PairNil", spec := "pairNil", inPlace := ["sync/atomic.LoadInt64", "sync/atomic.AddInt64", "sync/atomic.SwapUint32", "sync/atomic.LoadUint32", "(*internal/sync.Mutex).Lock", "internal/race.Disable", "sync/atomic.CompareAndSwapInt32", "internal/race.Enable", "internal/race.Acquire", "(*internal/sync.Mutex).lockSlow", "internal/sync.runtime_canSpin", "internal/sync.runtime_doSpin", "internal/sync.throw", "internal/sync.runtime_nanotime", "internal/sync.runtime_SemacquireMutex", "sync/atomic.AddInt32", "(*internal/sync.Mutex).Unlock", "internal/race.ReleaseMerge", "(*internal/sync.Mutex).unlockSlow", "internal/sync.fatal", "internal/sync.runtime_Semrelease", "sync/atomic.StoreUint32", "sync/atomic.StorePointer", "sync/atomic.SwapPointer", "sync/atomic.LoadPointer", "sync/atomic.StoreUint64", "sync/atomic.LoadUint64", "sync/atomic.StoreInt64"], unfollowed := true, recurses := true, apart := false }
def PairNilSaid : Prop := pairNilRow.holds Tryz.pinned (OpenSpec.ofChange pairNilSpec)

/-- ITS FALSE NEIGHBOUR: 'it returns false'. Refute it at one input. -/
def pairNilWrong : ChangeSpec := { name := "pairNil", fn := fun _ => fun
  | [d1, d2] => { results := [.lit (.bool false)], args := [d1, d2] }
  | _ => none }
def PairNilWrongFalsely : Prop := pairNilRow.holds Tryz.pinned (OpenSpec.ofChange pairNilWrong)

/-- 'thalweglaw16.PairFresh': WHATEVER THE INPUT: true; the input reads as it did. -/
def pairFreshSpec : ChangeSpec := { name := "pairFresh", fn := fun _ => fun
  | [d1, d2, d3, d4, d5] => { results := [.lit (.bool true)], args := [d1, d2, d3, d4, d5] }
  | _ => none }
def pairFreshRow : OpenClaim := { program := "ythnajpckhoomgaagreat", sum := "3e3effa338fe16507d29c16562310191c7338066e869ec67a39682a5ad43392d", func := "thalweg/thalweglaw16.PairFresh", spec := "pairFresh", inPlace := ["sync/atomic.StorePointer", "sync/atomic.SwapPointer", "sync/atomic.LoadPointer", "sync/atomic.StoreUint64", "sync/atomic.LoadUint64", "sync/atomic.StoreInt64", "sync/atomic.SwapUint32", "sync/atomic.LoadUint32", "(*internal/sync.Mutex).Lock", "internal/race.Disable", "sync/atomic.CompareAndSwapInt32", "internal/race.Enable", "internal/race.Acquire", "(*internal/sync.Mutex).lockSlow", "internal/sync.runtime_canSpin", "internal/sync.runtime_doSpin", "internal/sync.throw", "internal/sync.runtime_nanotime", "internal/sync.runtime_SemacquireMutex", "sync/atomic.AddInt32", "(*internal/sync.Mutex).Unlock", "internal/race.ReleaseMerge", "(*internal/sync.Mutex).unlockSlow", "internal/sync.fatal", "internal/sync.runtime_Semrelease", "sync/atomic.StoreUint32", "sync/atomic.LoadInt64", "sync/atomic.AddInt64"], unfollowed := true, recurses := true, apart := false }
def PairFreshSaid : Prop := pairFreshRow.holds Tryz.pinned (OpenSpec.ofChange pairFreshSpec)

/-- ITS FALSE NEIGHBOUR: 'it returns false'. Refute it at one input. -/
def pairFreshWrong : ChangeSpec := { name := "pairFresh", fn := fun _ => fun
  | [d1, d2, d3, d4, d5] => { results := [.lit (.bool false)], args := [d1, d2, d3, d4, d5] }
  | _ => none }
def PairFreshWrongFalsely : Prop := pairFreshRow.holds Tryz.pinned (OpenSpec.ofChange pairFreshWrong)

/- THE SECOND FORM. 'bulk': how many values and letters a reading holds, each counted each time it is reached (what is shared counts as often as it is met; a slice's spare places count too). A statement '..UptoSaid' is the law's where the arguments, and the package variables that the reading takes, are together of bulk at most 1048576: NARROWER than '..Said'. Prove '..Said' where nothing that the law and all that it calls make is longer than what came in: it says more and counts as full. Else prove '..UptoSaid'. A law counts once. -/
mutual
def uptoBulk {H : Type} : DataW H → Nat
  | .lit (.string bytes) => bytes.length + 1
  | .lit _ => 1
  | .nil => 1
  | .ptr d => uptoBulk d + 1
  | .slice elems spare => uptoBulkAll elems + uptoBulkAll spare + 1
  | .agg parts => uptoBulkAll parts + 1
  | .iface _ d => uptoBulk d + 1
  | .map entries => uptoBulkEntries entries + 1
  | .held _ => 1
def uptoBulkAll {H : Type} : List (DataW H) → Nat
  | [] => 0
  | d :: r => uptoBulk d + uptoBulkAll r
def uptoBulkEntries {H : Type} : List (Lit × DataW H) → Nat
  | [] => 0
  | x :: r => uptoBulkEntry x + uptoBulkEntries r
def uptoBulkEntry {H : Type} : Lit × DataW H → Nat
  | (.string bytes, d) => bytes.length + uptoBulk d + 1
  | (_, d) => uptoBulk d + 1
 end
def uptoSmall : (H : Type) → List (DataW H) → Bool := fun _ ds => decide (uptoBulkAll ds ≤ 1048576)
def OpenSpec.upto (s : _root_.Go.ChangeSpec) : _root_.Go.OpenSpec := { _root_.Go.OpenSpec.ofChange s with cond := some uptoSmall }

/-- 'thalweglaw16.PairDoes', WHERE WHAT IT READS IS OF BULK AT MOST 1048576: true; the input reads as it did. -/
def pairDoesUptoRow : OpenClaim := { program := "ythnajpckhoomgaagreat", sum := "3e3effa338fe16507d29c16562310191c7338066e869ec67a39682a5ad43392d", func := "thalweg/thalweglaw16.PairDoes", spec := "pairDoes", inPlace := ["sync/atomic.StorePointer", "sync/atomic.SwapPointer", "sync/atomic.LoadPointer", "sync/atomic.StoreUint64", "sync/atomic.LoadUint64", "sync/atomic.StoreInt64", "sync/atomic.SwapUint32", "sync/atomic.LoadUint32", "(*internal/sync.Mutex).Lock", "internal/race.Disable", "sync/atomic.CompareAndSwapInt32", "internal/race.Enable", "internal/race.Acquire", "(*internal/sync.Mutex).lockSlow", "internal/sync.runtime_canSpin", "internal/sync.runtime_doSpin", "internal/sync.throw", "internal/sync.runtime_nanotime", "internal/sync.runtime_SemacquireMutex", "sync/atomic.AddInt32", "(*internal/sync.Mutex).Unlock", "internal/race.ReleaseMerge", "(*internal/sync.Mutex).unlockSlow", "internal/sync.fatal", "internal/sync.runtime_Semrelease", "sync/atomic.StoreUint32", "sync/atomic.LoadInt64", "sync/atomic.AddInt64"], unfollowed := true, recurses := true, apart := false, narrowed := true }
def PairDoesUptoSaid : Prop := pairDoesUptoRow.holds Tryz.pinned (OpenSpec.upto pairDoesSpec)

/-- 'thalweglaw16.PairPlays', WHERE WHAT IT READS IS OF BULK AT MOST 1048576: true; the input reads as it did. -/
def pairPlaysUptoRow : OpenClaim := { program := "ythnajpckhoomgaagreat", sum := "3e3effa338fe16507d29c16562310191c7338066e869ec67a39682a5ad43392d", func := "thalweg/thalweglaw16.PairPlays", spec := "pairPlays", inPlace := ["sync/atomic.StorePointer", "sync/atomic.SwapPointer", "sync/atomic.LoadPointer", "sync/atomic.StoreUint64", "sync/atomic.LoadUint64", "sync/atomic.StoreInt64", "sync/atomic.SwapUint32", "sync/atomic.LoadUint32", "(*internal/sync.Mutex).Lock", "internal/race.Disable", "sync/atomic.CompareAndSwapInt32", "internal/race.Enable", "internal/race.Acquire", "(*internal/sync.Mutex).lockSlow", "internal/sync.runtime_canSpin", "internal/sync.runtime_doSpin", "internal/sync.throw", "internal/sync.runtime_nanotime", "internal/sync.runtime_SemacquireMutex", "sync/atomic.AddInt32", "(*internal/sync.Mutex).Unlock", "internal/race.ReleaseMerge", "(*internal/sync.Mutex).unlockSlow", "internal/sync.fatal", "internal/sync.runtime_Semrelease", "sync/atomic.StoreUint32", "sync/atomic.LoadInt64", "sync/atomic.AddInt64"], unfollowed := true, recurses := true, apart := false, narrowed := true }
def PairPlaysUptoSaid : Prop := pairPlaysUptoRow.holds Tryz.pinned (OpenSpec.upto pairPlaysSpec)

/-- 'thalweglaw16.PairOnly', WHERE WHAT IT READS IS OF BULK AT MOST 1048576: true; the input reads as it did. -/
def pairOnlyUptoRow : OpenClaim := { program := "ythnajpckhoomgaagreat", sum := "3e3effa338fe16507d29c16562310191c7338066e869ec67a39682a5ad43392d", func := "thalweg/thalweglaw16.PairOnly", spec := "pairOnly", inPlace := ["sync/atomic.StorePointer", "sync/atomic.SwapPointer", "sync/atomic.LoadPointer", "sync/atomic.StoreUint64", "sync/atomic.LoadUint64", "sync/atomic.StoreInt64", "sync/atomic.SwapUint32", "sync/atomic.LoadUint32", "(*internal/sync.Mutex).Lock", "internal/race.Disable", "sync/atomic.CompareAndSwapInt32", "internal/race.Enable", "internal/race.Acquire", "(*internal/sync.Mutex).lockSlow", "internal/sync.runtime_canSpin", "internal/sync.runtime_doSpin", "internal/sync.throw", "internal/sync.runtime_nanotime", "internal/sync.runtime_SemacquireMutex", "sync/atomic.AddInt32", "(*internal/sync.Mutex).Unlock", "internal/race.ReleaseMerge", "(*internal/sync.Mutex).unlockSlow", "internal/sync.fatal", "internal/sync.runtime_Semrelease", "sync/atomic.StoreUint32"], unfollowed := true, recurses := true, apart := false, narrowed := true }
def PairOnlyUptoSaid : Prop := pairOnlyUptoRow.holds Tryz.pinned (OpenSpec.upto pairOnlySpec)

/-- 'thalweglaw16.PairNil', WHERE WHAT IT READS IS OF BULK AT MOST 1048576: true; the input reads as it did. -/
def pairNilUptoRow : OpenClaim := { program := "ythnajpckhoomgaagreat", sum := "3e3effa338fe16507d29c16562310191c7338066e869ec67a39682a5ad43392d", func := "thalweg/thalweglaw16.PairNil", spec := "pairNil", inPlace := ["sync/atomic.LoadInt64", "sync/atomic.AddInt64", "sync/atomic.SwapUint32", "sync/atomic.LoadUint32", "(*internal/sync.Mutex).Lock", "internal/race.Disable", "sync/atomic.CompareAndSwapInt32", "internal/race.Enable", "internal/race.Acquire", "(*internal/sync.Mutex).lockSlow", "internal/sync.runtime_canSpin", "internal/sync.runtime_doSpin", "internal/sync.throw", "internal/sync.runtime_nanotime", "internal/sync.runtime_SemacquireMutex", "sync/atomic.AddInt32", "(*internal/sync.Mutex).Unlock", "internal/race.ReleaseMerge", "(*internal/sync.Mutex).unlockSlow", "internal/sync.fatal", "internal/sync.runtime_Semrelease", "sync/atomic.StoreUint32", "sync/atomic.StorePointer", "sync/atomic.SwapPointer", "sync/atomic.LoadPointer", "sync/atomic.StoreUint64", "sync/atomic.LoadUint64", "sync/atomic.StoreInt64"], unfollowed := true, recurses := true, apart := false, narrowed := true }
def PairNilUptoSaid : Prop := pairNilUptoRow.holds Tryz.pinned (OpenSpec.upto pairNilSpec)

/-- 'thalweglaw16.PairFresh', WHERE WHAT IT READS IS OF BULK AT MOST 1048576: true; the input reads as it did. -/
def pairFreshUptoRow : OpenClaim := { program := "ythnajpckhoomgaagreat", sum := "3e3effa338fe16507d29c16562310191c7338066e869ec67a39682a5ad43392d", func := "thalweg/thalweglaw16.PairFresh", spec := "pairFresh", inPlace := ["sync/atomic.StorePointer", "sync/atomic.SwapPointer", "sync/atomic.LoadPointer", "sync/atomic.StoreUint64", "sync/atomic.LoadUint64", "sync/atomic.StoreInt64", "sync/atomic.SwapUint32", "sync/atomic.LoadUint32", "(*internal/sync.Mutex).Lock", "internal/race.Disable", "sync/atomic.CompareAndSwapInt32", "internal/race.Enable", "internal/race.Acquire", "(*internal/sync.Mutex).lockSlow", "internal/sync.runtime_canSpin", "internal/sync.runtime_doSpin", "internal/sync.throw", "internal/sync.runtime_nanotime", "internal/sync.runtime_SemacquireMutex", "sync/atomic.AddInt32", "(*internal/sync.Mutex).Unlock", "internal/race.ReleaseMerge", "(*internal/sync.Mutex).unlockSlow", "internal/sync.fatal", "internal/sync.runtime_Semrelease", "sync/atomic.StoreUint32", "sync/atomic.LoadInt64", "sync/atomic.AddInt64"], unfollowed := true, recurses := true, apart := false, narrowed := true }
def PairFreshUptoSaid : Prop := pairFreshUptoRow.holds Tryz.pinned (OpenSpec.upto pairFreshSpec)

end Rows
end Go.Proofs.YthnajpckhoomgaaGreat
