/-
  No cell of these rows narrows 'for every input' (looked for: loops, veiled, ifaces, maps, wideKeys, modest, calm, conditions, laid).
  DERIVED. THE GIVEN ROWS OF THIS SEAT. 6 by the template 'for every input the law returns true; each argument reads behind the call as it read before'; 0 by the template 'total and deterministic' (their statements: YtdigjklhfimnbaaGreatTotals.lean).
  GIVEN WITH THE SEED: the statements are not yours to turn. If you find one false, say at which input.
  Laid BY PROGRAM, IN A SANDBOX (cutbox-rows.mjs): the forced cells as the released guide's own fill.sh prints them over the translation 215691b902d041db… (all of the seat's roots in one cut). By AI agents, Wed Nov 11 2026. No macro, syntax, notation, axiom, sorry.
-/
import Derived.Test.YtdigjklhfimnbaaGreatChecked
import GoSem.Claim
import GoSem.ClaimJoined
import GoSem.ClaimMapViews
import Derived.JoinedTies
import Derived.KernelRfl
namespace Go.Proofs.YtdigjklhfimnbaaGreat
/- THE CELL 'sum', in the pinned program and in every row, IS THE sha256 OF THE DUMP (.gsa) THAT YtdigjklhfimnbaaGreatProg.lean LOADS. Nothing in Lean hashes anything: it is a label: what it is worth is what the hold of that sum in a sandbox is worth. -/
noncomputable def Tryz.pinned : Pinned := { name := "ytdigjklhfimnbaagreat", sum := "215691b902d041db9cfec09f986bed63036aac437b991820b881cf8ebea9b599", checked := Tryz.checked }
namespace Rows
def none {H : Type} : Left H := { results := [], args := [] }

/-- 'thalweglaw16.PairPlays': WHATEVER THE INPUT: true; the input reads as it did. -/
def pairPlaysSpec : ChangeSpec := { name := "pairPlays", fn := fun _ => fun
  | [d1, d2, d3, d4] => { results := [.lit (.bool true)], args := [d1, d2, d3, d4] }
  | _ => none }
def pairPlaysRow : OpenClaim := { program := "ytdigjklhfimnbaagreat", sum := "215691b902d041db9cfec09f986bed63036aac437b991820b881cf8ebea9b599", func := "thalweg/thalweglaw16.PairPlays", spec := "pairPlays", inPlace := ["sync/atomic.StorePointer", "sync/atomic.SwapPointer", "sync/atomic.LoadPointer", "sync/atomic.StoreUint64", "sync/atomic.LoadUint64", "sync/atomic.StoreInt64", "sync/atomic.SwapUint32", "sync/atomic.LoadUint32", "(*internal/sync.Mutex).Lock", "internal/race.Disable", "sync/atomic.CompareAndSwapInt32", "internal/race.Enable", "internal/race.Acquire", "(*internal/sync.Mutex).lockSlow", "internal/sync.runtime_canSpin", "internal/sync.runtime_doSpin", "internal/sync.throw", "internal/sync.runtime_nanotime", "internal/sync.runtime_SemacquireMutex", "sync/atomic.AddInt32", "(*internal/sync.Mutex).Unlock", "internal/race.ReleaseMerge", "(*internal/sync.Mutex).unlockSlow", "internal/sync.fatal", "internal/sync.runtime_Semrelease", "sync/atomic.StoreUint32", "sync/atomic.LoadInt64", "sync/atomic.AddInt64"], unfollowed := true, recurses := true, apart := false }
def PairPlaysSaid : Prop := pairPlaysRow.holds Tryz.pinned (OpenSpec.ofChange pairPlaysSpec)

/-- ITS FALSE NEIGHBOUR: 'it returns false'. Refute it at one input. -/
def pairPlaysWrong : ChangeSpec := { name := "pairPlays", fn := fun _ => fun
  | [d1, d2, d3, d4] => { results := [.lit (.bool false)], args := [d1, d2, d3, d4] }
  | _ => none }
def PairPlaysWrongFalsely : Prop := pairPlaysRow.holds Tryz.pinned (OpenSpec.ofChange pairPlaysWrong)

/-- 'thalweglaw17.CastDoes': WHATEVER THE INPUT: true; the input reads as it did. -/
def castDoesSpec : ChangeSpec := { name := "castDoes", fn := fun _ => fun
  | [d1, d2, d3, d4] => { results := [.lit (.bool true)], args := [d1, d2, d3, d4] }
  | _ => none }
def castDoesRow : OpenClaim := { program := "ytdigjklhfimnbaagreat", sum := "215691b902d041db9cfec09f986bed63036aac437b991820b881cf8ebea9b599", func := "thalweg/thalweglaw17.CastDoes", spec := "castDoes", inPlace := ["sync/atomic.StorePointer", "sync/atomic.SwapPointer", "sync/atomic.LoadPointer", "sync/atomic.StoreUint64", "sync/atomic.LoadUint64", "sync/atomic.StoreInt64", "sync/atomic.SwapUint32", "sync/atomic.LoadUint32", "(*internal/sync.Mutex).Lock", "internal/race.Disable", "sync/atomic.CompareAndSwapInt32", "internal/race.Enable", "internal/race.Acquire", "(*internal/sync.Mutex).lockSlow", "internal/sync.runtime_canSpin", "internal/sync.runtime_doSpin", "internal/sync.throw", "internal/sync.runtime_nanotime", "internal/sync.runtime_SemacquireMutex", "sync/atomic.AddInt32", "(*internal/sync.Mutex).Unlock", "internal/race.ReleaseMerge", "(*internal/sync.Mutex).unlockSlow", "internal/sync.fatal", "internal/sync.runtime_Semrelease", "sync/atomic.StoreUint32", "sync/atomic.LoadInt64", "sync/atomic.AddInt64"], unfollowed := true, recurses := true, apart := false }
def CastDoesSaid : Prop := castDoesRow.holds Tryz.pinned (OpenSpec.ofChange castDoesSpec)

/-- ITS FALSE NEIGHBOUR: 'it returns false'. Refute it at one input. -/
def castDoesWrong : ChangeSpec := { name := "castDoes", fn := fun _ => fun
  | [d1, d2, d3, d4] => { results := [.lit (.bool false)], args := [d1, d2, d3, d4] }
  | _ => none }
def CastDoesWrongFalsely : Prop := castDoesRow.holds Tryz.pinned (OpenSpec.ofChange castDoesWrong)

/-- 'thalweglaw17.CastAlone': WHATEVER THE INPUT: true; the input reads as it did. -/
def castAloneSpec : ChangeSpec := { name := "castAlone", fn := fun _ => fun
  | [d1, d2, d3] => { results := [.lit (.bool true)], args := [d1, d2, d3] }
  | _ => none }
def castAloneRow : OpenClaim := { program := "ytdigjklhfimnbaagreat", sum := "215691b902d041db9cfec09f986bed63036aac437b991820b881cf8ebea9b599", func := "thalweg/thalweglaw17.CastAlone", spec := "castAlone", inPlace := ["sync/atomic.StorePointer", "sync/atomic.SwapPointer", "sync/atomic.LoadPointer", "sync/atomic.StoreUint64", "sync/atomic.LoadUint64", "sync/atomic.StoreInt64", "sync/atomic.SwapUint32", "sync/atomic.LoadUint32", "(*internal/sync.Mutex).Lock", "internal/race.Disable", "sync/atomic.CompareAndSwapInt32", "internal/race.Enable", "internal/race.Acquire", "(*internal/sync.Mutex).lockSlow", "internal/sync.runtime_canSpin", "internal/sync.runtime_doSpin", "internal/sync.throw", "internal/sync.runtime_nanotime", "internal/sync.runtime_SemacquireMutex", "sync/atomic.AddInt32", "(*internal/sync.Mutex).Unlock", "internal/race.ReleaseMerge", "(*internal/sync.Mutex).unlockSlow", "internal/sync.fatal", "internal/sync.runtime_Semrelease", "sync/atomic.StoreUint32", "sync/atomic.LoadInt64", "sync/atomic.AddInt64"], unfollowed := true, recurses := true, apart := false }
def CastAloneSaid : Prop := castAloneRow.holds Tryz.pinned (OpenSpec.ofChange castAloneSpec)

/-- ITS FALSE NEIGHBOUR: 'it returns false'. Refute it at one input. -/
def castAloneWrong : ChangeSpec := { name := "castAlone", fn := fun _ => fun
  | [d1, d2, d3] => { results := [.lit (.bool false)], args := [d1, d2, d3] }
  | _ => none }
def CastAloneWrongFalsely : Prop := castAloneRow.holds Tryz.pinned (OpenSpec.ofChange castAloneWrong)

/-- 'thalweglaw17.CastPeers': WHATEVER THE INPUT: true; the input reads as it did. -/
def castPeersSpec : ChangeSpec := { name := "castPeers", fn := fun _ => fun
  | [d1, d2] => { results := [.lit (.bool true)], args := [d1, d2] }
  | _ => none }
def castPeersRow : OpenClaim := { program := "ytdigjklhfimnbaagreat", sum := "215691b902d041db9cfec09f986bed63036aac437b991820b881cf8ebea9b599", func := "thalweg/thalweglaw17.CastPeers", spec := "castPeers", inPlace := ["sync/atomic.StorePointer", "sync/atomic.SwapPointer", "sync/atomic.LoadPointer", "sync/atomic.StoreUint64", "sync/atomic.LoadUint64", "sync/atomic.StoreInt64", "sync/atomic.SwapUint32", "sync/atomic.LoadUint32", "(*internal/sync.Mutex).Lock", "internal/race.Disable", "sync/atomic.CompareAndSwapInt32", "internal/race.Enable", "internal/race.Acquire", "(*internal/sync.Mutex).lockSlow", "internal/sync.runtime_canSpin", "internal/sync.runtime_doSpin", "internal/sync.throw", "internal/sync.runtime_nanotime", "internal/sync.runtime_SemacquireMutex", "sync/atomic.AddInt32", "(*internal/sync.Mutex).Unlock", "internal/race.ReleaseMerge", "(*internal/sync.Mutex).unlockSlow", "internal/sync.fatal", "internal/sync.runtime_Semrelease", "sync/atomic.StoreUint32"], unfollowed := true, recurses := true, apart := false }
def CastPeersSaid : Prop := castPeersRow.holds Tryz.pinned (OpenSpec.ofChange castPeersSpec)

/-- ITS FALSE NEIGHBOUR: 'it returns false'. Refute it at one input. -/
def castPeersWrong : ChangeSpec := { name := "castPeers", fn := fun _ => fun
  | [d1, d2] => { results := [.lit (.bool false)], args := [d1, d2] }
  | _ => none }
def CastPeersWrongFalsely : Prop := castPeersRow.holds Tryz.pinned (OpenSpec.ofChange castPeersWrong)

/-- 'thalweglaw17.CastNil': WHATEVER THE INPUT: true; the input reads as it did. -/
def castNilSpec : ChangeSpec := { name := "castNil", fn := fun _ => fun
  | [d1, d2, d3] => { results := [.lit (.bool true)], args := [d1, d2, d3] }
  | _ => none }
def castNilRow : OpenClaim := { program := "ytdigjklhfimnbaagreat", sum := "215691b902d041db9cfec09f986bed63036aac437b991820b881cf8ebea9b599", func := "thalweg/thalweglaw17.CastNil", spec := "castNil", inPlace := ["sync/atomic.LoadInt64", "sync/atomic.AddInt64", "sync/atomic.SwapUint32", "sync/atomic.LoadUint32", "(*internal/sync.Mutex).Lock", "internal/race.Disable", "sync/atomic.CompareAndSwapInt32", "internal/race.Enable", "internal/race.Acquire", "(*internal/sync.Mutex).lockSlow", "internal/sync.runtime_canSpin", "internal/sync.runtime_doSpin", "internal/sync.throw", "internal/sync.runtime_nanotime", "internal/sync.runtime_SemacquireMutex", "sync/atomic.AddInt32", "(*internal/sync.Mutex).Unlock", "internal/race.ReleaseMerge", "(*internal/sync.Mutex).unlockSlow", "internal/sync.fatal", "internal/sync.runtime_Semrelease", "sync/atomic.StoreUint32", "sync/atomic.StorePointer", "sync/atomic.SwapPointer", "sync/atomic.LoadPointer", "sync/atomic.StoreUint64", "sync/atomic.LoadUint64", "sync/atomic.StoreInt64"], unfollowed := true, recurses := true, apart := false }
def CastNilSaid : Prop := castNilRow.holds Tryz.pinned (OpenSpec.ofChange castNilSpec)

/-- ITS FALSE NEIGHBOUR: 'it returns false'. Refute it at one input. -/
def castNilWrong : ChangeSpec := { name := "castNil", fn := fun _ => fun
  | [d1, d2, d3] => { results := [.lit (.bool false)], args := [d1, d2, d3] }
  | _ => none }
def CastNilWrongFalsely : Prop := castNilRow.holds Tryz.pinned (OpenSpec.ofChange castNilWrong)

/-- 'thalweglaw17.CastRises': WHATEVER THE INPUT: true; the input reads as it did. -/
def castRisesSpec : ChangeSpec := { name := "castRises", fn := fun _ => fun
  | [d1, d2] => { results := [.lit (.bool true)], args := [d1, d2] }
  | _ => none }
def castRisesRow : OpenClaim := { program := "ytdigjklhfimnbaagreat", sum := "215691b902d041db9cfec09f986bed63036aac437b991820b881cf8ebea9b599", func := "thalweg/thalweglaw17.CastRises", spec := "castRises", inPlace := ["sync/atomic.StorePointer", "sync/atomic.SwapPointer", "sync/atomic.LoadPointer", "sync/atomic.StoreUint64", "sync/atomic.LoadUint64", "sync/atomic.StoreInt64", "sync/atomic.SwapUint32", "sync/atomic.LoadUint32", "(*internal/sync.Mutex).Lock", "internal/race.Disable", "sync/atomic.CompareAndSwapInt32", "internal/race.Enable", "internal/race.Acquire", "(*internal/sync.Mutex).lockSlow", "internal/sync.runtime_canSpin", "internal/sync.runtime_doSpin", "internal/sync.throw", "internal/sync.runtime_nanotime", "internal/sync.runtime_SemacquireMutex", "sync/atomic.AddInt32", "(*internal/sync.Mutex).Unlock", "internal/race.ReleaseMerge", "(*internal/sync.Mutex).unlockSlow", "internal/sync.fatal", "internal/sync.runtime_Semrelease", "sync/atomic.StoreUint32", "sync/atomic.LoadInt64", "sync/atomic.AddInt64"], unfollowed := true, recurses := true, apart := false }
def CastRisesSaid : Prop := castRisesRow.holds Tryz.pinned (OpenSpec.ofChange castRisesSpec)

/-- ITS FALSE NEIGHBOUR: 'it returns false'. Refute it at one input. -/
def castRisesWrong : ChangeSpec := { name := "castRises", fn := fun _ => fun
  | [d1, d2] => { results := [.lit (.bool false)], args := [d1, d2] }
  | _ => none }
def CastRisesWrongFalsely : Prop := castRisesRow.holds Tryz.pinned (OpenSpec.ofChange castRisesWrong)

/- THE SECOND FORM. 'bulk': how many values and letters a reading holds, each counted each time it is reached (what is shared counts as often as it is met; a slice's spare places count too). A statement '..UptoSaid' is the law's where the arguments, and the package variables that the reading takes, are together of bulk at most 1048576: NARROWER than '..Said'. Prove '..Said' where nothing that the law and all that it calls make is longer than what came in: it says more and counts as full. Else prove '..UptoSaid'. A law counts once. -/
mutual
def uptoBulk {H : Type} : DataW H → Nat
  | .lit (.string bytes) => bytes.length + 1
  | .lit _ => 1
  | .nil => 1
  | .ptr d => uptoBulk d + 1
  | .slice elems spare => uptoBulkAll elems + uptoBulkAll spare + 1
  | .agg parts => uptoBulkAll parts + 1
  | .iface _ d => uptoBulk d + 1
  | .map entries => uptoBulkEntries entries + 1
  | .held _ => 1
def uptoBulkAll {H : Type} : List (DataW H) → Nat
  | [] => 0
  | d :: r => uptoBulk d + uptoBulkAll r
def uptoBulkEntries {H : Type} : List (Lit × DataW H) → Nat
  | [] => 0
  | x :: r => uptoBulkEntry x + uptoBulkEntries r
def uptoBulkEntry {H : Type} : Lit × DataW H → Nat
  | (.string bytes, d) => bytes.length + uptoBulk d + 1
  | (_, d) => uptoBulk d + 1
 end
def uptoSmall : (H : Type) → List (DataW H) → Bool := fun _ ds => decide (uptoBulkAll ds ≤ 1048576)
def OpenSpec.upto (s : _root_.Go.ChangeSpec) : _root_.Go.OpenSpec := { _root_.Go.OpenSpec.ofChange s with cond := some uptoSmall }

/-- 'thalweglaw16.PairPlays', WHERE WHAT IT READS IS OF BULK AT MOST 1048576: true; the input reads as it did. -/
def pairPlaysUptoRow : OpenClaim := { program := "ytdigjklhfimnbaagreat", sum := "215691b902d041db9cfec09f986bed63036aac437b991820b881cf8ebea9b599", func := "thalweg/thalweglaw16.PairPlays", spec := "pairPlays", inPlace := ["sync/atomic.StorePointer", "sync/atomic.SwapPointer", "sync/atomic.LoadPointer", "sync/atomic.StoreUint64", "sync/atomic.LoadUint64", "sync/atomic.StoreInt64", "sync/atomic.SwapUint32", "sync/atomic.LoadUint32", "(*internal/sync.Mutex).Lock", "internal/race.Disable", "sync/atomic.CompareAndSwapInt32", "internal/race.Enable", "internal/race.Acquire", "(*internal/sync.Mutex).lockSlow", "internal/sync.runtime_canSpin", "internal/sync.runtime_doSpin", "internal/sync.throw", "internal/sync.runtime_nanotime", "internal/sync.runtime_SemacquireMutex", "sync/atomic.AddInt32", "(*internal/sync.Mutex).Unlock", "internal/race.ReleaseMerge", "(*internal/sync.Mutex).unlockSlow", "internal/sync.fatal", "internal/sync.runtime_Semrelease", "sync/atomic.StoreUint32", "sync/atomic.LoadInt64", "sync/atomic.AddInt64"], unfollowed := true, recurses := true, apart := false, narrowed := true }
def PairPlaysUptoSaid : Prop := pairPlaysUptoRow.holds Tryz.pinned (OpenSpec.upto pairPlaysSpec)

/-- 'thalweglaw17.CastDoes', WHERE WHAT IT READS IS OF BULK AT MOST 1048576: true; the input reads as it did. -/
def castDoesUptoRow : OpenClaim := { program := "ytdigjklhfimnbaagreat", sum := "215691b902d041db9cfec09f986bed63036aac437b991820b881cf8ebea9b599", func := "thalweg/thalweglaw17.CastDoes", spec := "castDoes", inPlace := ["sync/atomic.StorePointer", "sync/atomic.SwapPointer", "sync/atomic.LoadPointer", "sync/atomic.StoreUint64", "sync/atomic.LoadUint64", "sync/atomic.StoreInt64", "sync/atomic.SwapUint32", "sync/atomic.LoadUint32", "(*internal/sync.Mutex).Lock", "internal/race.Disable", "sync/atomic.CompareAndSwapInt32", "internal/race.Enable", "internal/race.Acquire", "(*internal/sync.Mutex).lockSlow", "internal/sync.runtime_canSpin", "internal/sync.runtime_doSpin", "internal/sync.throw", "internal/sync.runtime_nanotime", "internal/sync.runtime_SemacquireMutex", "sync/atomic.AddInt32", "(*internal/sync.Mutex).Unlock", "internal/race.ReleaseMerge", "(*internal/sync.Mutex).unlockSlow", "internal/sync.fatal", "internal/sync.runtime_Semrelease", "sync/atomic.StoreUint32", "sync/atomic.LoadInt64", "sync/atomic.AddInt64"], unfollowed := true, recurses := true, apart := false, narrowed := true }
def CastDoesUptoSaid : Prop := castDoesUptoRow.holds Tryz.pinned (OpenSpec.upto castDoesSpec)

/-- 'thalweglaw17.CastAlone', WHERE WHAT IT READS IS OF BULK AT MOST 1048576: true; the input reads as it did. -/
def castAloneUptoRow : OpenClaim := { program := "ytdigjklhfimnbaagreat", sum := "215691b902d041db9cfec09f986bed63036aac437b991820b881cf8ebea9b599", func := "thalweg/thalweglaw17.CastAlone", spec := "castAlone", inPlace := ["sync/atomic.StorePointer", "sync/atomic.SwapPointer", "sync/atomic.LoadPointer", "sync/atomic.StoreUint64", "sync/atomic.LoadUint64", "sync/atomic.StoreInt64", "sync/atomic.SwapUint32", "sync/atomic.LoadUint32", "(*internal/sync.Mutex).Lock", "internal/race.Disable", "sync/atomic.CompareAndSwapInt32", "internal/race.Enable", "internal/race.Acquire", "(*internal/sync.Mutex).lockSlow", "internal/sync.runtime_canSpin", "internal/sync.runtime_doSpin", "internal/sync.throw", "internal/sync.runtime_nanotime", "internal/sync.runtime_SemacquireMutex", "sync/atomic.AddInt32", "(*internal/sync.Mutex).Unlock", "internal/race.ReleaseMerge", "(*internal/sync.Mutex).unlockSlow", "internal/sync.fatal", "internal/sync.runtime_Semrelease", "sync/atomic.StoreUint32", "sync/atomic.LoadInt64", "sync/atomic.AddInt64"], unfollowed := true, recurses := true, apart := false, narrowed := true }
def CastAloneUptoSaid : Prop := castAloneUptoRow.holds Tryz.pinned (OpenSpec.upto castAloneSpec)

/-- 'thalweglaw17.CastPeers', WHERE WHAT IT READS IS OF BULK AT MOST 1048576: true; the input reads as it did. -/
def castPeersUptoRow : OpenClaim := { program := "ytdigjklhfimnbaagreat", sum := "215691b902d041db9cfec09f986bed63036aac437b991820b881cf8ebea9b599", func := "thalweg/thalweglaw17.CastPeers", spec := "castPeers", inPlace := ["sync/atomic.StorePointer", "sync/atomic.SwapPointer", "sync/atomic.LoadPointer", "sync/atomic.StoreUint64", "sync/atomic.LoadUint64", "sync/atomic.StoreInt64", "sync/atomic.SwapUint32", "sync/atomic.LoadUint32", "(*internal/sync.Mutex).Lock", "internal/race.Disable", "sync/atomic.CompareAndSwapInt32", "internal/race.Enable", "internal/race.Acquire", "(*internal/sync.Mutex).lockSlow", "internal/sync.runtime_canSpin", "internal/sync.runtime_doSpin", "internal/sync.throw", "internal/sync.runtime_nanotime", "internal/sync.runtime_SemacquireMutex", "sync/atomic.AddInt32", "(*internal/sync.Mutex).Unlock", "internal/race.ReleaseMerge", "(*internal/sync.Mutex).unlockSlow", "internal/sync.fatal", "internal/sync.runtime_Semrelease", "sync/atomic.StoreUint32"], unfollowed := true, recurses := true, apart := false, narrowed := true }
def CastPeersUptoSaid : Prop := castPeersUptoRow.holds Tryz.pinned (OpenSpec.upto castPeersSpec)

/-- 'thalweglaw17.CastNil', WHERE WHAT IT READS IS OF BULK AT MOST 1048576: true; the input reads as it did. -/
def castNilUptoRow : OpenClaim := { program := "ytdigjklhfimnbaagreat", sum := "215691b902d041db9cfec09f986bed63036aac437b991820b881cf8ebea9b599", func := "thalweg/thalweglaw17.CastNil", spec := "castNil", inPlace := ["sync/atomic.LoadInt64", "sync/atomic.AddInt64", "sync/atomic.SwapUint32", "sync/atomic.LoadUint32", "(*internal/sync.Mutex).Lock", "internal/race.Disable", "sync/atomic.CompareAndSwapInt32", "internal/race.Enable", "internal/race.Acquire", "(*internal/sync.Mutex).lockSlow", "internal/sync.runtime_canSpin", "internal/sync.runtime_doSpin", "internal/sync.throw", "internal/sync.runtime_nanotime", "internal/sync.runtime_SemacquireMutex", "sync/atomic.AddInt32", "(*internal/sync.Mutex).Unlock", "internal/race.ReleaseMerge", "(*internal/sync.Mutex).unlockSlow", "internal/sync.fatal", "internal/sync.runtime_Semrelease", "sync/atomic.StoreUint32", "sync/atomic.StorePointer", "sync/atomic.SwapPointer", "sync/atomic.LoadPointer", "sync/atomic.StoreUint64", "sync/atomic.LoadUint64", "sync/atomic.StoreInt64"], unfollowed := true, recurses := true, apart := false, narrowed := true }
def CastNilUptoSaid : Prop := castNilUptoRow.holds Tryz.pinned (OpenSpec.upto castNilSpec)

/-- 'thalweglaw17.CastRises', WHERE WHAT IT READS IS OF BULK AT MOST 1048576: true; the input reads as it did. -/
def castRisesUptoRow : OpenClaim := { program := "ytdigjklhfimnbaagreat", sum := "215691b902d041db9cfec09f986bed63036aac437b991820b881cf8ebea9b599", func := "thalweg/thalweglaw17.CastRises", spec := "castRises", inPlace := ["sync/atomic.StorePointer", "sync/atomic.SwapPointer", "sync/atomic.LoadPointer", "sync/atomic.StoreUint64", "sync/atomic.LoadUint64", "sync/atomic.StoreInt64", "sync/atomic.SwapUint32", "sync/atomic.LoadUint32", "(*internal/sync.Mutex).Lock", "internal/race.Disable", "sync/atomic.CompareAndSwapInt32", "internal/race.Enable", "internal/race.Acquire", "(*internal/sync.Mutex).lockSlow", "internal/sync.runtime_canSpin", "internal/sync.runtime_doSpin", "internal/sync.throw", "internal/sync.runtime_nanotime", "internal/sync.runtime_SemacquireMutex", "sync/atomic.AddInt32", "(*internal/sync.Mutex).Unlock", "internal/race.ReleaseMerge", "(*internal/sync.Mutex).unlockSlow", "internal/sync.fatal", "internal/sync.runtime_Semrelease", "sync/atomic.StoreUint32", "sync/atomic.LoadInt64", "sync/atomic.AddInt64"], unfollowed := true, recurses := true, apart := false, narrowed := true }
def CastRisesUptoSaid : Prop := castRisesUptoRow.holds Tryz.pinned (OpenSpec.upto castRisesSpec)

end Rows
end Go.Proofs.YtdigjklhfimnbaaGreat
