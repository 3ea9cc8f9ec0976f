/-
  No cell of these rows narrows 'for every input' (looked for: loops, veiled, ifaces, maps, wideKeys, modest, calm, conditions, laid).
  DERIVED. THE GIVEN ROWS OF THIS SEAT. 5 by the template 'for every input the law returns true; each argument reads behind the call as it read before'; 0 by the template 'total and deterministic' (their statements: YtmimgpnogjgliaaTotals.lean).
  GIVEN WITH THE SEED: the statements are not yours to turn. If you find one false, say at which input.
  Laid BY PROGRAM, IN A SANDBOX (cutbox-rows.mjs): the forced cells as the released guide's own fill.sh prints them over the translation 9509c5d07e7224db… (all of the seat's roots in one cut). By AI agents, Wed Nov 11 2026. No macro, syntax, notation, axiom, sorry.
-/
import Derived.Test.YtmimgpnogjgliaaChecked
import GoSem.Claim
import GoSem.ClaimJoined
import GoSem.ClaimMapViews
import Derived.JoinedTies
import Derived.KernelRfl
namespace Go.Proofs.Ytmimgpnogjgliaa
/- THE CELL 'sum', in the pinned program and in every row, IS THE sha256 OF THE DUMP (.gsa) THAT YtmimgpnogjgliaaProg.lean LOADS. Nothing in Lean hashes anything: it is a label: what it is worth is what the hold of that sum in a sandbox is worth. -/
noncomputable def Try.pinned : Pinned := { name := "ytmimgpnogjgliaa", sum := "9509c5d07e7224db74c4d1584cd53b522f4cc28d52fff670c1c64a56f416d36d", checked := Try.checked }
namespace Rows
def none {H : Type} : Left H := { results := [], args := [] }

/-- 'thalweglaw18.LinksLie': WHATEVER THE INPUT: true; the input reads as it did. -/
def linksLieSpec : ChangeSpec := { name := "linksLie", fn := fun _ => fun
  | [d1, d2, d3] => { results := [.lit (.bool true)], args := [d1, d2, d3] }
  | _ => none }
def linksLieRow : OpenClaim := { program := "ytmimgpnogjgliaa", sum := "9509c5d07e7224db74c4d1584cd53b522f4cc28d52fff670c1c64a56f416d36d", func := "thalweg/thalweglaw18.LinksLie", spec := "linksLie", unfollowed := true, recurses := true, apart := false }
def LinksLieSaid : Prop := linksLieRow.holds Try.pinned (OpenSpec.ofChange linksLieSpec)

/-- ITS FALSE NEIGHBOUR: 'it returns false'. Refute it at one input. -/
def linksLieWrong : ChangeSpec := { name := "linksLie", fn := fun _ => fun
  | [d1, d2, d3] => { results := [.lit (.bool false)], args := [d1, d2, d3] }
  | _ => none }
def LinksLieWrongFalsely : Prop := linksLieRow.holds Try.pinned (OpenSpec.ofChange linksLieWrong)

/-- 'thalweglaw18.LinksTurn': WHATEVER THE INPUT: true; the input reads as it did. -/
def linksTurnSpec : ChangeSpec := { name := "linksTurn", fn := fun _ => fun
  | [d1, d2] => { results := [.lit (.bool true)], args := [d1, d2] }
  | _ => none }
def linksTurnRow : OpenClaim := { program := "ytmimgpnogjgliaa", sum := "9509c5d07e7224db74c4d1584cd53b522f4cc28d52fff670c1c64a56f416d36d", func := "thalweg/thalweglaw18.LinksTurn", spec := "linksTurn", unfollowed := true, recurses := true, apart := false }
def LinksTurnSaid : Prop := linksTurnRow.holds Try.pinned (OpenSpec.ofChange linksTurnSpec)

/-- ITS FALSE NEIGHBOUR: 'it returns false'. Refute it at one input. -/
def linksTurnWrong : ChangeSpec := { name := "linksTurn", fn := fun _ => fun
  | [d1, d2] => { results := [.lit (.bool false)], args := [d1, d2] }
  | _ => none }
def LinksTurnWrongFalsely : Prop := linksTurnRow.holds Try.pinned (OpenSpec.ofChange linksTurnWrong)

/-- 'thalweglaw18.LinksSplit': WHATEVER THE INPUT: true; the input reads as it did. -/
def linksSplitSpec : ChangeSpec := { name := "linksSplit", fn := fun _ => fun
  | [d1, d2] => { results := [.lit (.bool true)], args := [d1, d2] }
  | _ => none }
def linksSplitRow : OpenClaim := { program := "ytmimgpnogjgliaa", sum := "9509c5d07e7224db74c4d1584cd53b522f4cc28d52fff670c1c64a56f416d36d", func := "thalweg/thalweglaw18.LinksSplit", spec := "linksSplit", unfollowed := true, recurses := true, apart := false }
def LinksSplitSaid : Prop := linksSplitRow.holds Try.pinned (OpenSpec.ofChange linksSplitSpec)

/-- ITS FALSE NEIGHBOUR: 'it returns false'. Refute it at one input. -/
def linksSplitWrong : ChangeSpec := { name := "linksSplit", fn := fun _ => fun
  | [d1, d2] => { results := [.lit (.bool false)], args := [d1, d2] }
  | _ => none }
def LinksSplitWrongFalsely : Prop := linksSplitRow.holds Try.pinned (OpenSpec.ofChange linksSplitWrong)

/-- 'thalweglaw18.LinksLevels': WHATEVER THE INPUT: true; the input reads as it did. -/
def linksLevelsSpec : ChangeSpec := { name := "linksLevels", fn := fun _ => fun
  | [d] => { results := [.lit (.bool true)], args := [d] }
  | _ => none }
def linksLevelsRow : OpenClaim := { program := "ytmimgpnogjgliaa", sum := "9509c5d07e7224db74c4d1584cd53b522f4cc28d52fff670c1c64a56f416d36d", func := "thalweg/thalweglaw18.LinksLevels", spec := "linksLevels", unfollowed := true, recurses := true, apart := false }
def LinksLevelsSaid : Prop := linksLevelsRow.holds Try.pinned (OpenSpec.ofChange linksLevelsSpec)

/-- ITS FALSE NEIGHBOUR: 'it returns false'. Refute it at one input. -/
def linksLevelsWrong : ChangeSpec := { name := "linksLevels", fn := fun _ => fun
  | [d] => { results := [.lit (.bool false)], args := [d] }
  | _ => none }
def LinksLevelsWrongFalsely : Prop := linksLevelsRow.holds Try.pinned (OpenSpec.ofChange linksLevelsWrong)

/-- 'thalweglaw18.LinksMore': WHATEVER THE INPUT: true; the input reads as it did. -/
def linksMoreSpec : ChangeSpec := { name := "linksMore", fn := fun _ => fun
  | [d1, d2, d3, d4] => { results := [.lit (.bool true)], args := [d1, d2, d3, d4] }
  | _ => none }
def linksMoreRow : OpenClaim := { program := "ytmimgpnogjgliaa", sum := "9509c5d07e7224db74c4d1584cd53b522f4cc28d52fff670c1c64a56f416d36d", func := "thalweg/thalweglaw18.LinksMore", spec := "linksMore", unfollowed := true, recurses := true, apart := false }
def LinksMoreSaid : Prop := linksMoreRow.holds Try.pinned (OpenSpec.ofChange linksMoreSpec)

/-- ITS FALSE NEIGHBOUR: 'it returns false'. Refute it at one input. -/
def linksMoreWrong : ChangeSpec := { name := "linksMore", fn := fun _ => fun
  | [d1, d2, d3, d4] => { results := [.lit (.bool false)], args := [d1, d2, d3, d4] }
  | _ => none }
def LinksMoreWrongFalsely : Prop := linksMoreRow.holds Try.pinned (OpenSpec.ofChange linksMoreWrong)

/- THE SECOND FORM. 'bulk': how many values and letters a reading holds, each counted each time it is reached (what is shared counts as often as it is met; a slice's spare places count too). A statement '..UptoSaid' is the law's where the arguments, and the package variables that the reading takes, are together of bulk at most 1048576: NARROWER than '..Said'. Prove '..Said' where nothing that the law and all that it calls make is longer than what came in: it says more and counts as full. Else prove '..UptoSaid'. A law counts once. -/
mutual
def uptoBulk {H : Type} : DataW H → Nat
  | .lit (.string bytes) => bytes.length + 1
  | .lit _ => 1
  | .nil => 1
  | .ptr d => uptoBulk d + 1
  | .slice elems spare => uptoBulkAll elems + uptoBulkAll spare + 1
  | .agg parts => uptoBulkAll parts + 1
  | .iface _ d => uptoBulk d + 1
  | .map entries => uptoBulkEntries entries + 1
  | .held _ => 1
def uptoBulkAll {H : Type} : List (DataW H) → Nat
  | [] => 0
  | d :: r => uptoBulk d + uptoBulkAll r
def uptoBulkEntries {H : Type} : List (Lit × DataW H) → Nat
  | [] => 0
  | x :: r => uptoBulkEntry x + uptoBulkEntries r
def uptoBulkEntry {H : Type} : Lit × DataW H → Nat
  | (.string bytes, d) => bytes.length + uptoBulk d + 1
  | (_, d) => uptoBulk d + 1
 end
def uptoSmall : (H : Type) → List (DataW H) → Bool := fun _ ds => decide (uptoBulkAll ds ≤ 1048576)
def OpenSpec.upto (s : _root_.Go.ChangeSpec) : _root_.Go.OpenSpec := { _root_.Go.OpenSpec.ofChange s with cond := some uptoSmall }

/-- 'thalweglaw18.LinksLie', WHERE WHAT IT READS IS OF BULK AT MOST 1048576: true; the input reads as it did. -/
def linksLieUptoRow : OpenClaim := { program := "ytmimgpnogjgliaa", sum := "9509c5d07e7224db74c4d1584cd53b522f4cc28d52fff670c1c64a56f416d36d", func := "thalweg/thalweglaw18.LinksLie", spec := "linksLie", unfollowed := true, recurses := true, apart := false, narrowed := true }
def LinksLieUptoSaid : Prop := linksLieUptoRow.holds Try.pinned (OpenSpec.upto linksLieSpec)

/-- 'thalweglaw18.LinksTurn', WHERE WHAT IT READS IS OF BULK AT MOST 1048576: true; the input reads as it did. -/
def linksTurnUptoRow : OpenClaim := { program := "ytmimgpnogjgliaa", sum := "9509c5d07e7224db74c4d1584cd53b522f4cc28d52fff670c1c64a56f416d36d", func := "thalweg/thalweglaw18.LinksTurn", spec := "linksTurn", unfollowed := true, recurses := true, apart := false, narrowed := true }
def LinksTurnUptoSaid : Prop := linksTurnUptoRow.holds Try.pinned (OpenSpec.upto linksTurnSpec)

/-- 'thalweglaw18.LinksSplit', WHERE WHAT IT READS IS OF BULK AT MOST 1048576: true; the input reads as it did. -/
def linksSplitUptoRow : OpenClaim := { program := "ytmimgpnogjgliaa", sum := "9509c5d07e7224db74c4d1584cd53b522f4cc28d52fff670c1c64a56f416d36d", func := "thalweg/thalweglaw18.LinksSplit", spec := "linksSplit", unfollowed := true, recurses := true, apart := false, narrowed := true }
def LinksSplitUptoSaid : Prop := linksSplitUptoRow.holds Try.pinned (OpenSpec.upto linksSplitSpec)

/-- 'thalweglaw18.LinksLevels', WHERE WHAT IT READS IS OF BULK AT MOST 1048576: true; the input reads as it did. -/
def linksLevelsUptoRow : OpenClaim := { program := "ytmimgpnogjgliaa", sum := "9509c5d07e7224db74c4d1584cd53b522f4cc28d52fff670c1c64a56f416d36d", func := "thalweg/thalweglaw18.LinksLevels", spec := "linksLevels", unfollowed := true, recurses := true, apart := false, narrowed := true }
def LinksLevelsUptoSaid : Prop := linksLevelsUptoRow.holds Try.pinned (OpenSpec.upto linksLevelsSpec)

/-- 'thalweglaw18.LinksMore', WHERE WHAT IT READS IS OF BULK AT MOST 1048576: true; the input reads as it did. -/
def linksMoreUptoRow : OpenClaim := { program := "ytmimgpnogjgliaa", sum := "9509c5d07e7224db74c4d1584cd53b522f4cc28d52fff670c1c64a56f416d36d", func := "thalweg/thalweglaw18.LinksMore", spec := "linksMore", unfollowed := true, recurses := true, apart := false, narrowed := true }
def LinksMoreUptoSaid : Prop := linksMoreUptoRow.holds Try.pinned (OpenSpec.upto linksMoreSpec)

end Rows
end Go.Proofs.Ytmimgpnogjgliaa
