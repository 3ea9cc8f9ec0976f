/- Texts Caa of this proof, in one. No conditions but on lengths. -/
import Derived.Test.YtdigjklhfimnbaaGreatRows
import Derived.Test.YtdigjklhfimnbaaGreatU46
import Derived.ArgAppend
import Derived.Below
import Derived.BigQuiet
import Derived.BigRegion
import Derived.Calls
import Derived.ChangeAlike
import Derived.ChangeArms
import Derived.ChangeKeysEq
import Derived.ChangeMade
import Derived.ChangeOld
import Derived.Deep.Cut
import Derived.Deep.CutBlock
import Derived.Deep.LoopGhost
import Derived.Deep.QuietTactic
import Derived.Deep.RegionHeld
import Derived.Deep.RegionLaw
import Derived.Deep.RegionWith
import Derived.Deep.Slices
import Derived.Defers
import Derived.Ground.GgzProg
import Derived.Ground.Names2Prog
import Derived.Laws.AppendOwnNone
import Derived.Laws.BitsLemmas
import Derived.Laws.BytesArg
import Derived.Laws.LoneSync
import Derived.Laws.OwnMore
import Derived.Laws.Pointers
import Derived.Laws.Rows
import Derived.Laws.StructEq
import Derived.Laws.Tables
import Derived.Lib.ConvBytes
import Derived.Lib.Hide
import Derived.Lib.OwnBridge
import Derived.Lib.QuietBelow
import Derived.Lib.SliceRun
import Derived.Lib.SlicesCompact
import Derived.LoopIn
import Derived.LoopTactic
import Derived.Maps.AppendAt
import Derived.Maps.Own
import Derived.Maps.OwnOps
import Derived.Maps.OwnSet
import Derived.Maps.RangeWalk
import Derived.Maps.Views
import Derived.OpenShut
import Derived.Orders
import Derived.OrdersIn
import Derived.Outline
import Derived.OwnWalkIn
import Derived.ProofKit
import Derived.RangeFuncBox
import Derived.RangeFuncCalls
import Derived.RangeFuncLeaves
import Derived.RangeFuncNested
import Derived.RegionCalls
import Derived.RegionTactic
import Derived.Shelf.RegionOpen
import Derived.Shelf.RegionOpenPlain
import Derived.Shelf.SlIterI.Nil
import Derived.Shelf.Slices.CompactI
import Derived.Shelf.Slices.In.SortNone
import Derived.Shelf.Sort.Plain
import Derived.ShutString
import Derived.Sort.Grow
import Derived.StillTail
import Derived.TacticsInMore
import Derived.WalkKit
import Derived.WalkLawsBesides
import Derived.WalkSpells
import Derived.WideShapes
namespace Go.Proofs.YtdigjklhfimnbaaGreat
set_option maxRecDepth 100000
set_option linter.unusedVariables false
open Go.RowKit

section
variable {w w' : World} {F F' G : Nat → Prop} {b : Nat} {me : Nd} {win tr : Int} {M : Nat → Nat} {S : Nat → Option Pr}
set_option maxHeartbeats 8000000 in
theorem cup_any (pe : Nd) (h : CC w F b me win tr M S) : Calls Tryz.prog 22 #[.pointer (some ⟨b, 0, none⟩), .agg #[.int .i64 pe.1, .int .i64 pe.2]] w fun e w' => (¬ (NdOk pe ∧ me.1 ≠ pe.1) ∧ e = .returned (.int .i64 1) ∧ Below w.heap.size w w') ∨ ((NdOk pe ∧ me.1 ≠ pe.1) ∧ S pe.1.toNat ≠ none ∧ e = .returned (.int .i64 9) ∧ Below w.heap.size w w') ∨ ((NdOk pe ∧ me.1 ≠ pe.1) ∧ S pe.1.toNat = none ∧ e = .returned (.int .i64 0) ∧ ∃ F' s, CC w' F' b me win tr (upd M pe.1.toNat s) (upd S pe.1.toNat (some (newP me pe win tr))) ∧ Nx w w' F F') := by
  obtain ⟨W1, hW1⟩ : ∃ W1, w.alloc (.cells #[.int .i64 pe.1, .int .i64 pe.2] 23) = W1 := ⟨_, rfl⟩
  have hb1 : Below w.heap.size w W1 := hW1 ▸ (Below.refl _ w).alloc (Nat.le_refl _) _
  obtain ⟨g0, hg0⟩ : ∃ g0, w.heap.size = g0 := ⟨_, rfl⟩
  have hq : NdAt W1 g0 pe := by
    rw [← hW1, ← hg0]
    exact ⟨by simp, by simp⟩
  have hc1 := h.below hb1
  have HB := Lib.hid hb1
  have HOK := Lib.hid h.ok
  have HC := Lib.hid hc1
  have HLT : Hid (∀ k, F k → k < w.heap.size) := h.lt
  have hbl : b < W1.heap.size := hc1.lt b hc1.fb
  obtain ⟨⟨c0, c1, c2, c3⟩, cf⟩ := hc1.hd
  obtain ⟨q0, q1⟩ := hq
  have hgl : g0 < W1.heap.size := World.block_lt_of_cell? W1 _ q0
  have KP : Hid (∀ w2, Below W1.drew.heap.size W1.drew w2 → (w2.cell? ⟨b, 0, none⟩ = some (.int .i64 me.1) ∧ w2.cell? ⟨b, 1, none⟩ = some (.int .i64 me.2) ∧ w2.cell? ⟨b, 2, none⟩ = some (.int .i64 win) ∧ w2.cell? ⟨b, 3, none⟩ = some (.int .i64 tr)) ∧ w2.cell? ⟨g0, 0, none⟩ = some (.int .i64 pe.1) ∧ w2.cell? ⟨g0, 1, none⟩ = some (.int .i64 pe.2)) := fun w2 hb => ⟨⟨(hb.cell (p := ⟨b, 0, none⟩) hbl).trans c0, (hb.cell (p := ⟨b, 1, none⟩) hbl).trans c1, (hb.cell (p := ⟨b, 2, none⟩) hbl).trans c2, (hb.cell (p := ⟨b, 3, none⟩) hbl).trans c3⟩, (hb.cell (p := ⟨g0, 0, none⟩) hgl).trans q0, (hb.cell (p := ⟨g0, 1, none⟩) hgl).trans q1⟩
  have HW := Lib.hid hW1
  have HG := Lib.hid hg0
  have C := prnew_any me pe win tr W1.drew
  clear hW1 hg0 hb1 hc1 h cf hbl hgl
  go_enter Tryz.func22, Tryz.ntmps22
  by_cases hu : (NdOk pe ∧ me.1 ≠ pe.1)
  rotate_left
  · have HU := Lib.hid hu
    have C : Hid (Calls Tryz.prog 9 #[.agg #[.int .i64 me.1, .int .i64 me.2], .agg #[.int .i64 pe.1, .int .i64 pe.2], .int .i64 win, .int .i64 tr] W1.drew fun e w' => e = .returned (.tuple #[.pointer none, .int .i64 1]) ∧ Below W1.drew.heap.size W1.drew w') := C.mono (by
      rintro e w2 ⟨hb, ⟨_, rfl⟩ | ⟨hy, _⟩⟩
      · exact ⟨rfl, hb⟩
      · exact absurd ⟨hy.2.1, hy.2.2.1⟩ hu)
    clear hu
    go_upto_region 3 with (fail)
    rw [HW.out]
    try simp only [HG.out]
    go_region_held (fun w' => (w'.cell? ⟨b, 0, none⟩ = some (.int .i64 me.1) ∧ w'.cell? ⟨b, 1, none⟩ = some (.int .i64 me.2) ∧ w'.cell? ⟨b, 2, none⟩ = some (.int .i64 win) ∧ w'.cell? ⟨b, 3, none⟩ = some (.int .i64 tr)) ∧ w'.cell? ⟨g0, 0, none⟩ = some (.int .i64 pe.1) ∧ w'.cell? ⟨g0, 1, none⟩ = some (.int .i64 pe.2)) (first | exact ⟨⟨c0, c1, c2, c3⟩, q0, q1⟩ | exact S2 | go_keep) (first | (go_at_call 9; refine C.out.mono ?_; rintro e w2 ⟨rfl, hb⟩; have S2 : (w2.cell? ⟨b, 0, none⟩ = some (.int .i64 me.1) ∧ w2.cell? ⟨b, 1, none⟩ = some (.int .i64 me.2) ∧ w2.cell? ⟨b, 2, none⟩ = some (.int .i64 win) ∧ w2.cell? ⟨b, 3, none⟩ = some (.int .i64 tr)) ∧ w2.cell? ⟨g0, 0, none⟩ = some (.int .i64 pe.1) ∧ w2.cell? ⟨g0, 1, none⟩ = some (.int .i64 pe.2) := KP.out w2 hb))
    all_goals
      have HB2 : Hid (Below w.heap.size w w2) := (HB.out.drew).trans (hb.mono HB.out.size)
      clear hb S2 c0 c1 c2 c3 q0 q1 C
      go_wp2_with fail
      go_ret
      exact .inl ⟨HU.out, rfl, HB2.out⟩
  have HU := Lib.hid hu
  have HSZ : Hid (w.heap.size ≤ W1.heap.size) := HB.out.size
  have C : Hid (Calls Tryz.prog 9 #[.agg #[.int .i64 me.1, .int .i64 me.2], .agg #[.int .i64 pe.1, .int .i64 pe.2], .int .i64 win, .int .i64 tr] W1.drew fun e w' => ∃ q G, e = .returned (.tuple #[.pointer (some ⟨q, 0, none⟩), .int .i64 0]) ∧ PP w' G q (newP me pe win tr) ∧ (∀ k, G k → W1.heap.size ≤ k) ∧ Below W1.drew.heap.size W1.drew w') := C.mono (by
    rintro e w2 ⟨hb, ⟨hn, _⟩ | ⟨hy, q, G, rfl, hp, hG⟩⟩
    · exact absurd ⟨HOK.out.1, hu.1, hu.2, HOK.out.2⟩ hn
    · exact ⟨q, G, rfl, hp, hG, hb⟩)
  obtain ⟨⟨⟨a1, a2⟩, a3⟩, a4⟩ := hu
  obtain ⟨k, hk⟩ : ∃ k : Nat, pe.1 = (k : Int) := ⟨pe.1.toNat, (Int.toNat_of_nonneg a1).symm⟩
  have hk64 : k < 64 := by omega
  have htn : pe.1.toNat = k := by rw [hk]; exact Int.toNat_natCast k
  rw [htn]
  have HK := Lib.hid hk
  have HKL : Hid (k < 64) := hk64
  clear a1 a2 a3 a4 htn hk hk64
  go_upto_region 3 with (fail)
  rw [HW.out]
  try simp only [HG.out]
  go_region_held (fun w' => (w'.cell? ⟨b, 0, none⟩ = some (.int .i64 me.1) ∧ w'.cell? ⟨b, 1, none⟩ = some (.int .i64 me.2) ∧ w'.cell? ⟨b, 2, none⟩ = some (.int .i64 win) ∧ w'.cell? ⟨b, 3, none⟩ = some (.int .i64 tr)) ∧ w'.cell? ⟨g0, 0, none⟩ = some (.int .i64 pe.1) ∧ w'.cell? ⟨g0, 1, none⟩ = some (.int .i64 pe.2)) (first | exact ⟨⟨c0, c1, c2, c3⟩, q0, q1⟩ | exact S2 | go_keep) (first | (go_at_call 9; refine C.out.mono ?_; rintro e w2 ⟨q, G, rfl, hp, hG, hb⟩; have HP := Lib.hid hp; have HGG := Lib.hid hG; clear hp hG; have S2 : (w2.cell? ⟨b, 0, none⟩ = some (.int .i64 me.1) ∧ w2.cell? ⟨b, 1, none⟩ = some (.int .i64 me.2) ∧ w2.cell? ⟨b, 2, none⟩ = some (.int .i64 win) ∧ w2.cell? ⟨b, 3, none⟩ = some (.int .i64 tr)) ∧ w2.cell? ⟨g0, 0, none⟩ = some (.int .i64 pe.1) ∧ w2.cell? ⟨g0, 1, none⟩ = some (.int .i64 pe.2) := KP.out w2 hb))
  all_goals
    have HBD := Lib.hid hb
    have HB2 : Hid (Below w.heap.size w w2) := (HB.out.drew).trans (hb.mono HB.out.size)
    have hc2 : CC w2 F b me win tr M S := (HC.out.keep (w' := W1.drew) (G := fun _ => False) ((Chg.refl _ W1).drew) (fun _ _ g => g)).below hb
    have HC2 := Lib.hid hc2
    obtain ⟨⟨d0, d1, d2, d3⟩, e0, e1⟩ := S2
    have hcs := hc2.cs k HKL.out
    have hfz := hc2.hd.2 (4 + k)
    obtain ⟨o, ho⟩ : ∃ o, S k = o := ⟨_, rfl⟩
    unfold fS at hcs
    rw [ho] at hcs
    have HO := Lib.hid ho
    have hk0 : (0 : Int) ≤ pe.1 := by rw [HK.out]; omega
    have hk1 : pe.1 < 64 := by rw [HK.out]; have := HKL.out; omega
    have hkn : pe.1.toNat = k := by rw [HK.out]; exact Int.toNat_natCast k
    clear hb hc2 c0 c1 c2 c3 q0 q1 C d0 d1 d2 d3 ho
    cases o with
    | some p =>
      simp only [Option.map_some, pt] at hcs
      go_upto_region 6 with (fail)
      go_region
      all_goals
        go_wp2_with fail
        go_ret
        exact .inr (.inl ⟨HU.out, by rw [HO.out]; simp, rfl, HB2.out.drew⟩)
    | none =>
      simp only [Option.map_none, pt] at hcs
      go_upto_region 6 with (fail)
      go_region
      all_goals
        go_upto_region 8 with (fail)
        have ba : Below w2.heap.size w2 (w2.alloc (.cells #[.int .i64 pe.1, .int .i64 pe.2, .pointer (some ⟨q, 0, none⟩)] 124)) := (Below.refl _ w2).alloc (Nat.le_refl _) _
        have z0 := (ba.cell (p := ⟨g0, 0, none⟩) (World.block_lt_of_cell? w2 _ e0)).trans e0
        have z1 := (ba.cell (p := ⟨g0, 1, none⟩) (World.block_lt_of_cell? w2 _ e1)).trans e1
        have z2 := (ba.cell (p := ⟨b, 4 + k, none⟩) (World.block_lt_of_cell? w2 _ hcs)).trans hcs
        have z3 := (ba.frozen (p := ⟨b, 4 + k, none⟩) (World.block_lt_of_cell? w2 _ hcs)).trans hfz
        have HFIN : Hid (∃ F' s, CC ((w2.alloc (.cells #[.int .i64 pe.1, .int .i64 pe.2, .pointer (some ⟨q, 0, none⟩)] 124)).setCell ⟨b, 4 + k, none⟩ (.pointer (some ⟨w2.heap.size, 0, none⟩))) F' b me win tr (upd M k s) (upd S k (some (newP me pe win tr))) ∧ Nx w ((w2.alloc (.cells #[.int .i64 pe.1, .int .i64 pe.2, .pointer (some ⟨q, 0, none⟩)] 124)).setCell ⟨b, 4 + k, none⟩ (.pointer (some ⟨w2.heap.size, 0, none⟩))) F F') := by
          have hpV := HP.out.below ba
          have hl2 := HP.out.lt
          have s1 := HB2.out.size
          have s2 := HSZ.out
          have hs : SeM (w2.alloc (.cells #[.int .i64 pe.1, .int .i64 pe.2, .pointer (some ⟨q, 0, none⟩)] 124)) (fun k => k = w2.heap.size ∨ G k) w2.heap.size (newP me pe win tr) := ⟨q, G, ⟨by simp [newP], by simp [newP], by simp⟩, hpV, fun h => by have := hl2 _ h; omega, rfl⟩
          obtain ⟨F', r1, r2, r3⟩ := (HC2.out.below ba).put HKL.out (some (newP me pe win tr)) w2.heap.size (fun k => k = w2.heap.size ∨ G k) (fun p hp => by
            cases hp
            refine ⟨hs, rfl, HK.out, fun j hj hF => ?_⟩
            have h1 := HLT.out j hF
            rcases hj with h2 | h2
            · omega
            · have := HGG.out j h2; omega)
          refine ⟨F', _, r1, (Nx.below (HB2.out.trans (ba.mono s1))).1.trans r2 (fun _ _ e => e), fun j hj => ?_⟩
          rcases r3 j hj with h2 | h2 | h2
          · exact .inl h2
          · exact .inr (by omega)
          · exact .inr (by have := HGG.out j h2; omega)
        clear ba
        go_region
        all_goals
          go_wp2_with fail
          go_ret
          obtain ⟨F', s, h1, h2⟩ := HFIN.out
          exact .inr (.inr ⟨HU.out, HO.out, rfl, F', s, h1.keep (G := fun _ => False) ((Chg.refl _ _).drew.drew) (fun _ _ g => g), h2.trans ⟨(Chg.refl _ _).drew.drew, fun _ e => .inl e⟩⟩)
end
end Go.Proofs.YtdigjklhfimnbaaGreat
