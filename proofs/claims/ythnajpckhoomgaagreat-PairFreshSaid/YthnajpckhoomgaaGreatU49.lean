/- Texts Gn2 of this proof, in one. No conditions but on lengths. -/
import Derived.Test.YthnajpckhoomgaaGreatRows
import Derived.Test.YthnajpckhoomgaaGreatU31
import Derived.ArgAppend
import Derived.Below
import Derived.BigQuiet
import Derived.BigRegion
import Derived.Calls
import Derived.ChangeArms
import Derived.ChangeKeysEq
import Derived.ChangeMade
import Derived.ChangeOld
import Derived.Deep.Cut
import Derived.Deep.QuietTactic
import Derived.Deep.RegionLaw
import Derived.Deep.RegionWith
import Derived.Deep.Slices
import Derived.Laws.AppendOwnNone
import Derived.Laws.BitsLemmas
import Derived.Laws.BytesArg
import Derived.Laws.LoneSync
import Derived.Laws.OwnMore
import Derived.Laws.StructEq
import Derived.Lib.ConvBytes
import Derived.Lib.Hide
import Derived.Lib.QuietBelow
import Derived.LoopIn
import Derived.LoopTactic
import Derived.Maps.AppendAt
import Derived.Maps.OwnSet
import Derived.OpenShut
import Derived.Orders
import Derived.Outline
import Derived.OwnWalkIn
import Derived.ProofKit
import Derived.RangeFuncBox
import Derived.RangeFuncCalls
import Derived.RangeFuncLeaves
import Derived.RangeFuncNested
import Derived.Shelf.RegionOpen
import Derived.ShutString
import Derived.StillTail
import Derived.TacticsInMore
import Derived.WalkKit
import Derived.WalkSpells
import Derived.WideShapes
namespace Go.Proofs.YthnajpckhoomgaaGreat
set_option maxRecDepth 100000
set_option linter.unusedVariables false
open Go.RowKit
set_option maxHeartbeats 16000000 in
theorem goth_1 (r : RPt) (y2 b3 b4 Q : Bool) (h1 : (r.be != 0) = true) (h3 : (r.bn != 0) = false) (h4 : ((r.l2 : Int) != 0) = y2) (h5 : ((r.l3 : Int) != 0) = b3) (h6 : (!eqK r.s r.d r.t r.n r.x 0 0 0 0 ⟨#[]⟩) = b4)
    (hQ : Q = true ↔ Imp9 true (r.k = 1) ∧ Imp9 y2 (r.k = 2) ∧ Imp9 b3 (r.k = 3) ∧ Imp9 b4 (r.k = 4)) (w : World) :
    Calls Tryz.prog 164 #[.agg #[.int .i64 r.k, .int .i64 r.be, .slice r.a1 r.l1 r.c1, .int .i64 r.bn, .slice r.a2 r.l2 r.c2, .slice r.a3 r.l3 r.c3, .int .i64 r.s, .int .i64 r.d, .int .i64 r.t, .int .i64 r.n, .string r.x]] w fun e w' => e = .returned (.bool Q) ∧ Below w.heap.size w w' := by
  have OA := Lib.hid (ownt_alloc w r 77 w.heap.size rfl)
  have HB : Hid (Below w.heap.size w (w.alloc (.cells #[.int .i64 r.k, .int .i64 r.be, .slice r.a1 r.l1 r.c1, .int .i64 r.bn, .slice r.a2 r.l2 r.c2, .slice r.a3 r.l3 r.c3, .int .i64 r.s, .int .i64 r.d, .int .i64 r.t, .int .i64 r.n, .string r.x] 77))) := (Below.refl _ w).alloc (Nat.le_refl _) _
  have hNe : ∀ w', (binOp .neq 75 (.agg #[.int .i64 r.s, .int .i64 r.d, .int .i64 r.t, .int .i64 r.n, .string r.x]) (.agg #[.int .i64 0, .int .i64 0, .int .i64 0, .int .i64 0, .string ⟨#[]⟩])).run Tryz.prog w' = .ok (.bool b4) w' := fun w' => by rw [neqPK, h6]
  have hG := fun op x y xs ys w' => guardPK op x y xs ys w'
  have HQ := Lib.hid hQ
  clear h6 hQ
  obtain ⟨⟨u0, u1, u2, u3, u4, u5, u6, u7, u8, u9, u10⟩, -⟩ := OA.out
  go_enter Tryz.func164, Tryz.ntmps164
  go_wp2_with fail
  go_region
  go_wp2_with fail
  have HB2 : Hid (Below w.heap.size w (((w.alloc (.cells #[.int .i64 r.k, .int .i64 r.be, .slice r.a1 r.l1 r.c1, .int .i64 r.bn, .slice r.a2 r.l2 r.c2, .slice r.a3 r.l3 r.c3, .int .i64 r.s, .int .i64 r.d, .int .i64 r.t, .int .i64 r.n, .string r.x] 77)).alloc (.cells #[.bool false, .bool true, .bool y2, .bool b3, .bool b4] 271)).drew)) := (HB.out.alloc HB.out.size _).drew
  have OV : Hid (OwnT (((w.alloc (.cells #[.int .i64 r.k, .int .i64 r.be, .slice r.a1 r.l1 r.c1, .int .i64 r.bn, .slice r.a2 r.l2 r.c2, .slice r.a3 r.l3 r.c3, .int .i64 r.s, .int .i64 r.d, .int .i64 r.t, .int .i64 r.n, .string r.x] 77)).alloc (.cells #[.bool false, .bool true, .bool y2, .bool b3, .bool b4] 271)).drew) w.heap.size r) := (show OwnT ((w.alloc (.cells #[.int .i64 r.k, .int .i64 r.be, .slice r.a1 r.l1 r.c1, .int .i64 r.bn, .slice r.a2 r.l2 r.c2, .slice r.a3 r.l3 r.c3, .int .i64 r.s, .int .i64 r.d, .int .i64 r.t, .int .i64 r.n, .string r.x] 77)).alloc (.cells #[.bool false, .bool true, .bool y2, .bool b3, .bool b4] 271)) w.heap.size r from OA.out.below ((Below.refl _ _).alloc (Nat.le_refl _) _))
  generalize ((w.alloc (.cells #[.int .i64 r.k, .int .i64 r.be, .slice r.a1 r.l1 r.c1, .int .i64 r.bn, .slice r.a2 r.l2 r.c2, .slice r.a3 r.l3 r.c3, .int .i64 r.s, .int .i64 r.d, .int .i64 r.t, .int .i64 r.n, .string r.x] 77)).alloc (.cells #[.bool false, .bool true, .bool y2, .bool b3, .bool b4] 271)).drew = V at *
  clear hNe hG u0 u1 u2 u3 u4 u5 u6 u7 u8 u9 u10
  obtain ⟨⟨v0, v1, v2, v3, v4, v5, v6, v7, v8, v9, v10⟩, -⟩ := OV.out
  clear v1 v2 v3 v4 v5 v6 v7 v8 v9 v10
  go_loopw [38] (fun i wr => ∃ k : Int, 0 ≤ k ∧ k ≤ 5 ∧ i = .int .i64 k ∧ wr = V ∧ (1 < k → Imp9 true (r.k = 1)) ∧ (2 < k → Imp9 y2 (r.k = 2)) ∧ (3 < k → Imp9 b3 (r.k = 3)) ∧ (4 < k → Imp9 b4 (r.k = 4))) (fun i _ => 5 - (intOf i).toNat)
  case atStart => exact ⟨0, by omega, by omega, rfl, rfl, fun h => absurd h (by omega), fun h => absurd h (by omega), fun h => absurd h (by omega), fun h => absurd h (by omega)⟩
  case round =>
    obtain ⟨k, hk0, hk5, rfl, rfl, a1, a2, a3, a4⟩ := hrel
    have HA : Hid ((1 < k → Imp9 true (r.k = 1)) ∧ (2 < k → Imp9 y2 (r.k = 2)) ∧ (3 < k → Imp9 b3 (r.k = 3)) ∧ (4 < k → Imp9 b4 (r.k = 4))) := ⟨a1, a2, a3, a4⟩
    clear a1 a2 a3 a4
    have I0 := idx5_0 true y2 b3 b4
    have I1 := idx5_1 true y2 b3 b4
    have I2 := idx5_2 true y2 b3 b4
    have I3 := idx5_3 true y2 b3 b4
    have I4 := idx5_4 true y2 b3 b4
    rcases (by omega : k = 0 ∨ k = 1 ∨ k = 2 ∨ k = 3 ∨ k = 4 ∨ k = 5) with rfl | rfl | rfl | rfl | rfl | rfl
    · skip
      go_wp2_with fail
      go_roundw
      case rel => exact ⟨1, by omega, by omega, by go_num, by trivial, fun h => HA.out.1 (by omega), fun h => HA.out.2.1 (by omega), fun h => HA.out.2.2.1 (by omega), fun h => HA.out.2.2.2 (by omega)⟩
      case measure => simp [intOf]
    · skip
      by_cases hk : r.k = 1
      · have hk9 : ((1 : Int) != r.k) = false := by simp [hk]
        have HK : Hid (r.k = 1) := hk
        clear hk
        go_wp2_with fail
        go_roundw
        case rel => exact ⟨2, by omega, by omega, by go_num, by trivial, fun _ _ => HK.out, fun h => HA.out.2.1 (by omega), fun h => HA.out.2.2.1 (by omega), fun h => HA.out.2.2.2 (by omega)⟩
        case measure => simp [intOf]
      · have hk9 : ((1 : Int) != r.k) = true := by simp; omega
        have HK : Hid (¬ r.k = 1) := hk
        clear hk
        go_wp2_with fail
        go_ret
        obtain rfl : Q = false := by
          cases Q with
          | false => rfl
          | true => exact absurd ((HQ.out.1 rfl).1 rfl) HK.out
        exact ⟨rfl, HB2.out⟩
    · skip
      cases y2 with
      | false =>
        go_wp2_with fail
        go_roundw
        case rel => exact ⟨3, by omega, by omega, by go_num, by trivial, fun h => HA.out.1 (by omega), fun _ h => (by cases (show false = true from h)), fun h => HA.out.2.2.1 (by omega), fun h => HA.out.2.2.2 (by omega)⟩
        case measure => simp [intOf]
      | true =>
        by_cases hk : r.k = 2
        · have hk9 : ((2 : Int) != r.k) = false := by simp [hk]
          have HK : Hid (r.k = 2) := hk
          clear hk
          go_wp2_with fail
          go_roundw
          case rel => exact ⟨3, by omega, by omega, by go_num, by trivial, fun h => HA.out.1 (by omega), fun _ _ => HK.out, fun h => HA.out.2.2.1 (by omega), fun h => HA.out.2.2.2 (by omega)⟩
          case measure => simp [intOf]
        · have hk9 : ((2 : Int) != r.k) = true := by simp; omega
          have HK : Hid (¬ r.k = 2) := hk
          clear hk
          go_wp2_with fail
          go_ret
          obtain rfl : Q = false := by
            cases Q with
            | false => rfl
            | true => exact absurd ((HQ.out.1 rfl).2.1 rfl) HK.out
          exact ⟨rfl, HB2.out⟩
    · skip
      cases b3 with
      | false =>
        go_wp2_with fail
        go_roundw
        case rel => exact ⟨4, by omega, by omega, by go_num, by trivial, fun h => HA.out.1 (by omega), fun h => HA.out.2.1 (by omega), fun _ h => (by cases (show false = true from h)), fun h => HA.out.2.2.2 (by omega)⟩
        case measure => simp [intOf]
      | true =>
        by_cases hk : r.k = 3
        · have hk9 : ((3 : Int) != r.k) = false := by simp [hk]
          have HK : Hid (r.k = 3) := hk
          clear hk
          go_wp2_with fail
          go_roundw
          case rel => exact ⟨4, by omega, by omega, by go_num, by trivial, fun h => HA.out.1 (by omega), fun h => HA.out.2.1 (by omega), fun _ _ => HK.out, fun h => HA.out.2.2.2 (by omega)⟩
          case measure => simp [intOf]
        · have hk9 : ((3 : Int) != r.k) = true := by simp; omega
          have HK : Hid (¬ r.k = 3) := hk
          clear hk
          go_wp2_with fail
          go_ret
          obtain rfl : Q = false := by
            cases Q with
            | false => rfl
            | true => exact absurd ((HQ.out.1 rfl).2.2.1 rfl) HK.out
          exact ⟨rfl, HB2.out⟩
    · skip
      cases b4 with
      | false =>
        go_wp2_with fail
        go_roundw
        case rel => exact ⟨5, by omega, by omega, by go_num, by trivial, fun h => HA.out.1 (by omega), fun h => HA.out.2.1 (by omega), fun h => HA.out.2.2.1 (by omega), fun _ h => (by cases (show false = true from h))⟩
        case measure => simp [intOf]
      | true =>
        by_cases hk : r.k = 4
        · have hk9 : ((4 : Int) != r.k) = false := by simp [hk]
          have HK : Hid (r.k = 4) := hk
          clear hk
          go_wp2_with fail
          go_roundw
          case rel => exact ⟨5, by omega, by omega, by go_num, by trivial, fun h => HA.out.1 (by omega), fun h => HA.out.2.1 (by omega), fun h => HA.out.2.2.1 (by omega), fun _ _ => HK.out⟩
          case measure => simp [intOf]
        · have hk9 : ((4 : Int) != r.k) = true := by simp; omega
          have HK : Hid (¬ r.k = 4) := hk
          clear hk
          go_wp2_with fail
          go_ret
          obtain rfl : Q = false := by
            cases Q with
            | false => rfl
            | true => exact absurd ((HQ.out.1 rfl).2.2.2 rfl) HK.out
          exact ⟨rfl, HB2.out⟩
    · skip
      go_wp2_with fail
      go_ret
      obtain rfl : Q = true := HQ.out.2 ⟨fun h => HA.out.1 (by omega) h, fun h => HA.out.2.1 (by omega) h, fun h => HA.out.2.2.1 (by omega) h, fun h => HA.out.2.2.2 (by omega) h⟩
      exact ⟨rfl, HB2.out⟩
end Go.Proofs.YthnajpckhoomgaaGreat
