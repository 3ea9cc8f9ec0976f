/- Rows of acks: the reference's Same. No conditions but on lengths. -/
import Derived.Test.YtipdjfgaenoepaaAkt
namespace Go.Proofs.Ytipdjfgaenoepaa
set_option maxRecDepth 100000
open Go.RowKit

set_option maxHeartbeats 8000000 in
theorem rsameA_any (v u : Value) (ys zs : List (Int × Int × Int × Int)) (w : World) (hy : As w v ys) (hz : As w u zs) (hl : ys.length ≤ 3000) :
    Calls Try.prog 21 #[v, u] w fun e w' => (∃ b : Bool, e = .returned (.bool b) ∧ (b = true ↔ ys = zs)) ∧ Below w.heap.size w w' := by
  obtain ⟨a, c, rfl⟩ := hy.form
  obtain ⟨a', c', rfl⟩ := hz.form
  have HY := Lib.hid hy
  have HZ := Lib.hid hz
  clear hy hz
  by_cases hne : ys.length = zs.length
  · have hL : ((ys.length : Int) != (zs.length : Int)) = false := by rw [hne]; simp
    have HN := Lib.hid hne
    clear hne
    go_enter Try.func21, Try.ntmps21
    go_wp2_with fail
    go_loopw [5] (fun i wr => ∃ k : Nat, k ≤ ys.length ∧ i = .int .i64 k ∧ (∀ i, i < k → ys.getD i (0, 0, 0, 0) = zs.getD i (0, 0, 0, 0)) ∧ Below w.heap.size w wr) (fun i _ => ys.length - (intOf i).toNat)
    case atStart => exact ⟨0, Nat.zero_le _, rfl, fun i h => absurd h (Nat.not_lt_zero _), Below.refl _ _⟩
    case round =>
      obtain ⟨k, hk, rfl, hsame, hbel⟩ := hrel
      have HS := Lib.hid hsame
      have HW := Lib.hid hbel
      clear hsame hbel
      by_cases hlt : k < ys.length
      · obtain ⟨b, off, rfl, hB, p0, p1, p2, p3⟩ := (HY.out.below HW.out).at hlt
        have hlt2 : k < zs.length := by have := HN.out; omega
        obtain ⟨b2, off2, rfl, hB2, q0, q1, q2, q3⟩ := (HZ.out.below HW.out).at hlt2
        obtain ⟨⟨y1, y2, y3, y4⟩, hyk⟩ : ∃ y, ys.getD k (0, 0, 0, 0) = y := ⟨_, rfl⟩
        obtain ⟨⟨z1, z2, z3, z4⟩, hzk⟩ : ∃ z, zs.getD k (0, 0, 0, 0) = z := ⟨_, rfl⟩
        rw [hyk] at p0 p1 p2 p3
        rw [hzk] at q0 q1 q2 q3
        simp only at p0 p1 p2 p3 q0 q1 q2 q3
        have HK := Lib.hid hyk
        have HK2 := Lib.hid hzk
        clear hyk hzk
        have E1 := guardAK
        have E2 := neqAK
        obtain ⟨q, hq⟩ : ∃ q, eqA y1 y2 y3 y4 z1 z2 z3 z4 = q := ⟨_, rfl⟩
        have HQ : Hid (q = true ↔ (y1, y2, y3, y4) = (z1, z2, z3, z4)) := by rw [← hq]; exact eqA_iff
        go_wp2_with fail
        go_region
        cases q with
        | true =>
          go_wp2_with fail
          go_roundw
          case rel =>
            refine ⟨k + 1, by omega, by go_num, ?_, HW.out.drew⟩
            intro j hj
            by_cases h : j < k
            · exact HS.out j h
            · obtain rfl : j = k := by omega
              rw [HK.out, HK2.out]; exact HQ.out.1 rfl
          case measure => simp [intOf]; omega
        | false =>
          go_wp2_with fail
          go_ret
          refine ⟨⟨false, rfl, ⟨(fun h => by cases h), fun h => ?_⟩⟩, HW.out.drew⟩
          subst h
          exact absurd (HQ.out.2 (HK.out.symm.trans HK2.out)) (by decide)
      · obtain rfl : k = ys.length := by omega
        go_wp2_with fail
        go_ret
        exact ⟨⟨true, rfl, ⟨fun _ => arow_ext HN.out HS.out, fun _ => rfl⟩⟩, HW.out⟩
  · have hL : ((ys.length : Int) != (zs.length : Int)) = true := by simpa using fun h : (ys.length : Int) = zs.length => hne (by omega)
    go_enter Try.func21, Try.ntmps21
    go_wp2_with fail
    go_ret
    exact ⟨⟨false, rfl, ⟨(fun h => by cases h), fun h => absurd (congrArg List.length h) hne⟩⟩, Below.refl _ _⟩
#print axioms rsameA_any
end Go.Proofs.Ytipdjfgaenoepaa
