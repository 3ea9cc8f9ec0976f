/- The reference's Put, in a row of the call's own. No conditions beyond those of the theorem. -/
import Derived.Test.YtipdjfgaenoepaaByt
namespace Go.Proofs.Ytipdjfgaenoepaa
set_option maxRecDepth 100000
open Go.RowKit

theorem rlo_row (v : Int) (n : Nat) : (lo v n).map (Value.int .u8) = row (fun i => v / 256 ^ (n - 1 - i) % 256) n := by
  unfold lo row
  rw [List.map_map]
  rfl
set_option maxHeartbeats 400000 in
theorem rput_own (v : Int) (N : Nat) (w : World) (v0 : 0 ≤ v) (c2 : v < pow256 N) (n1' : 1 ≤ N) (n7' : N ≤ 7) :
    Calls Try.prog 25 #[.int .i64 v, .int .i64 N] w fun e w' => ∃ r, e = .returned (.tuple #[r, .int .i64 0]) ∧ w'.ownsRow w.heap.size 5 1 r N ((lo v N).map (Value.int .u8)) ∧ Below w.heap.size w w' := by
  obtain ⟨i0, hi, hz0, hz1, hz2⟩ := info_parts Try.info5
  have n1 : (1 : Int) ≤ (N : Int) := by omega
  have n7 : (N : Int) ≤ 7 := by omega
  skip
  have vs : v < 72057594037927936 := Int.lt_of_lt_of_le c2 (pow256_small n7')
  go_enter Try.func25, Try.ntmps25
  go_wp2_with (first
    | (go_at_call 40; refine (power_any N _ n7').mono ?_; rintro e w' ⟨rfl, rfl⟩)
    | (at_make; go_must (refine wpList_make_full _ rfl _ _ 25 rfl w.heap.size 5 i0 (.int .u8 0) 1 Try.underlying25 hi hz0 hz1 _ _ _ _ N rfl rfl rfl rfl (by rw [hz2]; omega) (by unfold maxLen; omega) (by simp) ?_); intro w1 hown hgrow))
  rw [row_zero] at hown
  have hbel : Below w.heap.size w w1 := ((Below.refl _ w).grown hgrow (by simp) (by simp))
  clear hgrow c2
  go_loopw [0, 7] (fun x i wr => ∃ j : Int, -1 ≤ j ∧ j < N ∧ i = .int .i64 j ∧ x = .int .i64 (v / 256 ^ ((N : Int) - 1 - j).toNat) ∧ wr.ownsRow w.heap.size 5 1 (.slice (some ⟨w.heap.size, 0, none⟩) N N) N (row (downTo (fun i => v / 256 ^ (N - 1 - i) % 256) (j + 1).toNat) N) ∧ Below w.heap.size w wr) (fun _ i _ => (intOf i + 1).toNat)
  case atStart =>
    refine ⟨(N : Int) - 1, by omega, by omega, rfl, val_int ?_, ?_, hbel⟩
    · rw [show ((N : Int) - 1 - ((N : Int) - 1)).toNat = 0 from by omega]; simp
    · rw [show ((N : Int) - 1 + 1).toNat = N from by omega, row_downToN]; simpa using hown
  case round =>
    clear hbel hown
    obtain ⟨j, hj0, hj1, rfl, rfl, hown, hbel⟩ := hrel
    by_cases hlt : 0 ≤ j
    · obtain ⟨k, rfl⟩ := Int.eq_ofNat_of_zero_le hlt
      have hkN : k < N := by omega
      rw [show ((k : Int) + 1).toNat = k + 1 from by omega] at hown
      have hcell := hown.cellAt k (by omega)
      rw [row_get _ _ _ hkN] at hcell
      have hfz := hown.frozenAt k
      have hst := Lib.hid (hown.stored k)
      have hb2 := Lib.hid hbel
      clear hown hbel
      have hL := Lib.hid (show v / 256 ^ ((N : Int) - 1 - (k : Int)).toNat = v / 256 ^ (N - 1 - k) by rw [show ((N : Int) - 1 - (k : Int)).toNat = N - 1 - k from by omega])
      have hn := Lib.hid (show v / 256 ^ ((N : Int) - 1 - ((k : Int) - 1)).toNat = v / 256 ^ (N - 1 - k) / 256 by rw [show ((N : Int) - 1 - ((k : Int) - 1)).toNat = (N - 1 - k) + 1 from by omega, Int.pow_succ, ← Int.ediv_ediv_of_nonneg (by exact Int.pow_nonneg (by omega))])
      have hV0 : 0 ≤ v / 256 ^ (N - 1 - k) := Int.ediv_nonneg v0 (Int.pow_nonneg (by omega))
      rw [hL.out]
      have hV1 : v / 256 ^ (N - 1 - k) < 72057594037927936 := Int.lt_of_le_of_lt (Int.ediv_le_self _ v0) vs
      generalize hV : v / 256 ^ (N - 1 - k) = V at *
      have hV2 := Lib.hid hV
      clear hV
      go_wp2
      go_roundw
      case rel =>
        refine ⟨(k : Int) - 1, by omega, by omega, rfl, val_int (by rw [hn.out]), ?_, hb2.out.setCell (by simp) _⟩
        rw [show ((k : Int) - 1 + 1).toNat = k from by omega, ← row_down, hV2.out]
        exact (hst.out _).1
      case measure => simp [intOf]
    · obtain rfl : j = -1 := by omega
      have ho := Lib.hid hown
      have hb2 := Lib.hid hbel
      clear hown hbel
      go_wp2
      go_ret2
      refine ⟨_, rfl, ?_, hb2.out⟩
      have hr := ho.out
      rw [show ((-1 : Int) + 1).toNat = 0 from rfl, row_downTo] at hr
      rw [rlo_row]
      exact hr
#print axioms rput_own
end Go.Proofs.Ytipdjfgaenoepaa
