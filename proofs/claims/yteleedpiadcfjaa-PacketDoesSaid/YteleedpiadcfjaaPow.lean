/- Numbers as bytes, in a row of the call's own. No conditions beyond those of the theorems. -/
import Derived.Test.YteleedpiadcfjaaByt
import Derived.Test.YteleedpiadcfjaaGrw
namespace Go.Proofs.Yteleedpiadcfjaa
set_option maxRecDepth 100000
open Go.RowKit

theorem lo_row (v : Int) (n : Nat) : (lo v n).map (Value.int .u8) = row (fun i => v / 256 ^ (n - 1 - i) % 256) n := by
  unfold lo row
  rw [List.map_map]
  rfl
set_option maxHeartbeats 400000 in
theorem spell_own (v : Int) (n : Nat) (w : World) (_ : 0 ≤ v) (h1 : 1 ≤ n) (h8 : n ≤ 8) :
    Calls Try.prog 33 #[.int .u64 v, .int .i64 n] w fun e w' => ∃ r, e = .returned r ∧ w'.ownsRow w.heap.size 5 1 r n ((lo v n).map (Value.int .u8)) ∧ Below w.heap.size w w' := by
  obtain ⟨i0, hi, hz0, hz1, hz2⟩ := info_parts Try.info5
  go_enter Try.func33, Try.ntmps33
  go_wp2_with (first
    | (go_at_call 35; refine (store_any _ 0 v _ (by simp) (by simp)).mono ?_; rintro e w' ⟨rfl, rfl⟩)
    | (at_make; go_must (refine wpList_make_full _ rfl _ _ 24 rfl (w.heap.size + 1) 5 i0 (.int .u8 0) 1 Try.underlying24 hi hz0 hz1 _ _ _ _ n rfl rfl rfl rfl (by rw [hz2]; omega) (by unfold maxLen; omega) (by simp) ?_); intro w1 hown hgrow))
  rw [row_zero] at hown
  have hbel : Below w.heap.size w w1 := (((Below.refl _ w).alloc (Nat.le_refl _) _).grown hgrow (by simp) (by simp))
  have hat : w1.cell? ⟨w.heap.size, 0, none⟩ = some (.int .u64 v) := hgrow.cell (by simp) (by simp)
  clear hgrow
  go_loopw [7, 14] (fun _ i wr => ∃ k : Nat, k ≤ n ∧ i = .int .i64 k ∧ wr.ownsRow (w.heap.size + 1) 5 1 (.slice (some ⟨w.heap.size + 1, 0, none⟩) n n) n (row (upTo (fun i => v / 256 ^ (n - 1 - i) % 256) k) n) ∧ Below w.heap.size w wr ∧ wr.cell? ⟨w.heap.size, 0, none⟩ = some (.int .u64 v)) (fun _ i _ => n - (intOf i).toNat)
  case atStart => exact ⟨0, Nat.zero_le _, rfl, by rw [row_upTo0]; simpa using hown, hbel, hat⟩
  case round =>
    clear hbel hat hown
    obtain ⟨k, hk, rfl, hown, hbel, hat⟩ := hrel
    by_cases hlt : k < n
    · have hcell := hown.cellAt k (by omega)
      rw [row_get _ _ _ hlt] at hcell
      have hfz := hown.frozenAt k
      have hst := Lib.hid (hown.stored k)
      have hb2 := Lib.hid hbel
      clear hown hbel
      go_wp2_with (go_at_call 36; refine (load_any _ v _ hat).mono ?_; rintro e w' ⟨rfl, rfl⟩)
      go_roundw
      case rel =>
        refine ⟨k + 1, by omega, by go_num, ?_, hb2.out.setCell (by simp) _, by rw [World.cell?_setCell_other _ _ _ _ (by simp)]; exact hat⟩
        rw [← row_up, two_pow8]
        exact (hst.out _).1
      case measure => simp [intOf]; omega
    · obtain rfl : k = n := by omega
      have ho := Lib.hid hown
      have hb2 := Lib.hid hbel
      clear hown hbel hat
      go_wp2
      go_ret
      refine ⟨_, rfl, ?_, hb2.out⟩
      have hr := ho.out
      rw [row_upTo] at hr
      refine gown_mono ?_ (Nat.le_succ _)
      rw [lo_row v _]
      exact hr

theorem put_own (v : Int) (n : Nat) (w : World) (hv : 0 ≤ v ∧ v < pow256 n) (h1 : 1 ≤ n) (h7 : n ≤ 7) :
    Calls Try.prog 29 #[.int .i64 v, .int .i64 n] w fun e w' => ∃ r, e = .returned (.tuple #[r, .int .i64 0]) ∧ w'.ownsRow w.heap.size 5 1 r n ((lo v n).map (Value.int .u8)) ∧ Below w.heap.size w w' := by
  obtain ⟨v0, c2⟩ := hv
  have n1 : (1 : Int) ≤ (n : Int) := by omega
  have n7 : (n : Int) ≤ 7 := by omega
  have n8 : n ≤ 8 := by omega
  rw [← shl_pow n (by omega)] at c2
  have hv63 : v < 9223372036854775808 := by
    have : wrap64 ((2 : Int) ^ (8 * n)) < 9223372036854775808 := by unfold wrap64; omega
    omega
  have cS := fun w => spell_own v n w v0 h1 n8
  go_enter Try.func29, Try.ntmps29
  go_wp2_with (go_at_call 33; refine (cS _).mono ?_; rintro e w' ⟨r, rfl, hr, hbel⟩)
  go_ret2
  exact ⟨r, rfl, hr, hbel⟩
#print axioms put_own
end Go.Proofs.Yteleedpiadcfjaa
