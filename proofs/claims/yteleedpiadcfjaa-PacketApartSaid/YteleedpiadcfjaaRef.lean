/- The reference's readers: their contracts. No conditions. -/
import Derived.Test.YteleedpiadcfjaaRead
namespace Go.Proofs.Yteleedpiadcfjaa
set_option maxRecDepth 100000
open Go.RowKit

theorem seg_step {xs : List Int} (k j : Nat) (h : k + j < xs.length) : segN xs k (j + 1) = 256 * segN xs k j + xs.getD (k + j) 0 := be_step xs k j h
theorem seg_bd {xs : List Int} (hx : ∀ x ∈ xs, 0 ≤ x ∧ x < 256) (k j : Nat) : 0 ≤ segN xs k j ∧ segN xs k j < pow256 j := by
  have h1 := be_bd _ (seg_bytes hx k j)
  have h2 := pow256_le (n := ((xs.drop k).take j).length) (m := j) (by simp; omega)
  unfold segN
  omega

set_option maxHeartbeats 400000 in
theorem rget_any (v : Value) (xs : List Int) (k n : Int) (w : World) (hv : Bs w v xs) :
    Calls Try.prog 28 #[v, .int .i64 k, .int .i64 n] w fun e w' => e = .returned (tri (getS xs k n)) ∧ w = w' := by
  by_cases c1 : n < 1 ∨ 7 < n ∨ k < 0 ∨ (xs.length : Int) < k
  · have hf : tri (getS xs k n) = .tuple #[.int .i64 0, .int .i64 0, .int .i64 1] := by
      unfold getS; rw [if_pos c1]; rfl
    rw [hf]
    clear hf
    obtain ⟨hx, hl, ⟨a, cap, rfl, -, rfl⟩ | ⟨b, off, cap, rfl, hcap, hc⟩⟩ := hv
    all_goals
      clear hx
      first | (simp only [List.length_nil, Int.ofNat_zero] at c1) | clear hc
      rcases c1 with c1 | c1 | c1 | c1
    all_goals
      go_enter Try.func28, Try.ntmps28
      go_wp2
      all_goals
        go_ret3
        exact ⟨rfl, rfl⟩
  · have n1 : 1 ≤ n := by omega
    have n7 : n ≤ 7 := by omega
    have k0 : 0 ≤ k := by omega
    have k1 : k ≤ (xs.length : Int) := by omega
    by_cases c3 : (xs.length : Int) - k < n
    · have hf : tri (getS xs k n) = .tuple #[.int .i64 0, .int .i64 0, .int .i64 6] := by
        unfold getS; rw [if_neg c1, if_pos c3]; rfl
      rw [hf]
      clear hf c1
      obtain ⟨hx, hl, ⟨a, cap, rfl, -, rfl⟩ | ⟨b, off, cap, rfl, hcap, hc⟩⟩ := hv
      · simp only [List.length_nil] at k1 c3
        have hk0 : k = 0 := by omega
        subst hk0
        clear c3
        go_enter Try.func28, Try.ntmps28
        go_wp2
        go_ret3
        exact ⟨rfl, rfl⟩
      · clear hx hc
        go_enter Try.func28, Try.ntmps28
        go_wp2
        go_ret3
        exact ⟨rfl, rfl⟩
    · obtain ⟨K, rfl⟩ := Int.eq_ofNat_of_zero_le k0
      obtain ⟨N, rfl⟩ := Int.eq_ofNat_of_zero_le (show (0 : Int) ≤ n by omega)
      have hf : Hid (tri (getS xs K N) = .tuple #[.int .i64 (segN xs K N), .int .i64 ((K : Int) + (N : Int)), .int .i64 0]) := by
        unfold getS; rw [if_neg c1, if_neg c3]; rfl
      clear c1
      have c3' : (N : Int) ≤ (xs.length : Int) - (K : Int) := by omega
      clear c3
      obtain ⟨hx, hl, ⟨a, cap, rfl, -, rfl⟩ | ⟨b, off, cap, rfl, hcap, hc⟩⟩ := hv
      · simp at c3'; omega
      · go_enter Try.func28, Try.ntmps28
        go_wp2
        go_loop [9, 10] (fun a i => ∃ j : Nat, j ≤ N ∧ i = .int .i64 j ∧ a = .int .i64 (segN xs K j)) (fun _ i => N - (intOf i).toNat)
        case atStart => exact ⟨0, Nat.zero_le _, rfl, rfl⟩
        case round =>
          obtain ⟨j, hj, rfl, rfl⟩ := hrel
          by_cases hlt : j < N
          · obtain ⟨c, hg, b1, b2, hck⟩ := Bs_at hx hc (K + j) (by omega)
            have hs := Lib.hid (seg_step (xs := xs) K j (by omega))
            obtain ⟨d1, d2⟩ := seg_bd hx K j
            have d3 := pow256_small (n := j + 1) (by omega)
            simp only [pow256] at d3
            have i1 : (K : Int) + (j : Int) < (xs.length : Int) := by omega
            clear hx hc
            go_wp2
            go_round
            case rel => exact ⟨j + 1, by omega, by go_num, val_int (by rw [hs.out, hg.out])⟩
            case measure => simp [intOf]; omega
          · obtain rfl : j = N := by omega
            clear hx hc
            go_wp2
            go_ret3
            exact ⟨congrArg Ending.returned hf.out.symm, rfl⟩

/-- The first byte with its sign, and those behind it. -/
def sgn (xs : List Int) (k j : Nat) : Int := if 127 < xs.getD k 0 then segN xs k j - pow256 j else segN xs k j
theorem sgn_one {xs : List Int} (k : Nat) (h : k < xs.length) : sgn xs k 1 = if 127 < xs.getD k 0 then xs.getD k 0 - 256 else xs.getD k 0 := by
  have := seg_step (xs := xs) k 0 (by omega)
  have z : segN xs k 0 = 0 := rfl
  unfold sgn
  rw [this, z]
  simp only [Nat.add_zero, pow256]
  split <;> omega
theorem sgn_step {xs : List Int} (k j : Nat) (h : k + j < xs.length) : sgn xs k (j + 1) = 256 * sgn xs k j + xs.getD (k + j) 0 := by
  have := seg_step (xs := xs) k j h
  unfold sgn
  rw [this]
  simp only [pow256]
  split <;> omega
theorem getD_byte {xs : List Int} (hx : ∀ x ∈ xs, 0 ≤ x ∧ x < 256) {k : Nat} (h : k < xs.length) : 0 ≤ xs.getD k 0 ∧ xs.getD k 0 < 256 := by
  have e : xs.getD k 0 = xs[k] := by simp [List.getD, h]
  rw [e]; exact hx _ (List.getElem_mem h)
theorem seg_top {xs : List Int} (hx : ∀ x ∈ xs, 0 ≤ x ∧ x < 256) (k j : Nat) (h : k + j < xs.length) : segN xs k (j + 1) < pow256 j * xs.getD k 0 + pow256 j ∧ pow256 j * xs.getD k 0 ≤ segN xs k (j + 1) := by
  induction j with
  | zero =>
    have := seg_step (xs := xs) k 0 h
    have z : segN xs k 0 = 0 := rfl
    rw [this, z]; simp only [pow256, Nat.add_zero]; omega
  | succ j ih =>
    have h1 := ih (by omega)
    have h2 := seg_step (xs := xs) k (j + 1) h
    have h3 := getD_byte hx h
    rw [h2]
    simp only [pow256]
    rw [Int.mul_assoc]
    omega
theorem sgn_bd {xs : List Int} (hx : ∀ x ∈ xs, 0 ≤ x ∧ x < 256) (k j : Nat) (h : k + j < xs.length) : - (128 * pow256 j) ≤ sgn xs k (j + 1) ∧ sgn xs k (j + 1) < 128 * pow256 j := by
  have h1 := seg_top hx k j h
  have h2 := getD_byte hx (k := k) (by omega)
  have hp := pow256_pos j
  unfold sgn
  simp only [pow256]
  generalize pow256 j = p at *
  generalize segN xs k (j + 1) = S at *
  generalize xs.getD k 0 = x at *
  split
  · have : p * 128 ≤ p * x := Int.mul_le_mul_of_nonneg_left (by omega) (by omega)
    have : p * x ≤ p * 255 := Int.mul_le_mul_of_nonneg_left (by omega) (by omega)
    omega
  · have : p * x ≤ p * 127 := Int.mul_le_mul_of_nonneg_left (by omega) (by omega)
    have : p * 0 ≤ p * x := Int.mul_le_mul_of_nonneg_left (by omega) (by omega)
    omega
theorem sgn_eight {xs : List Int} (hx : ∀ x ∈ xs, 0 ≤ x ∧ x < 256) (k : Nat) (h : k + 8 ≤ xs.length) : wrap64 (segN xs k 8) = sgn xs k 8 := by
  have h1 := sgn_bd hx k 7 (by omega)
  rw [show (7 + 1 : Nat) = 8 from rfl] at h1
  have h2 := seg_bd hx k 8
  have e8 : pow256 8 = 18446744073709551616 := by decide
  rw [pow256_seven] at h1
  unfold sgn at h1 ⊢
  rw [e8] at h1 h2 ⊢
  unfold wrap64
  split at h1 <;> simp only [*, if_true, if_false] <;> omega
theorem sgn_small {xs : List Int} (hx : ∀ x ∈ xs, 0 ≤ x ∧ x < 256) (k j : Nat) (h1 : 1 ≤ j) (h7 : j ≤ 7) (h : k + j ≤ xs.length) : -36028797018963968 ≤ sgn xs k j ∧ sgn xs k j < 36028797018963968 := by
  obtain ⟨i, rfl⟩ : ∃ i, j = i + 1 := ⟨j - 1, by omega⟩
  have h2 := sgn_bd hx k i (by omega)
  have h3 := pow256_le (n := i) (m := 6) (by omega)
  have h4 : pow256 6 = 281474976710656 := by decide
  omega

end Go.Proofs.Yteleedpiadcfjaa
