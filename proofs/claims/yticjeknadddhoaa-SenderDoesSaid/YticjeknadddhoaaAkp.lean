/- What an ack has: the reference's power and Has. No conditions but those stated. -/
import Derived.Test.YticjeknadddhoaaAkt
import Derived.Test.YticjeknadddhoaaZfa
import Derived.Test.YticjeknadddhoaaTyp2
namespace Go.Proofs.Yticjeknadddhoaa
set_option maxRecDepth 100000
open Go.RowKit

/-- Two to some number. -/
def pow2 : Nat → Int
  | 0 => 1
  | n + 1 => 2 * pow2 n
theorem pow2_pos (n : Nat) : 1 ≤ pow2 n := by
  induction n with
  | zero => exact Int.le_refl _
  | succ n ih => simp only [pow2]; omega
theorem pow2_le {m n : Nat} (h : n ≤ m) : pow2 n ≤ pow2 m := by
  induction m with
  | zero => obtain rfl : n = 0 := by omega
            exact Int.le_refl _
  | succ m ih =>
    rcases Nat.lt_or_ge m n with h' | h'
    · obtain rfl : n = m + 1 := by omega
      exact Int.le_refl _
    · have := ih h'; have := pow2_pos m; simp only [pow2]; omega
theorem pow2_16 : pow2 16 = 65536 := by decide
theorem pow2_small {n : Nat} (h : n ≤ 16) : pow2 n ≤ 65536 := by
  have := pow2_le h; rw [pow2_16] at this; exact this
set_option maxHeartbeats 400000 in
theorem rpow2_any (n : Nat) (w : World) (hn : n ≤ 16) :
    Calls Try.prog 66 #[.int .i64 n] w fun e w' => e = .returned (.int .i64 (pow2 n)) ∧ w = w' := by
  go_enter Try.func66, Try.ntmps66
  go_wp2
  go_loop [3, 4] (fun p i => ∃ k : Nat, k ≤ n ∧ i = .int .i64 k ∧ p = .int .i64 (pow2 k)) (fun _ i => n - (intOf i).toNat)
  case atStart => exact ⟨0, Nat.zero_le _, rfl, rfl⟩
  case round =>
    obtain ⟨k, hk, rfl, rfl⟩ := hrel
    have h1 := pow2_pos k
    by_cases hlt : k < n
    · have h2 := pow2_small (n := k + 1) (by omega)
      simp only [pow2] at h2
      go_wp2
      go_round
      case rel => exact ⟨k + 1, by omega, by go_num, rfl⟩
      case measure => simp [intOf]; omega
    · obtain rfl : k = n := by omega
      go_wp2
      go_ret
      exact ⟨rfl, rfl⟩
/-- Whether an ack of this next, this mask has n. -/
def hasE (A K m : Int) : Bool := (decide (1 ≤ A) && decide (A ≤ 32768)) || (decide (1 ≤ K) && decide (K ≤ 16) && decide (m / pow2 (K - 1).toNat % 2 = 1))
def hasN (x m n : Int) : Bool := hasE (far n x) (far x n) m
set_option maxHeartbeats 16000000 in
theorem rhas_fix (i p x m n : Int) (q : Bool) (hq : q = true ↔ AkOne (i, p, x, m)) (w : World) :
    Calls Try.prog 42 #[.agg #[.int .i64 i, .int .i64 p, .int .i64 x, .int .i64 m], .int .i64 n] w fun e w' => e = .returned (.bool (q && hasN x m n)) ∧ Below w.heap.size w w' := by
  have HQ := Lib.hid hq
  have CO := Lib.hid (fun W => rone_fix i p x m q hq W)
  have HB : Hid (Below w.heap.size w (w.alloc (.cells #[.int .i64 i, .int .i64 p, .int .i64 x, .int .i64 m] 42))) := (Below.refl _ w).alloc (Nat.le_refl _) _
  have d0 : (w.alloc (.cells #[.int .i64 i, .int .i64 p, .int .i64 x, .int .i64 m] 42)).cell? ⟨w.heap.size, 2, none⟩ = some (.int .i64 x) := by simp
  have d1 : (w.alloc (.cells #[.int .i64 i, .int .i64 p, .int .i64 x, .int .i64 m] 42)).cell? ⟨w.heap.size, 3, none⟩ = some (.int .i64 m) := by simp
  have D0 := Lib.hid d0
  have D1 := Lib.hid d1
  clear hq d0 d1
  obtain ⟨A, hA⟩ : ∃ A, far n x = A := ⟨_, rfl⟩
  obtain ⟨K, hK⟩ : ∃ K, far x n = K := ⟨_, rfl⟩
  have bA := far_bd n x
  have bK := far_bd x n
  have C1 := Lib.hid (fun W => rfar_any n x W)
  have C2 := Lib.hid (fun W => rfar_any x n W)
  unfold hasN
  rw [hA] at bA C1 ⊢
  rw [hK] at bK C2 ⊢
  clear hA hK
  obtain ⟨R, hR⟩ : ∃ R, hasE A K m = R := ⟨_, rfl⟩
  rw [hR]
  have HR := Lib.hid hR
  clear hR
  go_enter Try.func42, Try.ntmps42
  go_wp2_with fail
  refine (CO.out _).mono ?_
  rintro e w1 ⟨rfl, hb⟩
  replace D0 := Lib.hid ((hb.cell (World.block_lt_of_cell? _ _ D0.out)).trans D0.out)
  replace D1 := Lib.hid ((hb.cell (World.block_lt_of_cell? _ _ D1.out)).trans D1.out)
  replace HB : Hid (Below w.heap.size w w1) := HB.out.trans (hb.mono HB.out.size)
  clear hb
  cases q with
  | false =>
    go_wp2_with fail
    go_ret
    exact ⟨rfl, HB.out⟩
  | true =>
    have hm : 0 ≤ m ∧ m ≤ 65535 := (HQ.out.1 rfl).2.2.2
    have d0 := D0.out
    go_wp2_with fail
    refine (C1.out _).mono ?_
    rintro e w2 ⟨rfl, hw⟩
    subst hw
    go_wp2_with fail
    refine (C2.out _).mono ?_
    rintro e w2 ⟨rfl, hw⟩
    subst hw
    go_wp2_with fail
    obtain ⟨V, hV⟩ : ∃ V, V = w1 := ⟨_, rfl⟩
    subst hV
    have kc : ∀ w', Below V.heap.size V w' → w'.cell? ⟨w.heap.size, 3, none⟩ = some (.int .i64 m) := fun w' h => by rw [h.cell (World.block_lt_of_cell? V _ D1.out)]; exact D1.out
    clear d0
    by_cases a1 : 1 ≤ A
    · by_cases a2 : A ≤ 32768
      · refine wp_region_typed (C := fun w' => Below V.heap.size V w') (X := fun w w' => Below w.heap.size w w') (n := 42) (by kernel_rfl) (by kernel_rfl) rfl (fun w => Below.refl _ w) (Below.refl _ _).drew ?_
        refine w_is (fun w => Below.refl _ w) _ (.inl rfl) (fun ρ w hC hc hfn hf => by have e5 : ρ (.tmp 5) = _ := hf 5 (by decide); (conv => lhs; simp [execOp, go_sem, hc, e5])) ?_
        refine w_is (fun w => Below.refl _ w) _ (.inl rfl) (fun ρ w hC hc hfn hf => by have e18 : ρ (.tmp 18) = _ := hf 18 (by decide); (conv => lhs; simp [execOp, go_sem, hc, e18, a1])) ?_
        refine w_is (fun w => Below.refl _ w) _ (.inl rfl) (fun ρ w hC hc hfn hf => by have e19 : ρ (.tmp 19) = _ := hf 19 (by decide); (conv => lhs; simp [execOp, go_sem, hc, e19])) ?_
        refine w_is (fun w => Below.refl _ w) _ (.inr ⟨2, 20, true, rfl, rfl, known_is rfl⟩) (fun ρ w hC hc hfn hf => by have e5 : ρ (.tmp 5) = _ := hf 5 (by decide); (conv => lhs; simp [execOp, go_sem, hc, e5])) ?_
        refine w_is (fun w => Below.refl _ w) _ (.inr ⟨2, 20, true, rfl, rfl, known_is rfl⟩) (fun ρ w hC hc hfn hf => by have e21 : ρ (.tmp 21) = _ := hf 21 (by decide); (conv => lhs; simp [execOp, go_sem, hc, e21, a2])) ?_
        refine w_is (fun w => Below.refl _ w) _ (.inl rfl) (fun ρ w hC hc hfn hf => by have e20 : ρ (.tmp 20) = _ := hf 20 (by decide); have e22 : ρ (.tmp 22) = _ := hf 22 (by decide); (conv => lhs; simp [execOp, go_sem, hc, e20, e22])) ?_
        refine w_is (fun w => Below.refl _ w) _ (.inl rfl) (fun ρ w hC hc hfn hf => by have e23 : ρ (.tmp 23) = _ := hf 23 (by decide); (conv => lhs; simp [execOp, go_sem, hc, e23])) ?_
        refine w_skip rfl rfl (known_is rfl) ?_
        refine w_skip rfl rfl (known_is rfl) ?_
        refine w_skip rfl rfl (known_is rfl) ?_
        refine w_skipU rfl rfl (known_is rfl) ?_
        refine w_skipU rfl rfl (known_is rfl) ?_
        refine w_skip rfl rfl (known_is rfl) ?_
        refine w_skip rfl rfl (known_is rfl) ?_
        refine w_skipU rfl rfl (known_is rfl) ?_
        refine w_skipU rfl rfl (known_is rfl) ?_
        refine w_skipU rfl rfl (known_is rfl) ?_
        refine w_skipU rfl rfl (known_is rfl) ?_
        refine w_skipU rfl rfl (known_is rfl) ?_
        refine w_skipU rfl rfl (known_is rfl) ?_
        refine w_skipU rfl rfl (known_is rfl) ?_
        refine w_skipU rfl rfl (known_is rfl) ?_
        refine w_skip rfl rfl (known_is rfl) ?_
        refine w_is (fun w => Below.refl _ w) _ (.inl rfl) (fun ρ w hC hc hfn hf => by have e24 : ρ (.tmp 24) = _ := hf 24 (by decide); have e40 : ρ (.tmp 40) = _ := hf 40 (by decide); (conv => lhs; simp [execOp, go_sem, hc, e24, e40])) ?_
        refine w_is (fun w => Below.refl _ w) _ (.inl rfl) (fun ρ w hC hc hfn hf => by have e41 : ρ (.tmp 41) = _ := hf 41 (by decide); (conv => lhs; simp [execOp, go_sem, hc, e41])) ?_
        intro A V5 hC hn hd hf
        have y0 : A.eval (.tmp 0) = _ := Eq.trans (hf 0) (by conv => lhs; simp [go_sem])
        have y1 : A.eval (.tmp 1) = _ := Eq.trans (hf 1) (by conv => lhs; simp [go_sem])
        have y2 : A.eval (.tmp 2) = _ := Eq.trans (hf 2) (by conv => lhs; simp [go_sem])
        have y3 : A.eval (.tmp 3) = _ := Eq.trans (hf 3) (by conv => lhs; simp [go_sem])
        have y4 : A.eval (.tmp 4) = _ := hf 4
        have y5 : A.eval (.tmp 5) = _ := Eq.trans (hf 5) (by conv => lhs; simp [go_sem])
        have y6 : A.eval (.tmp 6) = _ := Eq.trans (hf 6) (by conv => lhs; simp [go_sem])
        have y7 : A.eval (.tmp 7) = _ := Eq.trans (hf 7) (by conv => lhs; simp [go_sem])
        have y8 : A.eval (.tmp 8) = _ := Eq.trans (hf 8) (by conv => lhs; simp [go_sem])
        have y9 : A.eval (.tmp 9) = _ := Eq.trans (hf 9) (by conv => lhs; simp [go_sem])
        have y10 : A.eval (.tmp 10) = _ := Eq.trans (hf 10) (by conv => lhs; simp [go_sem])
        have y11 : A.eval (.tmp 11) = _ := Eq.trans (hf 11) (by conv => lhs; simp [go_sem])
        have y12 : A.eval (.tmp 12) = _ := Eq.trans (hf 12) (by conv => lhs; simp [go_sem])
        have y13 : A.eval (.tmp 13) = _ := Eq.trans (hf 13) (by conv => lhs; simp [go_sem])
        have y14 : A.eval (.tmp 14) = _ := Eq.trans (hf 14) (by conv => lhs; simp [go_sem])
        have y15 : A.eval (.tmp 15) = _ := Eq.trans (hf 15) (by conv => lhs; simp [go_sem])
        have y16 : A.eval (.tmp 16) = _ := Eq.trans (hf 16) (by conv => lhs; simp [go_sem])
        have y17 : A.eval (.tmp 17) = _ := Eq.trans (hf 17) (by conv => lhs; simp [go_sem])
        have y18 : A.eval (.tmp 18) = _ := hf 18
        have y19 : A.eval (.tmp 19) = _ := hf 19
        have y20 : A.eval (.tmp 20) = _ := hf 20
        have y21 : A.eval (.tmp 21) = _ := hf 21
        have y22 : A.eval (.tmp 22) = _ := hf 22
        have y23 : A.eval (.tmp 23) = _ := hf 23
        have y24 : A.eval (.tmp 24) = _ := hf 24
        have y25 : A.eval (.tmp 25) = _ := hf 25
        have y26 : A.eval (.tmp 26) = _ := hf 26
        have y27 : A.eval (.tmp 27) = _ := hf 27
        have y28 : A.eval (.tmp 28) = _ := hf 28
        have y29 : A.eval (.tmp 29) = _ := hf 29
        have y30 : A.eval (.tmp 30) = _ := hf 30
        have y31 : A.eval (.tmp 31) = _ := hf 31
        have y32 : A.eval (.tmp 32) = _ := hf 32
        have y33 : A.eval (.tmp 33) = _ := hf 33
        have y34 : A.eval (.tmp 34) = _ := hf 34
        have y35 : A.eval (.tmp 35) = _ := hf 35
        have y36 : A.eval (.tmp 36) = _ := hf 36
        have y37 : A.eval (.tmp 37) = _ := hf 37
        have y38 : A.eval (.tmp 38) = _ := hf 38
        have y39 : A.eval (.tmp 39) = _ := hf 39
        have y40 : A.eval (.tmp 40) = _ := hf 40
        have y41 : A.eval (.tmp 41) = _ := hf 41
        clear hf
        have hA := frame_eq hn
        rw [show List.range 42 = [0, 1, 2, 3, 4, 5, 6, 7, 8, 9, 10, 11, 12, 13, 14, 15, 16, 17, 18, 19, 20, 21, 22, 23, 24, 25, 26, 27, 28, 29, 30, 31, 32, 33, 34, 35, 36, 37, 38, 39, 40, 41] from rfl, hd] at hA
        simp only [List.map_cons, List.map_nil, y0, y1, y2, y3, y4, y5, y6, y7, y8, y9, y10, y11, y12, y13, y14, y15, y16, y17, y18, y19, y20, y21, y22, y23, y24, y25, y26, y27, y28, y29, y30, y31, y32, y33, y34, y35, y36, y37, y38, y39, y40, y41] at hA
        clear y0 y1 y2 y3 y4 y5 y6 y7 y8 y9 y10 y11 y12 y13 y14 y15 y16 y17 y18 y19 y20 y21 y22 y23 y24 y25 y26 y27 y28 y29 y30 y31 y32 y33 y34 y35 y36 y37 y38 y39 y40 y41
        clear hn hd
        subst hA
        go_wp2_with fail
        go_ret
        exact ⟨ret_bool (by rw [← HR.out]; unfold hasE; simp [a1, a2]), HB.out.trans (hC.mono HB.out.size)⟩
      · have a2' : decide (A ≤ 32768) = false := decide_eq_false a2
        by_cases b1 : 1 ≤ K
        · by_cases b2 : K ≤ 16
          · have hkw : IntKind.i64.wrap (K - 1) = K - 1 := by rw [IntKind.wrap_i64]; omega
            have hkn : K - 1 = ((K - 1).toNat : Int) := by omega
            have cP := fun w => rpow2_any (K - 1).toNat w (by omega)
            rw [← hkn] at cP
            have hp := pow2_pos (K - 1).toNat
            obtain ⟨P, hPe⟩ : ∃ P, pow2 (K - 1).toNat = P := ⟨_, rfl⟩
            rw [hPe] at cP hp
            have HP := Lib.hid hPe
            clear hPe
            have hp0 : P ≠ 0 := by omega
            have hp1 : (P == 0) = false := by simpa using hp0
            have hdv : m.tdiv P = m / P := Int.tdiv_eq_ediv_of_nonneg hm.1
            have hd0 : 0 ≤ m / P := Int.ediv_nonneg hm.1 (by omega)
            have hd1 : m / P ≤ m := Int.ediv_le_self _ hm.1
            have hdw : IntKind.i64.wrap (m / P) = m / P := by rw [IntKind.wrap_i64]; omega
            have hmt : (m / P).tmod 2 = m / P % 2 := Int.tmod_eq_emod_of_nonneg hd0
            have hmw : IntKind.i64.wrap (m / P % 2) = m / P % 2 := by rw [IntKind.wrap_i64]; omega
            clear hkn
            refine wp_region_typed (C := fun w' => Below V.heap.size V w') (X := fun w w' => Below w.heap.size w w') (n := 42) (by kernel_rfl) (by kernel_rfl) rfl (fun w => Below.refl _ w) (Below.refl _ _).drew ?_
            refine w_is (fun w => Below.refl _ w) _ (.inl rfl) (fun ρ w hC hc hfn hf => by have e5 : ρ (.tmp 5) = _ := hf 5 (by decide); (conv => lhs; simp [execOp, go_sem, hc, e5])) ?_
            refine w_is (fun w => Below.refl _ w) _ (.inl rfl) (fun ρ w hC hc hfn hf => by have e18 : ρ (.tmp 18) = _ := hf 18 (by decide); (conv => lhs; simp [execOp, go_sem, hc, e18, a1])) ?_
            refine w_is (fun w => Below.refl _ w) _ (.inl rfl) (fun ρ w hC hc hfn hf => by have e19 : ρ (.tmp 19) = _ := hf 19 (by decide); (conv => lhs; simp [execOp, go_sem, hc, e19])) ?_
            refine w_is (fun w => Below.refl _ w) _ (.inr ⟨2, 20, true, rfl, rfl, known_is rfl⟩) (fun ρ w hC hc hfn hf => by have e5 : ρ (.tmp 5) = _ := hf 5 (by decide); (conv => lhs; simp [execOp, go_sem, hc, e5])) ?_
            refine w_is (fun w => Below.refl _ w) _ (.inr ⟨2, 20, true, rfl, rfl, known_is rfl⟩) (fun ρ w hC hc hfn hf => by have e21 : ρ (.tmp 21) = _ := hf 21 (by decide); (conv => lhs; simp [execOp, go_sem, hc, e21, a2])) ?_
            refine w_is (fun w => Below.refl _ w) _ (.inl rfl) (fun ρ w hC hc hfn hf => by have e20 : ρ (.tmp 20) = _ := hf 20 (by decide); have e22 : ρ (.tmp 22) = _ := hf 22 (by decide); (conv => lhs; simp [execOp, go_sem, hc, e20, e22])) ?_
            refine w_is (fun w => Below.refl _ w) _ (.inl rfl) (fun ρ w hC hc hfn hf => by have e23 : ρ (.tmp 23) = _ := hf 23 (by decide); (conv => lhs; simp [execOp, go_sem, hc, e23])) ?_
            refine w_is (fun w => Below.refl _ w) _ (.inr ⟨6, 24, false, rfl, rfl, known_is rfl⟩) (fun ρ w hC hc hfn hf => by have e6 : ρ (.tmp 6) = _ := hf 6 (by decide); (conv => lhs; simp [execOp, go_sem, hc, e6])) ?_
            refine w_is (fun w => Below.refl _ w) _ (.inr ⟨6, 24, false, rfl, rfl, known_is rfl⟩) (fun ρ w hC hc hfn hf => by have e25 : ρ (.tmp 25) = _ := hf 25 (by decide); (conv => lhs; simp [execOp, go_sem, hc, e25, b1])) ?_
            refine w_is (fun w => Below.refl _ w) _ (.inr ⟨6, 24, false, rfl, rfl, known_is rfl⟩) (fun ρ w hC hc hfn hf => by have e26 : ρ (.tmp 26) = _ := hf 26 (by decide); (conv => lhs; simp [execOp, go_sem, hc, e26])) ?_
            refine w_is (fun w => Below.refl _ w) _ (.inr ⟨9, 27, true, rfl, rfl, known_is rfl⟩) (fun ρ w hC hc hfn hf => by have e6 : ρ (.tmp 6) = _ := hf 6 (by decide); (conv => lhs; simp [execOp, go_sem, hc, e6])) ?_
            refine w_is (fun w => Below.refl _ w) _ (.inr ⟨9, 27, true, rfl, rfl, known_is rfl⟩) (fun ρ w hC hc hfn hf => by have e28 : ρ (.tmp 28) = _ := hf 28 (by decide); (conv => lhs; simp [execOp, go_sem, hc, e28, b2])) ?_
            refine w_is (fun w => Below.refl _ w) _ (.inr ⟨6, 24, false, rfl, rfl, known_is rfl⟩) (fun ρ w hC hc hfn hf => by have e27 : ρ (.tmp 27) = _ := hf 27 (by decide); have e29 : ρ (.tmp 29) = _ := hf 29 (by decide); (conv => lhs; simp [execOp, go_sem, hc, e27, e29])) ?_
            refine w_is (fun w => Below.refl _ w) _ (.inr ⟨6, 24, false, rfl, rfl, known_is rfl⟩) (fun ρ w hC hc hfn hf => by have e30 : ρ (.tmp 30) = _ := hf 30 (by decide); (conv => lhs; simp [execOp, go_sem, hc, e30])) ?_
            refine w_is (fun w => Below.refl _ w) _ (.inr ⟨13, 31, true, rfl, rfl, known_is rfl⟩) (fun ρ w hC hc hfn hf => by have e2 : ρ (.tmp 2) = _ := hf 2 (by decide); (conv => lhs; simp [execOp, go_sem, hc, e2])) ?_
            refine w_is (fun w => Below.refl _ w) _ (.inr ⟨13, 31, true, rfl, rfl, known_is rfl⟩) (fun ρ w hC hc hfn hf => by have e32 : ρ (.tmp 32) = _ := hf 32 (by decide); (conv => lhs; simp [execOp, go_sem, hc, e32, kc w hC])) ?_
            refine w_is (fun w => Below.refl _ w) _ (.inr ⟨13, 31, true, rfl, rfl, known_is rfl⟩) (fun ρ w hC hc hfn hf => by have e6 : ρ (.tmp 6) = _ := hf 6 (by decide); (conv => lhs; simp [execOp, go_sem, hc, e6])) ?_
            refine w_is (fun w => Below.refl _ w) _ (.inr ⟨13, 31, true, rfl, rfl, known_is rfl⟩) (fun ρ w hC hc hfn hf => by have e34 : ρ (.tmp 34) = _ := hf 34 (by decide); (conv => lhs; simp [execOp, go_sem, hc, e34, hkw])) ?_
            refine w_call (Is _) (fun _ _ _ h _ => h) 66 (.inr ⟨13, 31, true, rfl, rfl, known_is rfl⟩) (fun ρ w hC hc hfn hf => by have e35 : ρ (.tmp 35) = _ := hf 35 (by decide); exact ⟨_, by (conv => lhs; simp [execOp, resolve, invoke, go_sem, hc, hfn, e35]), tc_same hC (cP w)⟩) ?_
            refine w_is (fun w => Below.refl _ w) _ (.inr ⟨13, 31, true, rfl, rfl, known_is rfl⟩) (fun ρ w hC hc hfn hf => by have e33 : ρ (.tmp 33) = _ := hf 33 (by decide); have e36 : ρ (.tmp 36) = _ := hf 36 (by decide); (conv => lhs; simp [execOp, go_sem, hc, e33, e36, hp0, hp1, hdv, hdw])) ?_
            refine w_is (fun w => Below.refl _ w) _ (.inr ⟨13, 31, true, rfl, rfl, known_is rfl⟩) (fun ρ w hC hc hfn hf => by have e37 : ρ (.tmp 37) = _ := hf 37 (by decide); (conv => lhs; simp [execOp, go_sem, hc, e37, hmt, hmw])) ?_
            refine w_is (fun w => Below.refl _ w) _ (.inr ⟨13, 31, true, rfl, rfl, known_is rfl⟩) (fun ρ w hC hc hfn hf => by have e38 : ρ (.tmp 38) = _ := hf 38 (by decide); (conv => lhs; simp [execOp, go_sem, hc, e38])) ?_
            refine w_is (fun w => Below.refl _ w) _ (.inr ⟨6, 24, false, rfl, rfl, known_is rfl⟩) (fun ρ w hC hc hfn hf => by have e31 : ρ (.tmp 31) = _ := hf 31 (by decide); have e39 : ρ (.tmp 39) = _ := hf 39 (by decide); (conv => lhs; simp [execOp, go_sem, hc, e31, e39])) ?_
            refine w_is (fun w => Below.refl _ w) _ (.inl rfl) (fun ρ w hC hc hfn hf => by have e24 : ρ (.tmp 24) = _ := hf 24 (by decide); have e40 : ρ (.tmp 40) = _ := hf 40 (by decide); (conv => lhs; simp [execOp, go_sem, hc, e24, e40])) ?_
            refine w_is (fun w => Below.refl _ w) _ (.inl rfl) (fun ρ w hC hc hfn hf => by have e41 : ρ (.tmp 41) = _ := hf 41 (by decide); (conv => lhs; simp [execOp, go_sem, hc, e41])) ?_
            intro A V5 hC hn hd hf
            have y0 : A.eval (.tmp 0) = _ := Eq.trans (hf 0) (by conv => lhs; simp [go_sem])
            have y1 : A.eval (.tmp 1) = _ := Eq.trans (hf 1) (by conv => lhs; simp [go_sem])
            have y2 : A.eval (.tmp 2) = _ := Eq.trans (hf 2) (by conv => lhs; simp [go_sem])
            have y3 : A.eval (.tmp 3) = _ := Eq.trans (hf 3) (by conv => lhs; simp [go_sem])
            have y4 : A.eval (.tmp 4) = _ := hf 4
            have y5 : A.eval (.tmp 5) = _ := Eq.trans (hf 5) (by conv => lhs; simp [go_sem])
            have y6 : A.eval (.tmp 6) = _ := Eq.trans (hf 6) (by conv => lhs; simp [go_sem])
            have y7 : A.eval (.tmp 7) = _ := Eq.trans (hf 7) (by conv => lhs; simp [go_sem])
            have y8 : A.eval (.tmp 8) = _ := Eq.trans (hf 8) (by conv => lhs; simp [go_sem])
            have y9 : A.eval (.tmp 9) = _ := Eq.trans (hf 9) (by conv => lhs; simp [go_sem])
            have y10 : A.eval (.tmp 10) = _ := Eq.trans (hf 10) (by conv => lhs; simp [go_sem])
            have y11 : A.eval (.tmp 11) = _ := Eq.trans (hf 11) (by conv => lhs; simp [go_sem])
            have y12 : A.eval (.tmp 12) = _ := Eq.trans (hf 12) (by conv => lhs; simp [go_sem])
            have y13 : A.eval (.tmp 13) = _ := Eq.trans (hf 13) (by conv => lhs; simp [go_sem])
            have y14 : A.eval (.tmp 14) = _ := Eq.trans (hf 14) (by conv => lhs; simp [go_sem])
            have y15 : A.eval (.tmp 15) = _ := Eq.trans (hf 15) (by conv => lhs; simp [go_sem])
            have y16 : A.eval (.tmp 16) = _ := Eq.trans (hf 16) (by conv => lhs; simp [go_sem])
            have y17 : A.eval (.tmp 17) = _ := Eq.trans (hf 17) (by conv => lhs; simp [go_sem])
            have y18 : A.eval (.tmp 18) = _ := hf 18
            have y19 : A.eval (.tmp 19) = _ := hf 19
            have y20 : A.eval (.tmp 20) = _ := hf 20
            have y21 : A.eval (.tmp 21) = _ := hf 21
            have y22 : A.eval (.tmp 22) = _ := hf 22
            have y23 : A.eval (.tmp 23) = _ := hf 23
            have y24 : A.eval (.tmp 24) = _ := hf 24
            have y25 : A.eval (.tmp 25) = _ := hf 25
            have y26 : A.eval (.tmp 26) = _ := hf 26
            have y27 : A.eval (.tmp 27) = _ := hf 27
            have y28 : A.eval (.tmp 28) = _ := hf 28
            have y29 : A.eval (.tmp 29) = _ := hf 29
            have y30 : A.eval (.tmp 30) = _ := hf 30
            have y31 : A.eval (.tmp 31) = _ := hf 31
            have y32 : A.eval (.tmp 32) = _ := hf 32
            have y33 : A.eval (.tmp 33) = _ := hf 33
            have y34 : A.eval (.tmp 34) = _ := hf 34
            have y35 : A.eval (.tmp 35) = _ := hf 35
            have y36 : A.eval (.tmp 36) = _ := hf 36
            have y37 : A.eval (.tmp 37) = _ := hf 37
            have y38 : A.eval (.tmp 38) = _ := hf 38
            have y39 : A.eval (.tmp 39) = _ := hf 39
            have y40 : A.eval (.tmp 40) = _ := hf 40
            have y41 : A.eval (.tmp 41) = _ := hf 41
            clear hf
            have hA := frame_eq hn
            rw [show List.range 42 = [0, 1, 2, 3, 4, 5, 6, 7, 8, 9, 10, 11, 12, 13, 14, 15, 16, 17, 18, 19, 20, 21, 22, 23, 24, 25, 26, 27, 28, 29, 30, 31, 32, 33, 34, 35, 36, 37, 38, 39, 40, 41] from rfl, hd] at hA
            simp only [List.map_cons, List.map_nil, y0, y1, y2, y3, y4, y5, y6, y7, y8, y9, y10, y11, y12, y13, y14, y15, y16, y17, y18, y19, y20, y21, y22, y23, y24, y25, y26, y27, y28, y29, y30, y31, y32, y33, y34, y35, y36, y37, y38, y39, y40, y41] at hA
            clear y0 y1 y2 y3 y4 y5 y6 y7 y8 y9 y10 y11 y12 y13 y14 y15 y16 y17 y18 y19 y20 y21 y22 y23 y24 y25 y26 y27 y28 y29 y30 y31 y32 y33 y34 y35 y36 y37 y38 y39 y40 y41
            clear hn hd
            subst hA
            go_wp2_with fail
            go_ret
            exact ⟨ret_bool (by rw [← HR.out]; unfold hasE; rw [HP.out]; simp [a1, a2', b1, b2]; rfl), HB.out.trans (hC.mono HB.out.size)⟩
          · have b2' : decide (K ≤ 16) = false := decide_eq_false b2
            refine wp_region_typed (C := fun w' => Below V.heap.size V w') (X := fun w w' => Below w.heap.size w w') (n := 42) (by kernel_rfl) (by kernel_rfl) rfl (fun w => Below.refl _ w) (Below.refl _ _).drew ?_
            refine w_is (fun w => Below.refl _ w) _ (.inl rfl) (fun ρ w hC hc hfn hf => by have e5 : ρ (.tmp 5) = _ := hf 5 (by decide); (conv => lhs; simp [execOp, go_sem, hc, e5])) ?_
            refine w_is (fun w => Below.refl _ w) _ (.inl rfl) (fun ρ w hC hc hfn hf => by have e18 : ρ (.tmp 18) = _ := hf 18 (by decide); (conv => lhs; simp [execOp, go_sem, hc, e18, a1])) ?_
            refine w_is (fun w => Below.refl _ w) _ (.inl rfl) (fun ρ w hC hc hfn hf => by have e19 : ρ (.tmp 19) = _ := hf 19 (by decide); (conv => lhs; simp [execOp, go_sem, hc, e19])) ?_
            refine w_is (fun w => Below.refl _ w) _ (.inr ⟨2, 20, true, rfl, rfl, known_is rfl⟩) (fun ρ w hC hc hfn hf => by have e5 : ρ (.tmp 5) = _ := hf 5 (by decide); (conv => lhs; simp [execOp, go_sem, hc, e5])) ?_
            refine w_is (fun w => Below.refl _ w) _ (.inr ⟨2, 20, true, rfl, rfl, known_is rfl⟩) (fun ρ w hC hc hfn hf => by have e21 : ρ (.tmp 21) = _ := hf 21 (by decide); (conv => lhs; simp [execOp, go_sem, hc, e21, a2])) ?_
            refine w_is (fun w => Below.refl _ w) _ (.inl rfl) (fun ρ w hC hc hfn hf => by have e20 : ρ (.tmp 20) = _ := hf 20 (by decide); have e22 : ρ (.tmp 22) = _ := hf 22 (by decide); (conv => lhs; simp [execOp, go_sem, hc, e20, e22])) ?_
            refine w_is (fun w => Below.refl _ w) _ (.inl rfl) (fun ρ w hC hc hfn hf => by have e23 : ρ (.tmp 23) = _ := hf 23 (by decide); (conv => lhs; simp [execOp, go_sem, hc, e23])) ?_
            refine w_is (fun w => Below.refl _ w) _ (.inr ⟨6, 24, false, rfl, rfl, known_is rfl⟩) (fun ρ w hC hc hfn hf => by have e6 : ρ (.tmp 6) = _ := hf 6 (by decide); (conv => lhs; simp [execOp, go_sem, hc, e6])) ?_
            refine w_is (fun w => Below.refl _ w) _ (.inr ⟨6, 24, false, rfl, rfl, known_is rfl⟩) (fun ρ w hC hc hfn hf => by have e25 : ρ (.tmp 25) = _ := hf 25 (by decide); (conv => lhs; simp [execOp, go_sem, hc, e25, b1])) ?_
            refine w_is (fun w => Below.refl _ w) _ (.inr ⟨6, 24, false, rfl, rfl, known_is rfl⟩) (fun ρ w hC hc hfn hf => by have e26 : ρ (.tmp 26) = _ := hf 26 (by decide); (conv => lhs; simp [execOp, go_sem, hc, e26])) ?_
            refine w_is (fun w => Below.refl _ w) _ (.inr ⟨9, 27, true, rfl, rfl, known_is rfl⟩) (fun ρ w hC hc hfn hf => by have e6 : ρ (.tmp 6) = _ := hf 6 (by decide); (conv => lhs; simp [execOp, go_sem, hc, e6])) ?_
            refine w_is (fun w => Below.refl _ w) _ (.inr ⟨9, 27, true, rfl, rfl, known_is rfl⟩) (fun ρ w hC hc hfn hf => by have e28 : ρ (.tmp 28) = _ := hf 28 (by decide); (conv => lhs; simp [execOp, go_sem, hc, e28, b2])) ?_
            refine w_is (fun w => Below.refl _ w) _ (.inr ⟨6, 24, false, rfl, rfl, known_is rfl⟩) (fun ρ w hC hc hfn hf => by have e27 : ρ (.tmp 27) = _ := hf 27 (by decide); have e29 : ρ (.tmp 29) = _ := hf 29 (by decide); (conv => lhs; simp [execOp, go_sem, hc, e27, e29])) ?_
            refine w_is (fun w => Below.refl _ w) _ (.inr ⟨6, 24, false, rfl, rfl, known_is rfl⟩) (fun ρ w hC hc hfn hf => by have e30 : ρ (.tmp 30) = _ := hf 30 (by decide); (conv => lhs; simp [execOp, go_sem, hc, e30])) ?_
            refine w_skip rfl rfl (known_is rfl) ?_
            refine w_skip rfl rfl (known_is rfl) ?_
            refine w_skip rfl rfl (known_is rfl) ?_
            refine w_skip rfl rfl (known_is rfl) ?_
            refine w_skip rfl rfl (known_is rfl) ?_
            refine w_skip rfl rfl (known_is rfl) ?_
            refine w_skip rfl rfl (known_is rfl) ?_
            refine w_skip rfl rfl (known_is rfl) ?_
            refine w_is (fun w => Below.refl _ w) _ (.inr ⟨6, 24, false, rfl, rfl, known_is rfl⟩) (fun ρ w hC hc hfn hf => by have e31 : ρ (.tmp 31) = _ := hf 31 (by decide); have e39 : ρ (.tmp 39) = _ := hf 39 (by decide); (conv => lhs; simp [execOp, go_sem, hc, e31, e39])) ?_
            refine w_is (fun w => Below.refl _ w) _ (.inl rfl) (fun ρ w hC hc hfn hf => by have e24 : ρ (.tmp 24) = _ := hf 24 (by decide); have e40 : ρ (.tmp 40) = _ := hf 40 (by decide); (conv => lhs; simp [execOp, go_sem, hc, e24, e40])) ?_
            refine w_is (fun w => Below.refl _ w) _ (.inl rfl) (fun ρ w hC hc hfn hf => by have e41 : ρ (.tmp 41) = _ := hf 41 (by decide); (conv => lhs; simp [execOp, go_sem, hc, e41])) ?_
            intro A V5 hC hn hd hf
            have y0 : A.eval (.tmp 0) = _ := Eq.trans (hf 0) (by conv => lhs; simp [go_sem])
            have y1 : A.eval (.tmp 1) = _ := Eq.trans (hf 1) (by conv => lhs; simp [go_sem])
            have y2 : A.eval (.tmp 2) = _ := Eq.trans (hf 2) (by conv => lhs; simp [go_sem])
            have y3 : A.eval (.tmp 3) = _ := Eq.trans (hf 3) (by conv => lhs; simp [go_sem])
            have y4 : A.eval (.tmp 4) = _ := hf 4
            have y5 : A.eval (.tmp 5) = _ := Eq.trans (hf 5) (by conv => lhs; simp [go_sem])
            have y6 : A.eval (.tmp 6) = _ := Eq.trans (hf 6) (by conv => lhs; simp [go_sem])
            have y7 : A.eval (.tmp 7) = _ := Eq.trans (hf 7) (by conv => lhs; simp [go_sem])
            have y8 : A.eval (.tmp 8) = _ := Eq.trans (hf 8) (by conv => lhs; simp [go_sem])
            have y9 : A.eval (.tmp 9) = _ := Eq.trans (hf 9) (by conv => lhs; simp [go_sem])
            have y10 : A.eval (.tmp 10) = _ := Eq.trans (hf 10) (by conv => lhs; simp [go_sem])
            have y11 : A.eval (.tmp 11) = _ := Eq.trans (hf 11) (by conv => lhs; simp [go_sem])
            have y12 : A.eval (.tmp 12) = _ := Eq.trans (hf 12) (by conv => lhs; simp [go_sem])
            have y13 : A.eval (.tmp 13) = _ := Eq.trans (hf 13) (by conv => lhs; simp [go_sem])
            have y14 : A.eval (.tmp 14) = _ := Eq.trans (hf 14) (by conv => lhs; simp [go_sem])
            have y15 : A.eval (.tmp 15) = _ := Eq.trans (hf 15) (by conv => lhs; simp [go_sem])
            have y16 : A.eval (.tmp 16) = _ := Eq.trans (hf 16) (by conv => lhs; simp [go_sem])
            have y17 : A.eval (.tmp 17) = _ := Eq.trans (hf 17) (by conv => lhs; simp [go_sem])
            have y18 : A.eval (.tmp 18) = _ := hf 18
            have y19 : A.eval (.tmp 19) = _ := hf 19
            have y20 : A.eval (.tmp 20) = _ := hf 20
            have y21 : A.eval (.tmp 21) = _ := hf 21
            have y22 : A.eval (.tmp 22) = _ := hf 22
            have y23 : A.eval (.tmp 23) = _ := hf 23
            have y24 : A.eval (.tmp 24) = _ := hf 24
            have y25 : A.eval (.tmp 25) = _ := hf 25
            have y26 : A.eval (.tmp 26) = _ := hf 26
            have y27 : A.eval (.tmp 27) = _ := hf 27
            have y28 : A.eval (.tmp 28) = _ := hf 28
            have y29 : A.eval (.tmp 29) = _ := hf 29
            have y30 : A.eval (.tmp 30) = _ := hf 30
            have y31 : A.eval (.tmp 31) = _ := hf 31
            have y32 : A.eval (.tmp 32) = _ := hf 32
            have y33 : A.eval (.tmp 33) = _ := hf 33
            have y34 : A.eval (.tmp 34) = _ := hf 34
            have y35 : A.eval (.tmp 35) = _ := hf 35
            have y36 : A.eval (.tmp 36) = _ := hf 36
            have y37 : A.eval (.tmp 37) = _ := hf 37
            have y38 : A.eval (.tmp 38) = _ := hf 38
            have y39 : A.eval (.tmp 39) = _ := hf 39
            have y40 : A.eval (.tmp 40) = _ := hf 40
            have y41 : A.eval (.tmp 41) = _ := hf 41
            clear hf
            have hA := frame_eq hn
            rw [show List.range 42 = [0, 1, 2, 3, 4, 5, 6, 7, 8, 9, 10, 11, 12, 13, 14, 15, 16, 17, 18, 19, 20, 21, 22, 23, 24, 25, 26, 27, 28, 29, 30, 31, 32, 33, 34, 35, 36, 37, 38, 39, 40, 41] from rfl, hd] at hA
            simp only [List.map_cons, List.map_nil, y0, y1, y2, y3, y4, y5, y6, y7, y8, y9, y10, y11, y12, y13, y14, y15, y16, y17, y18, y19, y20, y21, y22, y23, y24, y25, y26, y27, y28, y29, y30, y31, y32, y33, y34, y35, y36, y37, y38, y39, y40, y41] at hA
            clear y0 y1 y2 y3 y4 y5 y6 y7 y8 y9 y10 y11 y12 y13 y14 y15 y16 y17 y18 y19 y20 y21 y22 y23 y24 y25 y26 y27 y28 y29 y30 y31 y32 y33 y34 y35 y36 y37 y38 y39 y40 y41
            clear hn hd
            subst hA
            go_wp2_with fail
            go_ret
            exact ⟨ret_bool (by rw [← HR.out]; unfold hasE; simp [a1, a2', b1, b2']), HB.out.trans (hC.mono HB.out.size)⟩
        · have b1' : decide (1 ≤ K) = false := decide_eq_false b1
          refine wp_region_typed (C := fun w' => Below V.heap.size V w') (X := fun w w' => Below w.heap.size w w') (n := 42) (by kernel_rfl) (by kernel_rfl) rfl (fun w => Below.refl _ w) (Below.refl _ _).drew ?_
          refine w_is (fun w => Below.refl _ w) _ (.inl rfl) (fun ρ w hC hc hfn hf => by have e5 : ρ (.tmp 5) = _ := hf 5 (by decide); (conv => lhs; simp [execOp, go_sem, hc, e5])) ?_
          refine w_is (fun w => Below.refl _ w) _ (.inl rfl) (fun ρ w hC hc hfn hf => by have e18 : ρ (.tmp 18) = _ := hf 18 (by decide); (conv => lhs; simp [execOp, go_sem, hc, e18, a1])) ?_
          refine w_is (fun w => Below.refl _ w) _ (.inl rfl) (fun ρ w hC hc hfn hf => by have e19 : ρ (.tmp 19) = _ := hf 19 (by decide); (conv => lhs; simp [execOp, go_sem, hc, e19])) ?_
          refine w_is (fun w => Below.refl _ w) _ (.inr ⟨2, 20, true, rfl, rfl, known_is rfl⟩) (fun ρ w hC hc hfn hf => by have e5 : ρ (.tmp 5) = _ := hf 5 (by decide); (conv => lhs; simp [execOp, go_sem, hc, e5])) ?_
          refine w_is (fun w => Below.refl _ w) _ (.inr ⟨2, 20, true, rfl, rfl, known_is rfl⟩) (fun ρ w hC hc hfn hf => by have e21 : ρ (.tmp 21) = _ := hf 21 (by decide); (conv => lhs; simp [execOp, go_sem, hc, e21, a2])) ?_
          refine w_is (fun w => Below.refl _ w) _ (.inl rfl) (fun ρ w hC hc hfn hf => by have e20 : ρ (.tmp 20) = _ := hf 20 (by decide); have e22 : ρ (.tmp 22) = _ := hf 22 (by decide); (conv => lhs; simp [execOp, go_sem, hc, e20, e22])) ?_
          refine w_is (fun w => Below.refl _ w) _ (.inl rfl) (fun ρ w hC hc hfn hf => by have e23 : ρ (.tmp 23) = _ := hf 23 (by decide); (conv => lhs; simp [execOp, go_sem, hc, e23])) ?_
          refine w_is (fun w => Below.refl _ w) _ (.inr ⟨6, 24, false, rfl, rfl, known_is rfl⟩) (fun ρ w hC hc hfn hf => by have e6 : ρ (.tmp 6) = _ := hf 6 (by decide); (conv => lhs; simp [execOp, go_sem, hc, e6])) ?_
          refine w_is (fun w => Below.refl _ w) _ (.inr ⟨6, 24, false, rfl, rfl, known_is rfl⟩) (fun ρ w hC hc hfn hf => by have e25 : ρ (.tmp 25) = _ := hf 25 (by decide); (conv => lhs; simp [execOp, go_sem, hc, e25, b1])) ?_
          refine w_is (fun w => Below.refl _ w) _ (.inr ⟨6, 24, false, rfl, rfl, known_is rfl⟩) (fun ρ w hC hc hfn hf => by have e26 : ρ (.tmp 26) = _ := hf 26 (by decide); (conv => lhs; simp [execOp, go_sem, hc, e26])) ?_
          refine w_skip rfl rfl (known_is rfl) ?_
          refine w_skip rfl rfl (known_is rfl) ?_
          refine w_is (fun w => Below.refl _ w) _ (.inr ⟨6, 24, false, rfl, rfl, known_is rfl⟩) (fun ρ w hC hc hfn hf => by have e27 : ρ (.tmp 27) = _ := hf 27 (by decide); have e29 : ρ (.tmp 29) = _ := hf 29 (by decide); (conv => lhs; simp [execOp, go_sem, hc, e27, e29])) ?_
          refine w_is (fun w => Below.refl _ w) _ (.inr ⟨6, 24, false, rfl, rfl, known_is rfl⟩) (fun ρ w hC hc hfn hf => by have e30 : ρ (.tmp 30) = _ := hf 30 (by decide); (conv => lhs; simp [execOp, go_sem, hc, e30])) ?_
          refine w_skip rfl rfl (known_is rfl) ?_
          refine w_skip rfl rfl (known_is rfl) ?_
          refine w_skip rfl rfl (known_is rfl) ?_
          refine w_skip rfl rfl (known_is rfl) ?_
          refine w_skip rfl rfl (known_is rfl) ?_
          refine w_skip rfl rfl (known_is rfl) ?_
          refine w_skip rfl rfl (known_is rfl) ?_
          refine w_skip rfl rfl (known_is rfl) ?_
          refine w_is (fun w => Below.refl _ w) _ (.inr ⟨6, 24, false, rfl, rfl, known_is rfl⟩) (fun ρ w hC hc hfn hf => by have e31 : ρ (.tmp 31) = _ := hf 31 (by decide); have e39 : ρ (.tmp 39) = _ := hf 39 (by decide); (conv => lhs; simp [execOp, go_sem, hc, e31, e39])) ?_
          refine w_is (fun w => Below.refl _ w) _ (.inl rfl) (fun ρ w hC hc hfn hf => by have e24 : ρ (.tmp 24) = _ := hf 24 (by decide); have e40 : ρ (.tmp 40) = _ := hf 40 (by decide); (conv => lhs; simp [execOp, go_sem, hc, e24, e40])) ?_
          refine w_is (fun w => Below.refl _ w) _ (.inl rfl) (fun ρ w hC hc hfn hf => by have e41 : ρ (.tmp 41) = _ := hf 41 (by decide); (conv => lhs; simp [execOp, go_sem, hc, e41])) ?_
          intro A V5 hC hn hd hf
          have y0 : A.eval (.tmp 0) = _ := Eq.trans (hf 0) (by conv => lhs; simp [go_sem])
          have y1 : A.eval (.tmp 1) = _ := Eq.trans (hf 1) (by conv => lhs; simp [go_sem])
          have y2 : A.eval (.tmp 2) = _ := Eq.trans (hf 2) (by conv => lhs; simp [go_sem])
          have y3 : A.eval (.tmp 3) = _ := Eq.trans (hf 3) (by conv => lhs; simp [go_sem])
          have y4 : A.eval (.tmp 4) = _ := hf 4
          have y5 : A.eval (.tmp 5) = _ := Eq.trans (hf 5) (by conv => lhs; simp [go_sem])
          have y6 : A.eval (.tmp 6) = _ := Eq.trans (hf 6) (by conv => lhs; simp [go_sem])
          have y7 : A.eval (.tmp 7) = _ := Eq.trans (hf 7) (by conv => lhs; simp [go_sem])
          have y8 : A.eval (.tmp 8) = _ := Eq.trans (hf 8) (by conv => lhs; simp [go_sem])
          have y9 : A.eval (.tmp 9) = _ := Eq.trans (hf 9) (by conv => lhs; simp [go_sem])
          have y10 : A.eval (.tmp 10) = _ := Eq.trans (hf 10) (by conv => lhs; simp [go_sem])
          have y11 : A.eval (.tmp 11) = _ := Eq.trans (hf 11) (by conv => lhs; simp [go_sem])
          have y12 : A.eval (.tmp 12) = _ := Eq.trans (hf 12) (by conv => lhs; simp [go_sem])
          have y13 : A.eval (.tmp 13) = _ := Eq.trans (hf 13) (by conv => lhs; simp [go_sem])
          have y14 : A.eval (.tmp 14) = _ := Eq.trans (hf 14) (by conv => lhs; simp [go_sem])
          have y15 : A.eval (.tmp 15) = _ := Eq.trans (hf 15) (by conv => lhs; simp [go_sem])
          have y16 : A.eval (.tmp 16) = _ := Eq.trans (hf 16) (by conv => lhs; simp [go_sem])
          have y17 : A.eval (.tmp 17) = _ := Eq.trans (hf 17) (by conv => lhs; simp [go_sem])
          have y18 : A.eval (.tmp 18) = _ := hf 18
          have y19 : A.eval (.tmp 19) = _ := hf 19
          have y20 : A.eval (.tmp 20) = _ := hf 20
          have y21 : A.eval (.tmp 21) = _ := hf 21
          have y22 : A.eval (.tmp 22) = _ := hf 22
          have y23 : A.eval (.tmp 23) = _ := hf 23
          have y24 : A.eval (.tmp 24) = _ := hf 24
          have y25 : A.eval (.tmp 25) = _ := hf 25
          have y26 : A.eval (.tmp 26) = _ := hf 26
          have y27 : A.eval (.tmp 27) = _ := hf 27
          have y28 : A.eval (.tmp 28) = _ := hf 28
          have y29 : A.eval (.tmp 29) = _ := hf 29
          have y30 : A.eval (.tmp 30) = _ := hf 30
          have y31 : A.eval (.tmp 31) = _ := hf 31
          have y32 : A.eval (.tmp 32) = _ := hf 32
          have y33 : A.eval (.tmp 33) = _ := hf 33
          have y34 : A.eval (.tmp 34) = _ := hf 34
          have y35 : A.eval (.tmp 35) = _ := hf 35
          have y36 : A.eval (.tmp 36) = _ := hf 36
          have y37 : A.eval (.tmp 37) = _ := hf 37
          have y38 : A.eval (.tmp 38) = _ := hf 38
          have y39 : A.eval (.tmp 39) = _ := hf 39
          have y40 : A.eval (.tmp 40) = _ := hf 40
          have y41 : A.eval (.tmp 41) = _ := hf 41
          clear hf
          have hA := frame_eq hn
          rw [show List.range 42 = [0, 1, 2, 3, 4, 5, 6, 7, 8, 9, 10, 11, 12, 13, 14, 15, 16, 17, 18, 19, 20, 21, 22, 23, 24, 25, 26, 27, 28, 29, 30, 31, 32, 33, 34, 35, 36, 37, 38, 39, 40, 41] from rfl, hd] at hA
          simp only [List.map_cons, List.map_nil, y0, y1, y2, y3, y4, y5, y6, y7, y8, y9, y10, y11, y12, y13, y14, y15, y16, y17, y18, y19, y20, y21, y22, y23, y24, y25, y26, y27, y28, y29, y30, y31, y32, y33, y34, y35, y36, y37, y38, y39, y40, y41] at hA
          clear y0 y1 y2 y3 y4 y5 y6 y7 y8 y9 y10 y11 y12 y13 y14 y15 y16 y17 y18 y19 y20 y21 y22 y23 y24 y25 y26 y27 y28 y29 y30 y31 y32 y33 y34 y35 y36 y37 y38 y39 y40 y41
          clear hn hd
          subst hA
          go_wp2_with fail
          go_ret
          exact ⟨ret_bool (by rw [← HR.out]; unfold hasE; simp [a1, a2', b1']), HB.out.trans (hC.mono HB.out.size)⟩
    · have a1' : decide (1 ≤ A) = false := decide_eq_false a1
      by_cases b1 : 1 ≤ K
      · by_cases b2 : K ≤ 16
        · have hkw : IntKind.i64.wrap (K - 1) = K - 1 := by rw [IntKind.wrap_i64]; omega
          have hkn : K - 1 = ((K - 1).toNat : Int) := by omega
          have cP := fun w => rpow2_any (K - 1).toNat w (by omega)
          rw [← hkn] at cP
          have hp := pow2_pos (K - 1).toNat
          obtain ⟨P, hPe⟩ : ∃ P, pow2 (K - 1).toNat = P := ⟨_, rfl⟩
          rw [hPe] at cP hp
          have HP := Lib.hid hPe
          clear hPe
          have hp0 : P ≠ 0 := by omega
          have hp1 : (P == 0) = false := by simpa using hp0
          have hdv : m.tdiv P = m / P := Int.tdiv_eq_ediv_of_nonneg hm.1
          have hd0 : 0 ≤ m / P := Int.ediv_nonneg hm.1 (by omega)
          have hd1 : m / P ≤ m := Int.ediv_le_self _ hm.1
          have hdw : IntKind.i64.wrap (m / P) = m / P := by rw [IntKind.wrap_i64]; omega
          have hmt : (m / P).tmod 2 = m / P % 2 := Int.tmod_eq_emod_of_nonneg hd0
          have hmw : IntKind.i64.wrap (m / P % 2) = m / P % 2 := by rw [IntKind.wrap_i64]; omega
          clear hkn
          refine wp_region_typed (C := fun w' => Below V.heap.size V w') (X := fun w w' => Below w.heap.size w w') (n := 42) (by kernel_rfl) (by kernel_rfl) rfl (fun w => Below.refl _ w) (Below.refl _ _).drew ?_
          refine w_is (fun w => Below.refl _ w) _ (.inl rfl) (fun ρ w hC hc hfn hf => by have e5 : ρ (.tmp 5) = _ := hf 5 (by decide); (conv => lhs; simp [execOp, go_sem, hc, e5])) ?_
          refine w_is (fun w => Below.refl _ w) _ (.inl rfl) (fun ρ w hC hc hfn hf => by have e18 : ρ (.tmp 18) = _ := hf 18 (by decide); (conv => lhs; simp [execOp, go_sem, hc, e18, a1])) ?_
          refine w_is (fun w => Below.refl _ w) _ (.inl rfl) (fun ρ w hC hc hfn hf => by have e19 : ρ (.tmp 19) = _ := hf 19 (by decide); (conv => lhs; simp [execOp, go_sem, hc, e19])) ?_
          refine w_skip rfl rfl (known_is rfl) ?_
          refine w_skip rfl rfl (known_is rfl) ?_
          refine w_is (fun w => Below.refl _ w) _ (.inl rfl) (fun ρ w hC hc hfn hf => by have e20 : ρ (.tmp 20) = _ := hf 20 (by decide); have e22 : ρ (.tmp 22) = _ := hf 22 (by decide); (conv => lhs; simp [execOp, go_sem, hc, e20, e22])) ?_
          refine w_is (fun w => Below.refl _ w) _ (.inl rfl) (fun ρ w hC hc hfn hf => by have e23 : ρ (.tmp 23) = _ := hf 23 (by decide); (conv => lhs; simp [execOp, go_sem, hc, e23])) ?_
          refine w_is (fun w => Below.refl _ w) _ (.inr ⟨6, 24, false, rfl, rfl, known_is rfl⟩) (fun ρ w hC hc hfn hf => by have e6 : ρ (.tmp 6) = _ := hf 6 (by decide); (conv => lhs; simp [execOp, go_sem, hc, e6])) ?_
          refine w_is (fun w => Below.refl _ w) _ (.inr ⟨6, 24, false, rfl, rfl, known_is rfl⟩) (fun ρ w hC hc hfn hf => by have e25 : ρ (.tmp 25) = _ := hf 25 (by decide); (conv => lhs; simp [execOp, go_sem, hc, e25, b1])) ?_
          refine w_is (fun w => Below.refl _ w) _ (.inr ⟨6, 24, false, rfl, rfl, known_is rfl⟩) (fun ρ w hC hc hfn hf => by have e26 : ρ (.tmp 26) = _ := hf 26 (by decide); (conv => lhs; simp [execOp, go_sem, hc, e26])) ?_
          refine w_is (fun w => Below.refl _ w) _ (.inr ⟨9, 27, true, rfl, rfl, known_is rfl⟩) (fun ρ w hC hc hfn hf => by have e6 : ρ (.tmp 6) = _ := hf 6 (by decide); (conv => lhs; simp [execOp, go_sem, hc, e6])) ?_
          refine w_is (fun w => Below.refl _ w) _ (.inr ⟨9, 27, true, rfl, rfl, known_is rfl⟩) (fun ρ w hC hc hfn hf => by have e28 : ρ (.tmp 28) = _ := hf 28 (by decide); (conv => lhs; simp [execOp, go_sem, hc, e28, b2])) ?_
          refine w_is (fun w => Below.refl _ w) _ (.inr ⟨6, 24, false, rfl, rfl, known_is rfl⟩) (fun ρ w hC hc hfn hf => by have e27 : ρ (.tmp 27) = _ := hf 27 (by decide); have e29 : ρ (.tmp 29) = _ := hf 29 (by decide); (conv => lhs; simp [execOp, go_sem, hc, e27, e29])) ?_
          refine w_is (fun w => Below.refl _ w) _ (.inr ⟨6, 24, false, rfl, rfl, known_is rfl⟩) (fun ρ w hC hc hfn hf => by have e30 : ρ (.tmp 30) = _ := hf 30 (by decide); (conv => lhs; simp [execOp, go_sem, hc, e30])) ?_
          refine w_is (fun w => Below.refl _ w) _ (.inr ⟨13, 31, true, rfl, rfl, known_is rfl⟩) (fun ρ w hC hc hfn hf => by have e2 : ρ (.tmp 2) = _ := hf 2 (by decide); (conv => lhs; simp [execOp, go_sem, hc, e2])) ?_
          refine w_is (fun w => Below.refl _ w) _ (.inr ⟨13, 31, true, rfl, rfl, known_is rfl⟩) (fun ρ w hC hc hfn hf => by have e32 : ρ (.tmp 32) = _ := hf 32 (by decide); (conv => lhs; simp [execOp, go_sem, hc, e32, kc w hC])) ?_
          refine w_is (fun w => Below.refl _ w) _ (.inr ⟨13, 31, true, rfl, rfl, known_is rfl⟩) (fun ρ w hC hc hfn hf => by have e6 : ρ (.tmp 6) = _ := hf 6 (by decide); (conv => lhs; simp [execOp, go_sem, hc, e6])) ?_
          refine w_is (fun w => Below.refl _ w) _ (.inr ⟨13, 31, true, rfl, rfl, known_is rfl⟩) (fun ρ w hC hc hfn hf => by have e34 : ρ (.tmp 34) = _ := hf 34 (by decide); (conv => lhs; simp [execOp, go_sem, hc, e34, hkw])) ?_
          refine w_call (Is _) (fun _ _ _ h _ => h) 66 (.inr ⟨13, 31, true, rfl, rfl, known_is rfl⟩) (fun ρ w hC hc hfn hf => by have e35 : ρ (.tmp 35) = _ := hf 35 (by decide); exact ⟨_, by (conv => lhs; simp [execOp, resolve, invoke, go_sem, hc, hfn, e35]), tc_same hC (cP w)⟩) ?_
          refine w_is (fun w => Below.refl _ w) _ (.inr ⟨13, 31, true, rfl, rfl, known_is rfl⟩) (fun ρ w hC hc hfn hf => by have e33 : ρ (.tmp 33) = _ := hf 33 (by decide); have e36 : ρ (.tmp 36) = _ := hf 36 (by decide); (conv => lhs; simp [execOp, go_sem, hc, e33, e36, hp0, hp1, hdv, hdw])) ?_
          refine w_is (fun w => Below.refl _ w) _ (.inr ⟨13, 31, true, rfl, rfl, known_is rfl⟩) (fun ρ w hC hc hfn hf => by have e37 : ρ (.tmp 37) = _ := hf 37 (by decide); (conv => lhs; simp [execOp, go_sem, hc, e37, hmt, hmw])) ?_
          refine w_is (fun w => Below.refl _ w) _ (.inr ⟨13, 31, true, rfl, rfl, known_is rfl⟩) (fun ρ w hC hc hfn hf => by have e38 : ρ (.tmp 38) = _ := hf 38 (by decide); (conv => lhs; simp [execOp, go_sem, hc, e38])) ?_
          refine w_is (fun w => Below.refl _ w) _ (.inr ⟨6, 24, false, rfl, rfl, known_is rfl⟩) (fun ρ w hC hc hfn hf => by have e31 : ρ (.tmp 31) = _ := hf 31 (by decide); have e39 : ρ (.tmp 39) = _ := hf 39 (by decide); (conv => lhs; simp [execOp, go_sem, hc, e31, e39])) ?_
          refine w_is (fun w => Below.refl _ w) _ (.inl rfl) (fun ρ w hC hc hfn hf => by have e24 : ρ (.tmp 24) = _ := hf 24 (by decide); have e40 : ρ (.tmp 40) = _ := hf 40 (by decide); (conv => lhs; simp [execOp, go_sem, hc, e24, e40])) ?_
          refine w_is (fun w => Below.refl _ w) _ (.inl rfl) (fun ρ w hC hc hfn hf => by have e41 : ρ (.tmp 41) = _ := hf 41 (by decide); (conv => lhs; simp [execOp, go_sem, hc, e41])) ?_
          intro A V5 hC hn hd hf
          have y0 : A.eval (.tmp 0) = _ := Eq.trans (hf 0) (by conv => lhs; simp [go_sem])
          have y1 : A.eval (.tmp 1) = _ := Eq.trans (hf 1) (by conv => lhs; simp [go_sem])
          have y2 : A.eval (.tmp 2) = _ := Eq.trans (hf 2) (by conv => lhs; simp [go_sem])
          have y3 : A.eval (.tmp 3) = _ := Eq.trans (hf 3) (by conv => lhs; simp [go_sem])
          have y4 : A.eval (.tmp 4) = _ := hf 4
          have y5 : A.eval (.tmp 5) = _ := Eq.trans (hf 5) (by conv => lhs; simp [go_sem])
          have y6 : A.eval (.tmp 6) = _ := Eq.trans (hf 6) (by conv => lhs; simp [go_sem])
          have y7 : A.eval (.tmp 7) = _ := Eq.trans (hf 7) (by conv => lhs; simp [go_sem])
          have y8 : A.eval (.tmp 8) = _ := Eq.trans (hf 8) (by conv => lhs; simp [go_sem])
          have y9 : A.eval (.tmp 9) = _ := Eq.trans (hf 9) (by conv => lhs; simp [go_sem])
          have y10 : A.eval (.tmp 10) = _ := Eq.trans (hf 10) (by conv => lhs; simp [go_sem])
          have y11 : A.eval (.tmp 11) = _ := Eq.trans (hf 11) (by conv => lhs; simp [go_sem])
          have y12 : A.eval (.tmp 12) = _ := Eq.trans (hf 12) (by conv => lhs; simp [go_sem])
          have y13 : A.eval (.tmp 13) = _ := Eq.trans (hf 13) (by conv => lhs; simp [go_sem])
          have y14 : A.eval (.tmp 14) = _ := Eq.trans (hf 14) (by conv => lhs; simp [go_sem])
          have y15 : A.eval (.tmp 15) = _ := Eq.trans (hf 15) (by conv => lhs; simp [go_sem])
          have y16 : A.eval (.tmp 16) = _ := Eq.trans (hf 16) (by conv => lhs; simp [go_sem])
          have y17 : A.eval (.tmp 17) = _ := Eq.trans (hf 17) (by conv => lhs; simp [go_sem])
          have y18 : A.eval (.tmp 18) = _ := hf 18
          have y19 : A.eval (.tmp 19) = _ := hf 19
          have y20 : A.eval (.tmp 20) = _ := hf 20
          have y21 : A.eval (.tmp 21) = _ := hf 21
          have y22 : A.eval (.tmp 22) = _ := hf 22
          have y23 : A.eval (.tmp 23) = _ := hf 23
          have y24 : A.eval (.tmp 24) = _ := hf 24
          have y25 : A.eval (.tmp 25) = _ := hf 25
          have y26 : A.eval (.tmp 26) = _ := hf 26
          have y27 : A.eval (.tmp 27) = _ := hf 27
          have y28 : A.eval (.tmp 28) = _ := hf 28
          have y29 : A.eval (.tmp 29) = _ := hf 29
          have y30 : A.eval (.tmp 30) = _ := hf 30
          have y31 : A.eval (.tmp 31) = _ := hf 31
          have y32 : A.eval (.tmp 32) = _ := hf 32
          have y33 : A.eval (.tmp 33) = _ := hf 33
          have y34 : A.eval (.tmp 34) = _ := hf 34
          have y35 : A.eval (.tmp 35) = _ := hf 35
          have y36 : A.eval (.tmp 36) = _ := hf 36
          have y37 : A.eval (.tmp 37) = _ := hf 37
          have y38 : A.eval (.tmp 38) = _ := hf 38
          have y39 : A.eval (.tmp 39) = _ := hf 39
          have y40 : A.eval (.tmp 40) = _ := hf 40
          have y41 : A.eval (.tmp 41) = _ := hf 41
          clear hf
          have hA := frame_eq hn
          rw [show List.range 42 = [0, 1, 2, 3, 4, 5, 6, 7, 8, 9, 10, 11, 12, 13, 14, 15, 16, 17, 18, 19, 20, 21, 22, 23, 24, 25, 26, 27, 28, 29, 30, 31, 32, 33, 34, 35, 36, 37, 38, 39, 40, 41] from rfl, hd] at hA
          simp only [List.map_cons, List.map_nil, y0, y1, y2, y3, y4, y5, y6, y7, y8, y9, y10, y11, y12, y13, y14, y15, y16, y17, y18, y19, y20, y21, y22, y23, y24, y25, y26, y27, y28, y29, y30, y31, y32, y33, y34, y35, y36, y37, y38, y39, y40, y41] at hA
          clear y0 y1 y2 y3 y4 y5 y6 y7 y8 y9 y10 y11 y12 y13 y14 y15 y16 y17 y18 y19 y20 y21 y22 y23 y24 y25 y26 y27 y28 y29 y30 y31 y32 y33 y34 y35 y36 y37 y38 y39 y40 y41
          clear hn hd
          subst hA
          go_wp2_with fail
          go_ret
          exact ⟨ret_bool (by rw [← HR.out]; unfold hasE; rw [HP.out]; simp [a1', b1, b2]; rfl), HB.out.trans (hC.mono HB.out.size)⟩
        · have b2' : decide (K ≤ 16) = false := decide_eq_false b2
          refine wp_region_typed (C := fun w' => Below V.heap.size V w') (X := fun w w' => Below w.heap.size w w') (n := 42) (by kernel_rfl) (by kernel_rfl) rfl (fun w => Below.refl _ w) (Below.refl _ _).drew ?_
          refine w_is (fun w => Below.refl _ w) _ (.inl rfl) (fun ρ w hC hc hfn hf => by have e5 : ρ (.tmp 5) = _ := hf 5 (by decide); (conv => lhs; simp [execOp, go_sem, hc, e5])) ?_
          refine w_is (fun w => Below.refl _ w) _ (.inl rfl) (fun ρ w hC hc hfn hf => by have e18 : ρ (.tmp 18) = _ := hf 18 (by decide); (conv => lhs; simp [execOp, go_sem, hc, e18, a1])) ?_
          refine w_is (fun w => Below.refl _ w) _ (.inl rfl) (fun ρ w hC hc hfn hf => by have e19 : ρ (.tmp 19) = _ := hf 19 (by decide); (conv => lhs; simp [execOp, go_sem, hc, e19])) ?_
          refine w_skip rfl rfl (known_is rfl) ?_
          refine w_skip rfl rfl (known_is rfl) ?_
          refine w_is (fun w => Below.refl _ w) _ (.inl rfl) (fun ρ w hC hc hfn hf => by have e20 : ρ (.tmp 20) = _ := hf 20 (by decide); have e22 : ρ (.tmp 22) = _ := hf 22 (by decide); (conv => lhs; simp [execOp, go_sem, hc, e20, e22])) ?_
          refine w_is (fun w => Below.refl _ w) _ (.inl rfl) (fun ρ w hC hc hfn hf => by have e23 : ρ (.tmp 23) = _ := hf 23 (by decide); (conv => lhs; simp [execOp, go_sem, hc, e23])) ?_
          refine w_is (fun w => Below.refl _ w) _ (.inr ⟨6, 24, false, rfl, rfl, known_is rfl⟩) (fun ρ w hC hc hfn hf => by have e6 : ρ (.tmp 6) = _ := hf 6 (by decide); (conv => lhs; simp [execOp, go_sem, hc, e6])) ?_
          refine w_is (fun w => Below.refl _ w) _ (.inr ⟨6, 24, false, rfl, rfl, known_is rfl⟩) (fun ρ w hC hc hfn hf => by have e25 : ρ (.tmp 25) = _ := hf 25 (by decide); (conv => lhs; simp [execOp, go_sem, hc, e25, b1])) ?_
          refine w_is (fun w => Below.refl _ w) _ (.inr ⟨6, 24, false, rfl, rfl, known_is rfl⟩) (fun ρ w hC hc hfn hf => by have e26 : ρ (.tmp 26) = _ := hf 26 (by decide); (conv => lhs; simp [execOp, go_sem, hc, e26])) ?_
          refine w_is (fun w => Below.refl _ w) _ (.inr ⟨9, 27, true, rfl, rfl, known_is rfl⟩) (fun ρ w hC hc hfn hf => by have e6 : ρ (.tmp 6) = _ := hf 6 (by decide); (conv => lhs; simp [execOp, go_sem, hc, e6])) ?_
          refine w_is (fun w => Below.refl _ w) _ (.inr ⟨9, 27, true, rfl, rfl, known_is rfl⟩) (fun ρ w hC hc hfn hf => by have e28 : ρ (.tmp 28) = _ := hf 28 (by decide); (conv => lhs; simp [execOp, go_sem, hc, e28, b2])) ?_
          refine w_is (fun w => Below.refl _ w) _ (.inr ⟨6, 24, false, rfl, rfl, known_is rfl⟩) (fun ρ w hC hc hfn hf => by have e27 : ρ (.tmp 27) = _ := hf 27 (by decide); have e29 : ρ (.tmp 29) = _ := hf 29 (by decide); (conv => lhs; simp [execOp, go_sem, hc, e27, e29])) ?_
          refine w_is (fun w => Below.refl _ w) _ (.inr ⟨6, 24, false, rfl, rfl, known_is rfl⟩) (fun ρ w hC hc hfn hf => by have e30 : ρ (.tmp 30) = _ := hf 30 (by decide); (conv => lhs; simp [execOp, go_sem, hc, e30])) ?_
          refine w_skip rfl rfl (known_is rfl) ?_
          refine w_skip rfl rfl (known_is rfl) ?_
          refine w_skip rfl rfl (known_is rfl) ?_
          refine w_skip rfl rfl (known_is rfl) ?_
          refine w_skip rfl rfl (known_is rfl) ?_
          refine w_skip rfl rfl (known_is rfl) ?_
          refine w_skip rfl rfl (known_is rfl) ?_
          refine w_skip rfl rfl (known_is rfl) ?_
          refine w_is (fun w => Below.refl _ w) _ (.inr ⟨6, 24, false, rfl, rfl, known_is rfl⟩) (fun ρ w hC hc hfn hf => by have e31 : ρ (.tmp 31) = _ := hf 31 (by decide); have e39 : ρ (.tmp 39) = _ := hf 39 (by decide); (conv => lhs; simp [execOp, go_sem, hc, e31, e39])) ?_
          refine w_is (fun w => Below.refl _ w) _ (.inl rfl) (fun ρ w hC hc hfn hf => by have e24 : ρ (.tmp 24) = _ := hf 24 (by decide); have e40 : ρ (.tmp 40) = _ := hf 40 (by decide); (conv => lhs; simp [execOp, go_sem, hc, e24, e40])) ?_
          refine w_is (fun w => Below.refl _ w) _ (.inl rfl) (fun ρ w hC hc hfn hf => by have e41 : ρ (.tmp 41) = _ := hf 41 (by decide); (conv => lhs; simp [execOp, go_sem, hc, e41])) ?_
          intro A V5 hC hn hd hf
          have y0 : A.eval (.tmp 0) = _ := Eq.trans (hf 0) (by conv => lhs; simp [go_sem])
          have y1 : A.eval (.tmp 1) = _ := Eq.trans (hf 1) (by conv => lhs; simp [go_sem])
          have y2 : A.eval (.tmp 2) = _ := Eq.trans (hf 2) (by conv => lhs; simp [go_sem])
          have y3 : A.eval (.tmp 3) = _ := Eq.trans (hf 3) (by conv => lhs; simp [go_sem])
          have y4 : A.eval (.tmp 4) = _ := hf 4
          have y5 : A.eval (.tmp 5) = _ := Eq.trans (hf 5) (by conv => lhs; simp [go_sem])
          have y6 : A.eval (.tmp 6) = _ := Eq.trans (hf 6) (by conv => lhs; simp [go_sem])
          have y7 : A.eval (.tmp 7) = _ := Eq.trans (hf 7) (by conv => lhs; simp [go_sem])
          have y8 : A.eval (.tmp 8) = _ := Eq.trans (hf 8) (by conv => lhs; simp [go_sem])
          have y9 : A.eval (.tmp 9) = _ := Eq.trans (hf 9) (by conv => lhs; simp [go_sem])
          have y10 : A.eval (.tmp 10) = _ := Eq.trans (hf 10) (by conv => lhs; simp [go_sem])
          have y11 : A.eval (.tmp 11) = _ := Eq.trans (hf 11) (by conv => lhs; simp [go_sem])
          have y12 : A.eval (.tmp 12) = _ := Eq.trans (hf 12) (by conv => lhs; simp [go_sem])
          have y13 : A.eval (.tmp 13) = _ := Eq.trans (hf 13) (by conv => lhs; simp [go_sem])
          have y14 : A.eval (.tmp 14) = _ := Eq.trans (hf 14) (by conv => lhs; simp [go_sem])
          have y15 : A.eval (.tmp 15) = _ := Eq.trans (hf 15) (by conv => lhs; simp [go_sem])
          have y16 : A.eval (.tmp 16) = _ := Eq.trans (hf 16) (by conv => lhs; simp [go_sem])
          have y17 : A.eval (.tmp 17) = _ := Eq.trans (hf 17) (by conv => lhs; simp [go_sem])
          have y18 : A.eval (.tmp 18) = _ := hf 18
          have y19 : A.eval (.tmp 19) = _ := hf 19
          have y20 : A.eval (.tmp 20) = _ := hf 20
          have y21 : A.eval (.tmp 21) = _ := hf 21
          have y22 : A.eval (.tmp 22) = _ := hf 22
          have y23 : A.eval (.tmp 23) = _ := hf 23
          have y24 : A.eval (.tmp 24) = _ := hf 24
          have y25 : A.eval (.tmp 25) = _ := hf 25
          have y26 : A.eval (.tmp 26) = _ := hf 26
          have y27 : A.eval (.tmp 27) = _ := hf 27
          have y28 : A.eval (.tmp 28) = _ := hf 28
          have y29 : A.eval (.tmp 29) = _ := hf 29
          have y30 : A.eval (.tmp 30) = _ := hf 30
          have y31 : A.eval (.tmp 31) = _ := hf 31
          have y32 : A.eval (.tmp 32) = _ := hf 32
          have y33 : A.eval (.tmp 33) = _ := hf 33
          have y34 : A.eval (.tmp 34) = _ := hf 34
          have y35 : A.eval (.tmp 35) = _ := hf 35
          have y36 : A.eval (.tmp 36) = _ := hf 36
          have y37 : A.eval (.tmp 37) = _ := hf 37
          have y38 : A.eval (.tmp 38) = _ := hf 38
          have y39 : A.eval (.tmp 39) = _ := hf 39
          have y40 : A.eval (.tmp 40) = _ := hf 40
          have y41 : A.eval (.tmp 41) = _ := hf 41
          clear hf
          have hA := frame_eq hn
          rw [show List.range 42 = [0, 1, 2, 3, 4, 5, 6, 7, 8, 9, 10, 11, 12, 13, 14, 15, 16, 17, 18, 19, 20, 21, 22, 23, 24, 25, 26, 27, 28, 29, 30, 31, 32, 33, 34, 35, 36, 37, 38, 39, 40, 41] from rfl, hd] at hA
          simp only [List.map_cons, List.map_nil, y0, y1, y2, y3, y4, y5, y6, y7, y8, y9, y10, y11, y12, y13, y14, y15, y16, y17, y18, y19, y20, y21, y22, y23, y24, y25, y26, y27, y28, y29, y30, y31, y32, y33, y34, y35, y36, y37, y38, y39, y40, y41] at hA
          clear y0 y1 y2 y3 y4 y5 y6 y7 y8 y9 y10 y11 y12 y13 y14 y15 y16 y17 y18 y19 y20 y21 y22 y23 y24 y25 y26 y27 y28 y29 y30 y31 y32 y33 y34 y35 y36 y37 y38 y39 y40 y41
          clear hn hd
          subst hA
          go_wp2_with fail
          go_ret
          exact ⟨ret_bool (by rw [← HR.out]; unfold hasE; simp [a1', b1, b2']), HB.out.trans (hC.mono HB.out.size)⟩
      · have b1' : decide (1 ≤ K) = false := decide_eq_false b1
        refine wp_region_typed (C := fun w' => Below V.heap.size V w') (X := fun w w' => Below w.heap.size w w') (n := 42) (by kernel_rfl) (by kernel_rfl) rfl (fun w => Below.refl _ w) (Below.refl _ _).drew ?_
        refine w_is (fun w => Below.refl _ w) _ (.inl rfl) (fun ρ w hC hc hfn hf => by have e5 : ρ (.tmp 5) = _ := hf 5 (by decide); (conv => lhs; simp [execOp, go_sem, hc, e5])) ?_
        refine w_is (fun w => Below.refl _ w) _ (.inl rfl) (fun ρ w hC hc hfn hf => by have e18 : ρ (.tmp 18) = _ := hf 18 (by decide); (conv => lhs; simp [execOp, go_sem, hc, e18, a1])) ?_
        refine w_is (fun w => Below.refl _ w) _ (.inl rfl) (fun ρ w hC hc hfn hf => by have e19 : ρ (.tmp 19) = _ := hf 19 (by decide); (conv => lhs; simp [execOp, go_sem, hc, e19])) ?_
        refine w_skip rfl rfl (known_is rfl) ?_
        refine w_skip rfl rfl (known_is rfl) ?_
        refine w_is (fun w => Below.refl _ w) _ (.inl rfl) (fun ρ w hC hc hfn hf => by have e20 : ρ (.tmp 20) = _ := hf 20 (by decide); have e22 : ρ (.tmp 22) = _ := hf 22 (by decide); (conv => lhs; simp [execOp, go_sem, hc, e20, e22])) ?_
        refine w_is (fun w => Below.refl _ w) _ (.inl rfl) (fun ρ w hC hc hfn hf => by have e23 : ρ (.tmp 23) = _ := hf 23 (by decide); (conv => lhs; simp [execOp, go_sem, hc, e23])) ?_
        refine w_is (fun w => Below.refl _ w) _ (.inr ⟨6, 24, false, rfl, rfl, known_is rfl⟩) (fun ρ w hC hc hfn hf => by have e6 : ρ (.tmp 6) = _ := hf 6 (by decide); (conv => lhs; simp [execOp, go_sem, hc, e6])) ?_
        refine w_is (fun w => Below.refl _ w) _ (.inr ⟨6, 24, false, rfl, rfl, known_is rfl⟩) (fun ρ w hC hc hfn hf => by have e25 : ρ (.tmp 25) = _ := hf 25 (by decide); (conv => lhs; simp [execOp, go_sem, hc, e25, b1])) ?_
        refine w_is (fun w => Below.refl _ w) _ (.inr ⟨6, 24, false, rfl, rfl, known_is rfl⟩) (fun ρ w hC hc hfn hf => by have e26 : ρ (.tmp 26) = _ := hf 26 (by decide); (conv => lhs; simp [execOp, go_sem, hc, e26])) ?_
        refine w_skip rfl rfl (known_is rfl) ?_
        refine w_skip rfl rfl (known_is rfl) ?_
        refine w_is (fun w => Below.refl _ w) _ (.inr ⟨6, 24, false, rfl, rfl, known_is rfl⟩) (fun ρ w hC hc hfn hf => by have e27 : ρ (.tmp 27) = _ := hf 27 (by decide); have e29 : ρ (.tmp 29) = _ := hf 29 (by decide); (conv => lhs; simp [execOp, go_sem, hc, e27, e29])) ?_
        refine w_is (fun w => Below.refl _ w) _ (.inr ⟨6, 24, false, rfl, rfl, known_is rfl⟩) (fun ρ w hC hc hfn hf => by have e30 : ρ (.tmp 30) = _ := hf 30 (by decide); (conv => lhs; simp [execOp, go_sem, hc, e30])) ?_
        refine w_skip rfl rfl (known_is rfl) ?_
        refine w_skip rfl rfl (known_is rfl) ?_
        refine w_skip rfl rfl (known_is rfl) ?_
        refine w_skip rfl rfl (known_is rfl) ?_
        refine w_skip rfl rfl (known_is rfl) ?_
        refine w_skip rfl rfl (known_is rfl) ?_
        refine w_skip rfl rfl (known_is rfl) ?_
        refine w_skip rfl rfl (known_is rfl) ?_
        refine w_is (fun w => Below.refl _ w) _ (.inr ⟨6, 24, false, rfl, rfl, known_is rfl⟩) (fun ρ w hC hc hfn hf => by have e31 : ρ (.tmp 31) = _ := hf 31 (by decide); have e39 : ρ (.tmp 39) = _ := hf 39 (by decide); (conv => lhs; simp [execOp, go_sem, hc, e31, e39])) ?_
        refine w_is (fun w => Below.refl _ w) _ (.inl rfl) (fun ρ w hC hc hfn hf => by have e24 : ρ (.tmp 24) = _ := hf 24 (by decide); have e40 : ρ (.tmp 40) = _ := hf 40 (by decide); (conv => lhs; simp [execOp, go_sem, hc, e24, e40])) ?_
        refine w_is (fun w => Below.refl _ w) _ (.inl rfl) (fun ρ w hC hc hfn hf => by have e41 : ρ (.tmp 41) = _ := hf 41 (by decide); (conv => lhs; simp [execOp, go_sem, hc, e41])) ?_
        intro A V5 hC hn hd hf
        have y0 : A.eval (.tmp 0) = _ := Eq.trans (hf 0) (by conv => lhs; simp [go_sem])
        have y1 : A.eval (.tmp 1) = _ := Eq.trans (hf 1) (by conv => lhs; simp [go_sem])
        have y2 : A.eval (.tmp 2) = _ := Eq.trans (hf 2) (by conv => lhs; simp [go_sem])
        have y3 : A.eval (.tmp 3) = _ := Eq.trans (hf 3) (by conv => lhs; simp [go_sem])
        have y4 : A.eval (.tmp 4) = _ := hf 4
        have y5 : A.eval (.tmp 5) = _ := Eq.trans (hf 5) (by conv => lhs; simp [go_sem])
        have y6 : A.eval (.tmp 6) = _ := Eq.trans (hf 6) (by conv => lhs; simp [go_sem])
        have y7 : A.eval (.tmp 7) = _ := Eq.trans (hf 7) (by conv => lhs; simp [go_sem])
        have y8 : A.eval (.tmp 8) = _ := Eq.trans (hf 8) (by conv => lhs; simp [go_sem])
        have y9 : A.eval (.tmp 9) = _ := Eq.trans (hf 9) (by conv => lhs; simp [go_sem])
        have y10 : A.eval (.tmp 10) = _ := Eq.trans (hf 10) (by conv => lhs; simp [go_sem])
        have y11 : A.eval (.tmp 11) = _ := Eq.trans (hf 11) (by conv => lhs; simp [go_sem])
        have y12 : A.eval (.tmp 12) = _ := Eq.trans (hf 12) (by conv => lhs; simp [go_sem])
        have y13 : A.eval (.tmp 13) = _ := Eq.trans (hf 13) (by conv => lhs; simp [go_sem])
        have y14 : A.eval (.tmp 14) = _ := Eq.trans (hf 14) (by conv => lhs; simp [go_sem])
        have y15 : A.eval (.tmp 15) = _ := Eq.trans (hf 15) (by conv => lhs; simp [go_sem])
        have y16 : A.eval (.tmp 16) = _ := Eq.trans (hf 16) (by conv => lhs; simp [go_sem])
        have y17 : A.eval (.tmp 17) = _ := Eq.trans (hf 17) (by conv => lhs; simp [go_sem])
        have y18 : A.eval (.tmp 18) = _ := hf 18
        have y19 : A.eval (.tmp 19) = _ := hf 19
        have y20 : A.eval (.tmp 20) = _ := hf 20
        have y21 : A.eval (.tmp 21) = _ := hf 21
        have y22 : A.eval (.tmp 22) = _ := hf 22
        have y23 : A.eval (.tmp 23) = _ := hf 23
        have y24 : A.eval (.tmp 24) = _ := hf 24
        have y25 : A.eval (.tmp 25) = _ := hf 25
        have y26 : A.eval (.tmp 26) = _ := hf 26
        have y27 : A.eval (.tmp 27) = _ := hf 27
        have y28 : A.eval (.tmp 28) = _ := hf 28
        have y29 : A.eval (.tmp 29) = _ := hf 29
        have y30 : A.eval (.tmp 30) = _ := hf 30
        have y31 : A.eval (.tmp 31) = _ := hf 31
        have y32 : A.eval (.tmp 32) = _ := hf 32
        have y33 : A.eval (.tmp 33) = _ := hf 33
        have y34 : A.eval (.tmp 34) = _ := hf 34
        have y35 : A.eval (.tmp 35) = _ := hf 35
        have y36 : A.eval (.tmp 36) = _ := hf 36
        have y37 : A.eval (.tmp 37) = _ := hf 37
        have y38 : A.eval (.tmp 38) = _ := hf 38
        have y39 : A.eval (.tmp 39) = _ := hf 39
        have y40 : A.eval (.tmp 40) = _ := hf 40
        have y41 : A.eval (.tmp 41) = _ := hf 41
        clear hf
        have hA := frame_eq hn
        rw [show List.range 42 = [0, 1, 2, 3, 4, 5, 6, 7, 8, 9, 10, 11, 12, 13, 14, 15, 16, 17, 18, 19, 20, 21, 22, 23, 24, 25, 26, 27, 28, 29, 30, 31, 32, 33, 34, 35, 36, 37, 38, 39, 40, 41] from rfl, hd] at hA
        simp only [List.map_cons, List.map_nil, y0, y1, y2, y3, y4, y5, y6, y7, y8, y9, y10, y11, y12, y13, y14, y15, y16, y17, y18, y19, y20, y21, y22, y23, y24, y25, y26, y27, y28, y29, y30, y31, y32, y33, y34, y35, y36, y37, y38, y39, y40, y41] at hA
        clear y0 y1 y2 y3 y4 y5 y6 y7 y8 y9 y10 y11 y12 y13 y14 y15 y16 y17 y18 y19 y20 y21 y22 y23 y24 y25 y26 y27 y28 y29 y30 y31 y32 y33 y34 y35 y36 y37 y38 y39 y40 y41
        clear hn hd
        subst hA
        go_wp2_with fail
        go_ret
        exact ⟨ret_bool (by rw [← HR.out]; unfold hasE; simp [a1', b1']), HB.out.trans (hC.mono HB.out.size)⟩
end Go.Proofs.Yticjeknadddhoaa

