/- What came as an ack: the program's Of. No conditions but on lengths. -/
import Derived.Test.YtfiaghfaijlfjaaAq1
import Derived.Test.YtfiaghfaijlfjaaTyp4
namespace Go.Proofs.Ytfiaghfaijlfjaa
set_option maxRecDepth 100000
open Go.RowKit

theorem mk_tb (x : Int) (cs : List Int) (i : Nat) : (mk x cs 16).toNat.testBit i = (decide (i < 16) && hit x cs i) := by
  have hb := mk_bd x cs 16
  rw [pow2_16] at hb
  rcases Nat.lt_or_ge i 16 with h | h
  · have h1 := mk_bit x cs 16 i h
    rw [pow2_eq] at h1
    obtain ⟨a, ha⟩ := Int.eq_ofNat_of_zero_le hb.1
    rw [ha] at h1 ⊢
    rw [Int.toNat_natCast, Nat.testBit_eq_decide_div_mod_eq, decide_eq_true h, Bool.true_and]
    have h2 : a / 2 ^ i % 2 = 1 ↔ hit x cs i = true := by rw [← h1]; exact ⟨fun e => by exact_mod_cast e, fun e => by exact_mod_cast e⟩
    cases hq : hit x cs i with
    | true => exact decide_eq_true (h2.2 hq)
    | false => exact decide_eq_false fun e => by rw [h2.1 e] at hq; cases hq
  · rw [decide_eq_false (by omega), Bool.false_and]
    refine Nat.testBit_lt_two_pow ?_
    have : (2 : Nat) ^ 16 ≤ 2 ^ i := Nat.pow_le_pow_right (by decide) h
    have h3 : (2 : Nat) ^ 16 = 65536 := by decide
    omega
theorem bitF_tb (k : Int) (i : Nat) : (bitF k).toNat.testBit i = (decide (i < 16) && decide (k = (i : Int) + 1)) := by
  unfold bitF
  split
  · rename_i h
    rw [pow2_eq, Int.toNat_natCast, Nat.testBit_two_pow]
    by_cases h1 : k = (i : Int) + 1
    · rw [decide_eq_true (show (k - 1).toNat = i by omega), decide_eq_true h1, decide_eq_true (show i < 16 by omega)]; rfl
    · rw [decide_eq_false (show ¬ (k - 1).toNat = i by omega), decide_eq_false h1, Bool.and_false]
  · rename_i h
    rw [Int.toNat_zero, Nat.zero_testBit]
    by_cases h1 : k = (i : Int) + 1
    · rw [decide_eq_false (show ¬ i < 16 by omega), Bool.false_and]
    · rw [decide_eq_false h1, Bool.and_false]
theorem bitF_bd (k : Int) : 0 ≤ bitF k ∧ bitF k ≤ 65536 := by
  unfold bitF
  split
  · have := pow2_pos (k - 1).toNat; have := pow2_small (n := (k - 1).toNat) (by omega); omega
  · omega
/-- One more that came. -/
theorem or_mk (x c : Int) (cs : List Int) : bits .or .i64 (mk x cs 16) (bitF (far x c)) = mk x (cs ++ [c]) 16 := by
  have h1 := mk_bd x cs 16
  have h2 := bitF_bd (far x c)
  have h3 := mk_bd x (cs ++ [c]) 16
  rw [pow2_16] at h1 h3
  have e1 : mk x cs 16 = ((mk x cs 16).toNat : Int) := by omega
  have e2 : bitF (far x c) = ((bitF (far x c)).toNat : Int) := by omega
  have h62 : (2 : Nat) ^ 62 = 4611686018427387904 := by decide
  rw [e1, e2, (bits_nat .i64 62 (by decide) wr62 _ _ (by omega) (by omega)).2]
  have e3 : mk x (cs ++ [c]) 16 = ((mk x (cs ++ [c]) 16).toNat : Int) := by omega
  rw [e3]
  congr 1
  apply Nat.eq_of_testBit_eq
  intro i
  rw [Nat.testBit_or, mk_tb, bitF_tb, mk_tb, ← Bool.and_or_distrib_left]
  congr 1
  unfold hit
  rw [List.any_append]
  congr 1
  rw [Bool.eq_iff_iff]; simp
set_option maxHeartbeats 32000000 in
theorem akof_ok (x : Int) (v : Value) (cs : List Int) (w : World) (hx : 0 ≤ x ∧ x ≤ 65535) (hv : Zs w v cs) (hl : cs.length ≤ 1000) :
    Calls Try.prog 21 #[.int .i64 x, v] w fun e w' => e = .returned (.tuple #[.agg #[.int .i64 0, .int .i64 0, .int .i64 x, .int .i64 (mk x cs 16)], .int .i64 0]) ∧ Below w.heap.size w w' := by
  have HV := Lib.hid hv
  obtain ⟨a, c, rfl, -, -, -⟩ := Zs_open hv
  clear hv
  have HS := Lib.hid ((shB_iff x).2 hx)
  go_enter Try.func21, Try.ntmps21
  go_wp2_with fail
  refine (akshort_any x _).mono ?_
  rintro e w1 ⟨rfl, hw⟩
  subst hw
  rw [HS.out]
  go_wp2_with fail
  obtain ⟨V, hVe⟩ : ∃ V, (w.alloc (.cells #[.int .i64 0, .int .i64 0, .int .i64 0, .int .i64 0] 44)).alloc (.cells #[.int .i64 0, .int .i64 0, .int .i64 x, .int .i64 0] 44) = V := ⟨_, rfl⟩
  have hs1 : (w.alloc (.cells #[.int .i64 0, .int .i64 0, .int .i64 0, .int .i64 0] 44)).heap.size = w.heap.size + 1 := by simp
  have hb1 : Below w.heap.size w (w.alloc (.cells #[.int .i64 0, .int .i64 0, .int .i64 0, .int .i64 0] 44)) := (Below.refl _ w).alloc (Nat.le_refl _) _
  have OA := owna_alloc (w.alloc (.cells #[.int .i64 0, .int .i64 0, .int .i64 0, .int .i64 0] 44)) 0 0 x 0 44 (w.heap.size + 1) hs1.symm
  have OR := (owna_alloc w 0 0 0 0 44 w.heap.size rfl).below ((Below.refl _ _).alloc (Nat.le_refl _) (.cells #[.int .i64 0, .int .i64 0, .int .i64 x, .int .i64 0] 44))
  have HB : Below w.heap.size w ((w.alloc (.cells #[.int .i64 0, .int .i64 0, .int .i64 0, .int .i64 0] 44)).alloc (.cells #[.int .i64 0, .int .i64 0, .int .i64 x, .int .i64 0] 44)) := hb1.alloc (by omega) _
  rw [hVe] at OA OR HB
  rw [hVe]
  clear hVe hs1 hb1
  have OA0 := Lib.hid OA
  have OR0 := Lib.hid OR
  have HB0 := Lib.hid HB
  clear OA OR HB
  go_loopw [20] (fun i wr => ∃ j : Nat, j ≤ cs.length ∧ i = .int .i64 (j : Int) ∧ OwnA wr (w.heap.size + 1) (0, 0, x, mk x (cs.take j) 16) ∧ OwnA wr w.heap.size (0, 0, 0, 0) ∧ Below w.heap.size w wr) (fun i _ => cs.length - (intOf i).toNat)
  case atStart => exact ⟨0, Nat.zero_le _, rfl, OA0.out, OR0.out, HB0.out⟩
  case round =>
    obtain ⟨j, hj, rfl, oa, or, hbel⟩ := hrel
    have OA := Lib.hid oa
    have OR := Lib.hid or
    have HW := Lib.hid hbel
    clear oa or hbel OA0 OR0 HB0
    by_cases hlj : j < cs.length
    · have HZ := Lib.hid (Zs_below HV.out HW.out)
      obtain ⟨a', c', hv1, -, -, hcs⟩ := Zs_open HZ.out
      simp only [Value.slice.injEq] at hv1
      obtain ⟨rfl, -, rfl⟩ := hv1
      obtain ⟨b, off, rfl, p0⟩ := hcs j hlj
      clear hcs
      obtain ⟨y, hy⟩ : ∃ y, cs.getD j 0 = y := ⟨_, rfl⟩
      rw [hy] at p0
      have HT : Hid (mk x (cs.take (j + 1)) 16 = bits .or .i64 (mk x (cs.take j) 16) (bitF (far x y))) := by
        show _ = _
        rw [or_mk, List.take_succ_eq_append_getElem hlj, ← hy]
        simp [List.getD, hlj]
      have cB := fun W => akbit_any x y W
      obtain ⟨m, hm⟩ : ∃ m, mk x (cs.take j) 16 = m := ⟨_, rfl⟩
      rw [hm] at HT OA
      generalize bitF (far x y) = B at *
      obtain ⟨M, hM⟩ : ∃ M, bits .or .i64 m B = M := ⟨_, rfl⟩
      rw [hM] at HT
      clear hy hm
      go_wp2_with fail
      clear p0
      have kc : ∀ w', Below wr.heap.size wr w' → w'.cell? ⟨w.heap.size + 1, 3, none⟩ = some (.int .i64 m) := fun w' h => (OA.out.below h).1.2.2.2
      refine T3.wp_region_tail (C := fun w' => Below wr.heap.size wr w') (X := fun _ w w' => Below w.heap.size w w') (n := 33) 7 (by kernel_rfl) (by kernel_rfl) (by kernel_rfl) (by kernel_rfl) rfl (fun _ w => Below.refl _ w) (Below.refl _ _).drew ?_
      simp only [List.take_succ_cons, List.take_zero, List.drop_succ_cons, List.drop_zero]
      refine T3.w_is (fun _ w => Below.refl _ w) rfl _ (.inl rfl) (fun ρ w hC hc hfn hf => by have e6 : ρ (.tmp 6) = _ := hf 6 (by decide); (conv => lhs; simp [execOp, go_sem, hc, e6])) ?_
      refine T3.w_is (fun _ w => Below.refl _ w) rfl _ (.inl rfl) (fun ρ w hC hc hfn hf => by have e24 : ρ (.tmp 24) = _ := hf 24 (by decide); (conv => lhs; simp [execOp, go_sem, hc, e24, kc w hC])) ?_
      refine T3.w_is (fun _ w => Below.refl _ w) rfl _ (.inl rfl) (fun ρ w hC hc hfn hf => by have e7 : ρ (.tmp 7) = _ := hf 7 (by decide); (conv => lhs; simp [execOp, go_sem, hc, e7])) ?_
      refine T3.w_is (fun _ w => Below.refl _ w) rfl _ (.inl rfl) (fun ρ w hC hc hfn hf => by have e9 : ρ (.tmp 9) = _ := hf 9 (by decide); (conv => lhs; simp [execOp, go_sem, hc, e9])) ?_
      refine T3.w_call rfl (Is _) (fun _ _ _ _ _ h _ => h) 31 (.inl rfl) (fun ρ w hC hc hfn hf => by have e26 : ρ (.tmp 26) = _ := hf 26 (by decide); have e27 : ρ (.tmp 27) = _ := hf 27 (by decide); exact ⟨_, by (conv => lhs; simp [execOp, resolve, invoke, go_sem, hc, hfn, e26, e27]), (cB w).mono fun e w' h => ⟨_, h.1, hC.trans (h.2.mono hC.size), h.2, rfl⟩⟩) ?_
      refine T3.w_is (fun _ w => Below.refl _ w) rfl _ (.inl rfl) (fun ρ w hC hc hfn hf => by have e25 : ρ (.tmp 25) = _ := hf 25 (by decide); have e28 : ρ (.tmp 28) = _ := hf 28 (by decide); (conv => lhs; simp [execOp, go_sem, hc, e25, e28, hM])) ?_
      refine T3.w_is (fun _ w => Below.refl _ w) rfl _ (.inl rfl) (fun ρ w hC hc hfn hf => by have e6 : ρ (.tmp 6) = _ := hf 6 (by decide); (conv => lhs; simp [execOp, go_sem, hc, e6])) ?_
      intro A V5 hC hn hd hf
      have y0 : A.eval (.tmp 0) = _ := Eq.trans (hf 0) (by conv => lhs; simp [go_sem])
      have y1 : A.eval (.tmp 1) = _ := Eq.trans (hf 1) (by conv => lhs; simp [go_sem])
      have y2 : A.eval (.tmp 2) = _ := Eq.trans (hf 2) (by conv => lhs; simp [go_sem])
      have y3 : A.eval (.tmp 3) = _ := Eq.trans (hf 3) (by conv => lhs; simp [go_sem])
      have y4 : A.eval (.tmp 4) = _ := Eq.trans (hf 4) (by conv => lhs; simp [go_sem])
      have y5 : A.eval (.tmp 5) = _ := Eq.trans (hf 5) (by conv => lhs; simp [go_sem])
      have y6 : A.eval (.tmp 6) = _ := Eq.trans (hf 6) (by conv => lhs; simp [go_sem])
      have y7 : A.eval (.tmp 7) = _ := Eq.trans (hf 7) (by conv => lhs; simp [go_sem])
      have y8 : A.eval (.tmp 8) = _ := Eq.trans (hf 8) (by conv => lhs; simp [go_sem])
      have y9 : A.eval (.tmp 9) = _ := Eq.trans (hf 9) (by conv => lhs; simp [go_sem])
      have y10 : A.eval (.tmp 10) = _ := Eq.trans (hf 10) (by conv => lhs; simp [go_sem])
      have y11 : A.eval (.tmp 11) = _ := Eq.trans (hf 11) (by conv => lhs; simp [go_sem])
      have y12 : A.eval (.tmp 12) = _ := Eq.trans (hf 12) (by conv => lhs; simp [go_sem])
      have y13 : A.eval (.tmp 13) = _ := Eq.trans (hf 13) (by conv => lhs; simp [go_sem])
      have y14 : A.eval (.tmp 14) = _ := Eq.trans (hf 14) (by conv => lhs; simp [go_sem])
      have y15 : A.eval (.tmp 15) = _ := Eq.trans (hf 15) (by conv => lhs; simp [go_sem])
      have y16 : A.eval (.tmp 16) = _ := Eq.trans (hf 16) (by conv => lhs; simp [go_sem])
      have y17 : A.eval (.tmp 17) = _ := Eq.trans (hf 17) (by conv => lhs; simp [go_sem])
      have y18 : A.eval (.tmp 18) = _ := Eq.trans (hf 18) (by conv => lhs; simp [go_sem])
      have y19 : A.eval (.tmp 19) = _ := Eq.trans (hf 19) (by conv => lhs; simp [go_sem])
      have y20 : A.eval (.tmp 20) = _ := Eq.trans (hf 20) (by conv => lhs; simp [go_sem])
      have y21 : A.eval (.tmp 21) = _ := Eq.trans (hf 21) (by conv => lhs; simp [go_sem])
      have y22 : A.eval (.tmp 22) = _ := Eq.trans (hf 22) (by conv => lhs; simp [go_sem])
      have y23 : A.eval (.tmp 23) = _ := Eq.trans (hf 23) (by conv => lhs; simp [go_sem])
      have y24 : A.eval (.tmp 24) = _ := hf 24
      have y25 : A.eval (.tmp 25) = _ := hf 25
      have y26 : A.eval (.tmp 26) = _ := hf 26
      have y27 : A.eval (.tmp 27) = _ := hf 27
      have y28 : A.eval (.tmp 28) = _ := hf 28
      have y29 : A.eval (.tmp 29) = _ := hf 29
      have y30 : A.eval (.tmp 30) = _ := hf 30
      have y31 : A.eval (.tmp 31) = _ := Eq.trans (hf 31) (by conv => lhs; simp [go_sem])
      have y32 : A.eval (.tmp 32) = _ := Eq.trans (hf 32) (by conv => lhs; simp [go_sem])
      clear hf
      have hA := frame_eq hn
      rw [show List.range 33 = [0, 1, 2, 3, 4, 5, 6, 7, 8, 9, 10, 11, 12, 13, 14, 15, 16, 17, 18, 19, 20, 21, 22, 23, 24, 25, 26, 27, 28, 29, 30, 31, 32] from rfl, hd] at hA
      simp only [List.map_cons, List.map_nil, y0, y1, y2, y3, y4, y5, y6, y7, y8, y9, y10, y11, y12, y13, y14, y15, y16, y17, y18, y19, y20, y21, y22, y23, y24, y25, y26, y27, y28, y29, y30, y31, y32] at hA
      clear y0 y1 y2 y3 y4 y5 y6 y7 y8 y9 y10 y11 y12 y13 y14 y15 y16 y17 y18 y19 y20 y21 y22 y23 y24 y25 y26 y27 y28 y29 y30 y31 y32
      clear hn hd
      subst hA
      have OA1 := Lib.hid (OA.out.below hC)
      have OR1 := Lib.hid (OR.out.below hC)
      have HW1 : Hid (Below w.heap.size w V5) := HW.out.trans (hC.mono HW.out.size)
      obtain ⟨⟨z0, z1, z2, z3⟩, zf⟩ := OA1.out
      go_wp2_with fail
      go_roundw
      case rel => exact ⟨j + 1, by omega, by go_num, by rw [HT.out]; exact OA1.out.set3 _, OR1.out.apart (by omega) 3, HW1.out.setCell (p := ⟨_, _, _⟩) (by simp) _⟩
      case measure => simp [intOf]; omega
    · obtain rfl : j = cs.length := by omega
      rw [List.take_length] at OA
      obtain ⟨⟨z0, z1, z2, z3⟩, zf⟩ := OR.out
      obtain ⟨⟨y0, y1, y2, y3⟩, yf⟩ := OA.out
      go_wp2_with fail
      have hs := (OR.out.set 0 0 x (mk x cs 16)).1
      have hbs := bel_put4 (b := w.heap.size) HW.out (Nat.le_refl _) 0 0 x (mk x cs 16)
      simp only [put4] at hs hbs
      generalize (((wr.setCell ⟨w.heap.size, 0, none⟩ (.int .i64 0)).setCell ⟨w.heap.size, 1, none⟩ (.int .i64 0)).setCell ⟨w.heap.size, 2, none⟩ (.int .i64 x)).setCell ⟨w.heap.size, 3, none⟩ (.int .i64 (mk x cs 16)) = W5 at *
      obtain ⟨s0_, s1_, s2_, s3_⟩ := hs
      exact bodyPost_ret (v := .tuple #[.agg #[.int .i64 0, .int .i64 0, .int .i64 x, .int .i64 (mk x cs 16)], .int .i64 0]) (by simp [results, Try.results21, go_sem, s0_, s1_, s2_, s3_]) rfl ⟨rfl, hbs⟩
end Go.Proofs.Ytfiaghfaijlfjaa

