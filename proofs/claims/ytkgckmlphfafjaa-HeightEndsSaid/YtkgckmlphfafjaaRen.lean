/- The least and the greatest height of a row: the reference's Ends. No conditions but that the row is of a hundred at most. -/
import Derived.Test.YtkgckmlphfafjaaEnd
import Derived.Test.YtkgckmlphfafjaaRht
namespace Go.Proofs.Ytkgckmlphfafjaa
open Go.RowKit Go.Sort

def OwnH (W : World) (b : Nat) (x : H6) : Prop := Own6 W b x.1 x.2.1 x.2.2.1 x.2.2.2.1 x.2.2.2.2.1 x.2.2.2.2.2
theorem OwnH.below {W w' : World} {b : Nat} {x : H6} (h : OwnH W b x) (hb : Below W.heap.size W w') : OwnH w' b x := Own6.below h hb
def AllR (w W : World) (lo hi : H6) : Prop := OwnH W (w.heap.size + 1 + 1) lo ∧ OwnH W (w.heap.size + 1 + 1 + 1) hi ∧ OwnH W w.heap.size z6 ∧ OwnH W (w.heap.size + 1) z6 ∧ Below w.heap.size w W
theorem AllR.keep {w W W' : World} {lo hi : H6} (h : AllR w W lo hi) (hb : Below W.heap.size W W') : AllR w W' lo hi := by
  obtain ⟨h1, h2, h3, h4, h5⟩ := h
  exact ⟨h1.below hb, h2.below hb, h3.below hb, h4.below hb, h5.trans (hb.mono h5.size)⟩
def put6 (W : World) (b : Nat) (x : H6) : World := (((((W.setCell ⟨b, 0, none⟩ (.bool x.1)).setCell ⟨b, 1, none⟩ (.int .i64 x.2.1)).setCell ⟨b, 2, none⟩ (.int .i64 x.2.2.1)).setCell ⟨b, 3, none⟩ (.int .i64 x.2.2.2.1)).setCell ⟨b, 4, none⟩ (.int .i64 x.2.2.2.2.1)).setCell ⟨b, 5, none⟩ (.int .i64 x.2.2.2.2.2)
theorem put_same {W : World} {b : Nat} {y : H6} (x : H6) (h : OwnH W b y) : OwnH (put6 W b x) b x := by
  refine ⟨set6 h.1 _ _ _ _ _ _, fun k => ?_⟩
  unfold put6
  simp [go_sem, h.2 k]
theorem put_other {W : World} {b c : Nat} {y : H6} (x : H6) (hne : c ≠ b) (h : OwnH W c y) : OwnH (put6 W b x) c y := by
  obtain ⟨⟨h0, h1, h2, h3, h4, h5⟩, h6⟩ := h
  unfold put6
  refine ⟨⟨?_, ?_, ?_, ?_, ?_, ?_⟩, fun k => ?_⟩
  all_goals simp [go_sem, h0, h1, h2, h3, h4, h5, h6]
theorem AllR.low {w W : World} {lo hi : H6} (h : AllR w W lo hi) (x : H6) : AllR w (put6 W (w.heap.size + 1 + 1) x) x hi := by
  obtain ⟨h1, h2, h3, h4, h5⟩ := h
  exact ⟨put_same x h1, put_other x (by omega) h2, put_other x (by omega) h3, put_other x (by omega) h4, bel_set6 h5 (by omega) _ _ _ _ _ _⟩
theorem AllR.high {w W : World} {lo hi : H6} (h : AllR w W lo hi) (x : H6) : AllR w (put6 W (w.heap.size + 1 + 1 + 1) x) lo x := by
  obtain ⟨h1, h2, h3, h4, h5⟩ := h
  exact ⟨put_other x (by omega) h1, put_same x h2, put_other x (by omega) h3, put_other x (by omega) h4, bel_set6 h5 (by omega) _ _ _ _ _ _⟩

theorem at_start (w : World) : AllR w ((((w.alloc (.cells #[.bool false, .int .i64 0, .int .i64 0, .int .i64 0, .int .i64 0, .int .i64 0] 23)).alloc (.cells #[.bool false, .int .i64 0, .int .i64 0, .int .i64 0, .int .i64 0, .int .i64 0] 23)).alloc (.cells #[.bool false, .int .i64 0, .int .i64 0, .int .i64 0, .int .i64 0, .int .i64 0] 23)).alloc (.cells #[.bool false, .int .i64 0, .int .i64 0, .int .i64 0, .int .i64 0, .int .i64 0] 23)) z6 z6 := by
  have k : ∀ (W : World) (g : Nat), g = W.heap.size → OwnH (W.alloc (.cells #[.bool false, .int .i64 0, .int .i64 0, .int .i64 0, .int .i64 0, .int .i64 0] 23)) g z6 := fun W g h => own6_alloc W false 0 0 0 0 0 23 g h
  have bel : ∀ (W : World), Below W.heap.size W (W.alloc (.cells #[.bool false, .int .i64 0, .int .i64 0, .int .i64 0, .int .i64 0, .int .i64 0] 23)) := fun W => (Below.refl _ _).alloc (Nat.le_refl _) _
  refine ⟨(k _ _ (by simp)).below (bel _), k _ _ (by simp), ((((k w w.heap.size rfl).below (bel _)).below (bel _)).below (bel _)), (((k (w.alloc (.cells #[.bool false, .int .i64 0, .int .i64 0, .int .i64 0, .int .i64 0, .int .i64 0] 23)) (w.heap.size + 1) (by simp)).below (bel _)).below (bel _)), ?_⟩
  exact ((((Below.refl _ w).alloc (Nat.le_refl _) _).alloc (by simp) _).alloc (by simp; omega) _).alloc (by simp; omega) _
theorem bv_no {bt : H6 → H6 → Bool} {hs : List H6} {k : Nat} (h : tl (hs.getD k z6) = false) : bv bt hs (k + 1) = bv bt hs k ∧ bany bt hs (k + 1) = bany bt hs k := by
  unfold bv bany; rw [bst_no h]; exact ⟨rfl, rfl⟩
theorem bv_first {bt : H6 → H6 → Bool} {hs : List H6} {k : Nat} (h : tl (hs.getD k z6) = true) (h2 : bany bt hs k = false) : bv bt hs (k + 1) = hs.getD k z6 ∧ bany bt hs (k + 1) = true := by
  have h3 : bst bt hs k = none := by unfold bany at h2; simpa using h2
  unfold bv bany; rw [bst_none h h3]; exact ⟨rfl, rfl⟩
theorem bv_next {bt : H6 → H6 → Bool} {hs : List H6} {k : Nat} (h : tl (hs.getD k z6) = true) (h2 : bany bt hs k = true) : bv bt hs (k + 1) = (if bt (hs.getD k z6) (bv bt hs k) = true then hs.getD k z6 else bv bt hs k) ∧ bany bt hs (k + 1) = true := by
  obtain ⟨q, h3⟩ : ∃ q, bst bt hs k = some q := by unfold bany at h2; exact Option.isSome_iff_exists.1 h2
  unfold bv bany; rw [bst_some h h3, h3]
  by_cases c : bt (hs.getD k z6) (hs.getD q z6) = true
  · rw [if_pos c]; exact ⟨(if_pos c).symm, rfl⟩
  · rw [if_neg c]; exact ⟨(if_neg c).symm, rfl⟩
theorem bany_alike (bt bt' : H6 → H6 → Bool) (hs : List H6) : ∀ k, bany bt hs k = bany bt' hs k := by
  intro k
  induction k with
  | zero => rfl
  | succ k ih =>
    cases h : tl (hs.getD k z6) with
    | false => rw [(bv_no h).2, (bv_no h).2, ih]
    | true =>
      cases h2 : bany bt hs k with
      | false => rw [(bv_first h h2).2, (bv_first h (ih ▸ h2)).2]
      | true => rw [(bv_next h h2).2, (bv_next h (ih ▸ h2)).2]

set_option maxHeartbeats 8000000 in
theorem rends_any (a : Option Addr) (cap : Nat) (hs : List H6) (w : World) (hh : Hs w a hs) (h9 : hs.length ≤ 100) :
    Calls Try.prog 26 #[.slice a hs.length cap] w fun e w' => e = .returned (.tuple #[ag (bv lss hs hs.length), ag (bv mor hs hs.length), .bool (bany lss hs hs.length)]) ∧ Below w.heap.size w w' := by
  have ALK := Lib.hid (bany_alike lss mor hs)
  go_enter Try.func26, Try.ntmps26
  go_wp2_with fail
  go_loopw [7, 8] (fun p i wr => ∃ k : Nat, k ≤ hs.length ∧ i = .int .i64 k ∧ p = .bool (bany lss hs k) ∧ AllR w wr (bv lss hs k) (bv mor hs k)) (fun _ i _ => hs.length - (intOf i).toNat)
  case atStart =>
    refine ⟨0, Nat.zero_le _, rfl, rfl, ?_⟩
    exact at_start w
  case round =>
    obtain ⟨k, hk, rfl, rfl, hA⟩ := hrel
    have HA := Lib.hid hA
    by_cases hlt : k < hs.length
    · obtain ⟨b, off, rfl, hB, hc6, -⟩ := hh k hlt
      have HC := Lib.hid hc6
      have HN1 := Lib.hid (fun h => bv_no (bt := lss) (hs := hs) (k := k) h)
      have HN2 := Lib.hid (fun h => bv_no (bt := mor) (hs := hs) (k := k) h)
      have HF1 := Lib.hid (fun h h2 => bv_first (bt := lss) (hs := hs) (k := k) h h2)
      have HF2 := Lib.hid (fun h h2 => bv_first (bt := mor) (hs := hs) (k := k) h (ALK.out k ▸ h2))
      have HX1 := Lib.hid (fun h h2 => bv_next (bt := lss) (hs := hs) (k := k) h h2)
      have HX2 := Lib.hid (fun h h2 => bv_next (bt := mor) (hs := hs) (k := k) h (ALK.out k ▸ h2))
      generalize hs.getD k z6 = x at *
      generalize bv lss hs k = lo at *
      generalize bv mor hs k = hi at *
      generalize bany lss hs k = any at *
      obtain ⟨n, t, o, r, d, i⟩ := x
      obtain ⟨n1, t1, o1, r1, d1, i1⟩ := lo
      obtain ⟨n2, t2, o2, r2, d2, i2⟩ := hi
      have hi1 : (k : Int) < (hs.length : Int) := by omega
      have hi0 : (0 : Int) ≤ (k : Int) := by omega
      have T0 := Lib.hid (rtold_any n t o r d i)
      have LL := Lib.hid (rless_any n t o r d i n1 t1 o1 r1 d1 i1)
      have LH := Lib.hid (rless_any n2 t2 o2 r2 d2 i2 n t o r d i)
      have hcw : C6 wr b (off + k * 6) (n, t, o, r, d, i) := HC.out.below HA.out.2.2.2.2 hB
      obtain ⟨e0, e1, e2, e3, e4, e5⟩ := hcw
      clear hh hA hc6
      go_wp2_with fail
      refine (T0.out _).mono ?_
      rintro e w1 ⟨rfl, hb⟩
      have A1 := Lib.hid (HA.out.keep hb)
      clear hb e0 e1 e2 e3 e4 e5
      cases hT : told n t o r d i with
      | false =>
        have E1 := Lib.hid (HN1.out hT)
        have E2 := Lib.hid (HN2.out hT)
        go_wp2_with fail
        go_roundw
        case rel => exact ⟨k + 1, by omega, by go_num, by rw [E1.out.2], by rw [E1.out.1, E2.out.1]; exact A1.out⟩
        case measure => simp [intOf]; omega
      | true =>
        clear T0 HN1 HN2
        cases any with
        | false =>
          have E1 := Lib.hid (HF1.out hT rfl)
          have E2 := Lib.hid (HF2.out hT rfl)
          clear HF1 HF2 HX1 HX2 LL LH hT
          go_wp2_with fail
          refine wp_region_typed (C := fun w' => Below w1.heap.size w1 w') (X := fun w w' => Below w.heap.size w w') (n := 52) (by kernel_rfl) (by kernel_rfl) rfl (fun w => Below.refl _ w) (Below.refl _ _).drew ?_
          refine w_is (fun w => Below.refl _ w) _ (.inl rfl) (fun ρ w hC hc hfn hf => by have e7 : ρ (.tmp 7) = _ := hf 7 (by decide); (conv => lhs; simp [execOp, go_sem, hc, e7])) ?_
          refine w_is (fun w => Below.refl _ w) _ (.inl rfl) (fun ρ w hC hc hfn hf => by have e21 : ρ (.tmp 21) = _ := hf 21 (by decide); (conv => lhs; simp [execOp, go_sem, hc, e21])) ?_
          refine w_is (fun w => Below.refl _ w) _ (.inl rfl) (fun ρ w hC hc hfn hf => by have e22 : ρ (.tmp 22) = _ := hf 22 (by decide); (conv => lhs; simp [execOp, go_sem, hc, e22])) ?_
          refine w_skip rfl rfl (known_is rfl) ?_
          refine w_skip rfl rfl (known_is rfl) ?_
          refine w_skip rfl rfl (known_is rfl) ?_
          refine w_skip rfl rfl (known_is rfl) ?_
          refine w_skip rfl rfl (known_is rfl) ?_
          refine w_skip rfl rfl (known_is rfl) ?_
          refine w_is (fun w => Below.refl _ w) _ (.inl rfl) (fun ρ w hC hc hfn hf => by have e23 : ρ (.tmp 23) = _ := hf 23 (by decide); have e29 : ρ (.tmp 29) = _ := hf 29 (by decide); (conv => lhs; simp [execOp, go_sem, hc, e23, e29])) ?_
          intro A W4 hC hn hd hf
          have y0 : A.eval (.tmp 0) = _ := Eq.trans (hf 0) (by conv => lhs; simp [go_sem])
          have y1 : A.eval (.tmp 1) = _ := Eq.trans (hf 1) (by conv => lhs; simp [go_sem])
          have y2 : A.eval (.tmp 2) = _ := Eq.trans (hf 2) (by conv => lhs; simp [go_sem])
          have y3 : A.eval (.tmp 3) = _ := Eq.trans (hf 3) (by conv => lhs; simp [go_sem])
          have y4 : A.eval (.tmp 4) = _ := Eq.trans (hf 4) (by conv => lhs; simp [go_sem])
          have y5 : A.eval (.tmp 5) = _ := Eq.trans (hf 5) (by conv => lhs; simp [go_sem])
          have y6 : A.eval (.tmp 6) = _ := Eq.trans (hf 6) (by conv => lhs; simp [go_sem])
          have y7 : A.eval (.tmp 7) = _ := Eq.trans (hf 7) (by conv => lhs; simp [go_sem])
          have y8 : A.eval (.tmp 8) = _ := Eq.trans (hf 8) (by conv => lhs; simp [go_sem])
          have y9 : A.eval (.tmp 9) = _ := Eq.trans (hf 9) (by conv => lhs; simp [go_sem])
          have y10 : A.eval (.tmp 10) = _ := Eq.trans (hf 10) (by conv => lhs; simp [go_sem])
          have y11 : A.eval (.tmp 11) = _ := Eq.trans (hf 11) (by conv => lhs; simp [go_sem])
          have y12 : A.eval (.tmp 12) = _ := Eq.trans (hf 12) (by conv => lhs; simp [go_sem])
          have y13 : A.eval (.tmp 13) = _ := Eq.trans (hf 13) (by conv => lhs; simp [go_sem])
          have y14 : A.eval (.tmp 14) = _ := Eq.trans (hf 14) (by conv => lhs; simp [go_sem])
          have y15 : A.eval (.tmp 15) = _ := Eq.trans (hf 15) (by conv => lhs; simp [go_sem])
          have y16 : A.eval (.tmp 16) = _ := Eq.trans (hf 16) (by conv => lhs; simp [go_sem])
          have y17 : A.eval (.tmp 17) = _ := Eq.trans (hf 17) (by conv => lhs; simp [go_sem])
          have y18 : A.eval (.tmp 18) = _ := Eq.trans (hf 18) (by conv => lhs; simp [go_sem])
          have y19 : A.eval (.tmp 19) = _ := Eq.trans (hf 19) (by conv => lhs; simp [go_sem])
          have y20 : A.eval (.tmp 20) = _ := Eq.trans (hf 20) (by conv => lhs; simp [go_sem])
          have y21 : A.eval (.tmp 21) = _ := hf 21
          have y22 : A.eval (.tmp 22) = _ := hf 22
          have y23 : A.eval (.tmp 23) = _ := hf 23
          have y24 : A.eval (.tmp 24) = _ := hf 24
          have y25 : A.eval (.tmp 25) = _ := hf 25
          have y26 : A.eval (.tmp 26) = _ := hf 26
          have y27 : A.eval (.tmp 27) = _ := hf 27
          have y28 : A.eval (.tmp 28) = _ := hf 28
          have y29 : A.eval (.tmp 29) = _ := hf 29
          have y30 : A.eval (.tmp 30) = _ := hf 30
          have y31 : A.eval (.tmp 31) = _ := Eq.trans (hf 31) (by conv => lhs; simp [go_sem])
          have y32 : A.eval (.tmp 32) = _ := Eq.trans (hf 32) (by conv => lhs; simp [go_sem])
          have y33 : A.eval (.tmp 33) = _ := Eq.trans (hf 33) (by conv => lhs; simp [go_sem])
          have y34 : A.eval (.tmp 34) = _ := Eq.trans (hf 34) (by conv => lhs; simp [go_sem])
          have y35 : A.eval (.tmp 35) = _ := Eq.trans (hf 35) (by conv => lhs; simp [go_sem])
          have y36 : A.eval (.tmp 36) = _ := Eq.trans (hf 36) (by conv => lhs; simp [go_sem])
          have y37 : A.eval (.tmp 37) = _ := Eq.trans (hf 37) (by conv => lhs; simp [go_sem])
          have y38 : A.eval (.tmp 38) = _ := Eq.trans (hf 38) (by conv => lhs; simp [go_sem])
          have y39 : A.eval (.tmp 39) = _ := Eq.trans (hf 39) (by conv => lhs; simp [go_sem])
          have y40 : A.eval (.tmp 40) = _ := Eq.trans (hf 40) (by conv => lhs; simp [go_sem])
          have y41 : A.eval (.tmp 41) = _ := Eq.trans (hf 41) (by conv => lhs; simp [go_sem])
          have y42 : A.eval (.tmp 42) = _ := Eq.trans (hf 42) (by conv => lhs; simp [go_sem])
          have y43 : A.eval (.tmp 43) = _ := Eq.trans (hf 43) (by conv => lhs; simp [go_sem])
          have y44 : A.eval (.tmp 44) = _ := Eq.trans (hf 44) (by conv => lhs; simp [go_sem])
          have y45 : A.eval (.tmp 45) = _ := Eq.trans (hf 45) (by conv => lhs; simp [go_sem])
          have y46 : A.eval (.tmp 46) = _ := Eq.trans (hf 46) (by conv => lhs; simp [go_sem])
          have y47 : A.eval (.tmp 47) = _ := Eq.trans (hf 47) (by conv => lhs; simp [go_sem])
          have y48 : A.eval (.tmp 48) = _ := Eq.trans (hf 48) (by conv => lhs; simp [go_sem])
          have y49 : A.eval (.tmp 49) = _ := Eq.trans (hf 49) (by conv => lhs; simp [go_sem])
          have y50 : A.eval (.tmp 50) = _ := Eq.trans (hf 50) (by conv => lhs; simp [go_sem])
          have y51 : A.eval (.tmp 51) = _ := Eq.trans (hf 51) (by conv => lhs; simp [go_sem])
          clear hf
          have hA := frame_eq hn
          rw [show List.range 52 = [0, 1, 2, 3, 4, 5, 6, 7, 8, 9, 10, 11, 12, 13, 14, 15, 16, 17, 18, 19, 20, 21, 22, 23, 24, 25, 26, 27, 28, 29, 30, 31, 32, 33, 34, 35, 36, 37, 38, 39, 40, 41, 42, 43, 44, 45, 46, 47, 48, 49, 50, 51] from rfl, hd] at hA
          simp only [List.map_cons, List.map_nil, y0, y1, y2, y3, y4, y5, y6, y7, y8, y9, y10, y11, y12, y13, y14, y15, y16, y17, y18, y19, y20, y21, y22, y23, y24, y25, y26, y27, y28, y29, y30, y31, y32, y33, y34, y35, y36, y37, y38, y39, y40, y41, y42, y43, y44, y45, y46, y47, y48, y49, y50, y51] at hA
          clear y0 y1 y2 y3 y4 y5 y6 y7 y8 y9 y10 y11 y12 y13 y14 y15 y16 y17 y18 y19 y20 y21 y22 y23 y24 y25 y26 y27 y28 y29 y30 y31 y32 y33 y34 y35 y36 y37 y38 y39 y40 y41 y42 y43 y44 y45 y46 y47 y48 y49 y50 y51
          clear hn hd
          subst hA
          have A2 := Lib.hid (A1.out.keep hC)
          clear hC
          obtain ⟨V2, hV2⟩ : ∃ V, V = W4 := ⟨_, rfl⟩
          subst hV2
          have hcw : C6 V2 b (off + k * 6) (n, t, o, r, d, i) := HC.out.below A2.out.2.2.2.2 hB
          obtain ⟨e0, e1, e2, e3, e4, e5⟩ := hcw
          obtain ⟨⟨x0, x1, x2, x3, x4, x5⟩, xf⟩ := A2.out.1
          simp only at x0 x1 x2 x3 x4 x5
          have xf0 := xf 0
          have xf1 := xf 1
          have xf2 := xf 2
          have xf3 := xf 3
          have xf4 := xf 4
          have xf5 := xf 5
          obtain ⟨V3, hW5⟩ : ∃ V3, V3 = put6 V2 (w.heap.size + 1 + 1) (n, t, o, r, d, i) := ⟨_, rfl⟩
          have A3 : Hid (AllR w V3 _ _) := hW5 ▸ A2.out.low (n, t, o, r, d, i)
          have hW6 : ((((((V2.setCell ⟨w.heap.size + 1 + 1, 0, none⟩ (.bool n)).setCell ⟨w.heap.size + 1 + 1, 1, none⟩ (.int .i64 t)).setCell ⟨w.heap.size + 1 + 1, 2, none⟩ (.int .i64 o)).setCell ⟨w.heap.size + 1 + 1, 3, none⟩ (.int .i64 r)).setCell ⟨w.heap.size + 1 + 1, 4, none⟩ (.int .i64 d)).setCell ⟨w.heap.size + 1 + 1, 5, none⟩ (.int .i64 i)) = V3 := hW5.symm
          clear hW5
          go_wp2_with fail
          try rw [hW6]
          clear hW6
          clear e0 e1 e2 e3 e4 e5 x0 x1 x2 x3 x4 x5 xf xf0 xf1 xf2 xf3 xf4 xf5
          go_wp2_with fail
          refine wp_region_typed (C := fun w' => Below V3.heap.size V3 w') (X := fun w w' => Below w.heap.size w w') (n := 52) (by kernel_rfl) (by kernel_rfl) rfl (fun w => Below.refl _ w) (Below.refl _ _).drew ?_
          refine w_is (fun w => Below.refl _ w) _ (.inl rfl) (fun ρ w hC hc hfn hf => by have e7 : ρ (.tmp 7) = _ := hf 7 (by decide); (conv => lhs; simp [execOp, go_sem, hc, e7])) ?_
          refine w_is (fun w => Below.refl _ w) _ (.inl rfl) (fun ρ w hC hc hfn hf => by have e35 : ρ (.tmp 35) = _ := hf 35 (by decide); (conv => lhs; simp [execOp, go_sem, hc, e35])) ?_
          refine w_is (fun w => Below.refl _ w) _ (.inl rfl) (fun ρ w hC hc hfn hf => by have e36 : ρ (.tmp 36) = _ := hf 36 (by decide); (conv => lhs; simp [execOp, go_sem, hc, e36])) ?_
          refine w_skip rfl rfl (known_is rfl) ?_
          refine w_skip rfl rfl (known_is rfl) ?_
          refine w_skip rfl rfl (known_is rfl) ?_
          refine w_skip rfl rfl (known_is rfl) ?_
          refine w_skip rfl rfl (known_is rfl) ?_
          refine w_skip rfl rfl (known_is rfl) ?_
          refine w_is (fun w => Below.refl _ w) _ (.inl rfl) (fun ρ w hC hc hfn hf => by have e37 : ρ (.tmp 37) = _ := hf 37 (by decide); have e43 : ρ (.tmp 43) = _ := hf 43 (by decide); (conv => lhs; simp [execOp, go_sem, hc, e37, e43])) ?_
          intro A W4 hC hn hd hf
          have y0 : A.eval (.tmp 0) = _ := Eq.trans (hf 0) (by conv => lhs; simp [go_sem])
          have y1 : A.eval (.tmp 1) = _ := Eq.trans (hf 1) (by conv => lhs; simp [go_sem])
          have y2 : A.eval (.tmp 2) = _ := Eq.trans (hf 2) (by conv => lhs; simp [go_sem])
          have y3 : A.eval (.tmp 3) = _ := Eq.trans (hf 3) (by conv => lhs; simp [go_sem])
          have y4 : A.eval (.tmp 4) = _ := Eq.trans (hf 4) (by conv => lhs; simp [go_sem])
          have y5 : A.eval (.tmp 5) = _ := Eq.trans (hf 5) (by conv => lhs; simp [go_sem])
          have y6 : A.eval (.tmp 6) = _ := Eq.trans (hf 6) (by conv => lhs; simp [go_sem])
          have y7 : A.eval (.tmp 7) = _ := Eq.trans (hf 7) (by conv => lhs; simp [go_sem])
          have y8 : A.eval (.tmp 8) = _ := Eq.trans (hf 8) (by conv => lhs; simp [go_sem])
          have y9 : A.eval (.tmp 9) = _ := Eq.trans (hf 9) (by conv => lhs; simp [go_sem])
          have y10 : A.eval (.tmp 10) = _ := Eq.trans (hf 10) (by conv => lhs; simp [go_sem])
          have y11 : A.eval (.tmp 11) = _ := Eq.trans (hf 11) (by conv => lhs; simp [go_sem])
          have y12 : A.eval (.tmp 12) = _ := Eq.trans (hf 12) (by conv => lhs; simp [go_sem])
          have y13 : A.eval (.tmp 13) = _ := Eq.trans (hf 13) (by conv => lhs; simp [go_sem])
          have y14 : A.eval (.tmp 14) = _ := Eq.trans (hf 14) (by conv => lhs; simp [go_sem])
          have y15 : A.eval (.tmp 15) = _ := Eq.trans (hf 15) (by conv => lhs; simp [go_sem])
          have y16 : A.eval (.tmp 16) = _ := Eq.trans (hf 16) (by conv => lhs; simp [go_sem])
          have y17 : A.eval (.tmp 17) = _ := Eq.trans (hf 17) (by conv => lhs; simp [go_sem])
          have y18 : A.eval (.tmp 18) = _ := Eq.trans (hf 18) (by conv => lhs; simp [go_sem])
          have y19 : A.eval (.tmp 19) = _ := Eq.trans (hf 19) (by conv => lhs; simp [go_sem])
          have y20 : A.eval (.tmp 20) = _ := Eq.trans (hf 20) (by conv => lhs; simp [go_sem])
          have y21 : A.eval (.tmp 21) = _ := Eq.trans (hf 21) (by conv => lhs; simp [go_sem])
          have y22 : A.eval (.tmp 22) = _ := Eq.trans (hf 22) (by conv => lhs; simp [go_sem])
          have y23 : A.eval (.tmp 23) = _ := Eq.trans (hf 23) (by conv => lhs; simp [go_sem])
          have y24 : A.eval (.tmp 24) = _ := Eq.trans (hf 24) (by conv => lhs; simp [go_sem])
          have y25 : A.eval (.tmp 25) = _ := Eq.trans (hf 25) (by conv => lhs; simp [go_sem])
          have y26 : A.eval (.tmp 26) = _ := Eq.trans (hf 26) (by conv => lhs; simp [go_sem])
          have y27 : A.eval (.tmp 27) = _ := Eq.trans (hf 27) (by conv => lhs; simp [go_sem])
          have y28 : A.eval (.tmp 28) = _ := Eq.trans (hf 28) (by conv => lhs; simp [go_sem])
          have y29 : A.eval (.tmp 29) = _ := Eq.trans (hf 29) (by conv => lhs; simp [go_sem])
          have y30 : A.eval (.tmp 30) = _ := Eq.trans (hf 30) (by conv => lhs; simp [go_sem])
          have y31 : A.eval (.tmp 31) = _ := Eq.trans (hf 31) (by conv => lhs; simp [go_sem])
          have y32 : A.eval (.tmp 32) = _ := Eq.trans (hf 32) (by conv => lhs; simp [go_sem])
          have y33 : A.eval (.tmp 33) = _ := Eq.trans (hf 33) (by conv => lhs; simp [go_sem])
          have y34 : A.eval (.tmp 34) = _ := Eq.trans (hf 34) (by conv => lhs; simp [go_sem])
          have y35 : A.eval (.tmp 35) = _ := hf 35
          have y36 : A.eval (.tmp 36) = _ := hf 36
          have y37 : A.eval (.tmp 37) = _ := hf 37
          have y38 : A.eval (.tmp 38) = _ := hf 38
          have y39 : A.eval (.tmp 39) = _ := hf 39
          have y40 : A.eval (.tmp 40) = _ := hf 40
          have y41 : A.eval (.tmp 41) = _ := hf 41
          have y42 : A.eval (.tmp 42) = _ := hf 42
          have y43 : A.eval (.tmp 43) = _ := hf 43
          have y44 : A.eval (.tmp 44) = _ := hf 44
          have y45 : A.eval (.tmp 45) = _ := Eq.trans (hf 45) (by conv => lhs; simp [go_sem])
          have y46 : A.eval (.tmp 46) = _ := Eq.trans (hf 46) (by conv => lhs; simp [go_sem])
          have y47 : A.eval (.tmp 47) = _ := Eq.trans (hf 47) (by conv => lhs; simp [go_sem])
          have y48 : A.eval (.tmp 48) = _ := Eq.trans (hf 48) (by conv => lhs; simp [go_sem])
          have y49 : A.eval (.tmp 49) = _ := Eq.trans (hf 49) (by conv => lhs; simp [go_sem])
          have y50 : A.eval (.tmp 50) = _ := Eq.trans (hf 50) (by conv => lhs; simp [go_sem])
          have y51 : A.eval (.tmp 51) = _ := Eq.trans (hf 51) (by conv => lhs; simp [go_sem])
          clear hf
          have hA := frame_eq hn
          rw [show List.range 52 = [0, 1, 2, 3, 4, 5, 6, 7, 8, 9, 10, 11, 12, 13, 14, 15, 16, 17, 18, 19, 20, 21, 22, 23, 24, 25, 26, 27, 28, 29, 30, 31, 32, 33, 34, 35, 36, 37, 38, 39, 40, 41, 42, 43, 44, 45, 46, 47, 48, 49, 50, 51] from rfl, hd] at hA
          simp only [List.map_cons, List.map_nil, y0, y1, y2, y3, y4, y5, y6, y7, y8, y9, y10, y11, y12, y13, y14, y15, y16, y17, y18, y19, y20, y21, y22, y23, y24, y25, y26, y27, y28, y29, y30, y31, y32, y33, y34, y35, y36, y37, y38, y39, y40, y41, y42, y43, y44, y45, y46, y47, y48, y49, y50, y51] at hA
          clear y0 y1 y2 y3 y4 y5 y6 y7 y8 y9 y10 y11 y12 y13 y14 y15 y16 y17 y18 y19 y20 y21 y22 y23 y24 y25 y26 y27 y28 y29 y30 y31 y32 y33 y34 y35 y36 y37 y38 y39 y40 y41 y42 y43 y44 y45 y46 y47 y48 y49 y50 y51
          clear hn hd
          subst hA
          have A4 := Lib.hid (A3.out.keep hC)
          clear hC
          obtain ⟨V4, hV4⟩ : ∃ V, V = W4 := ⟨_, rfl⟩
          subst hV4
          have hcw : C6 V4 b (off + k * 6) (n, t, o, r, d, i) := HC.out.below A4.out.2.2.2.2 hB
          obtain ⟨e0, e1, e2, e3, e4, e5⟩ := hcw
          obtain ⟨⟨x0, x1, x2, x3, x4, x5⟩, xf⟩ := A4.out.2.1
          simp only at x0 x1 x2 x3 x4 x5
          have xf0 := xf 0
          have xf1 := xf 1
          have xf2 := xf 2
          have xf3 := xf 3
          have xf4 := xf 4
          have xf5 := xf 5
          obtain ⟨V5, hW5⟩ : ∃ V5, V5 = put6 V4 (w.heap.size + 1 + 1 + 1) (n, t, o, r, d, i) := ⟨_, rfl⟩
          have A5 : Hid (AllR w V5 _ _) := hW5 ▸ A4.out.high (n, t, o, r, d, i)
          have hW6 : ((((((V4.setCell ⟨w.heap.size + 1 + 1 + 1, 0, none⟩ (.bool n)).setCell ⟨w.heap.size + 1 + 1 + 1, 1, none⟩ (.int .i64 t)).setCell ⟨w.heap.size + 1 + 1 + 1, 2, none⟩ (.int .i64 o)).setCell ⟨w.heap.size + 1 + 1 + 1, 3, none⟩ (.int .i64 r)).setCell ⟨w.heap.size + 1 + 1 + 1, 4, none⟩ (.int .i64 d)).setCell ⟨w.heap.size + 1 + 1 + 1, 5, none⟩ (.int .i64 i)) = V5 := hW5.symm
          clear hW5
          go_wp2_with fail
          try rw [hW6]
          clear hW6
          clear e0 e1 e2 e3 e4 e5 x0 x1 x2 x3 x4 x5 xf xf0 xf1 xf2 xf3 xf4 xf5
          go_wp2_with fail
          go_roundw
          case rel => exact ⟨k + 1, by omega, by go_num, by rw [E1.out.2], by rw [E1.out.1, E2.out.1]; exact A5.out⟩
          case measure => simp [intOf]; omega
        | true =>
          have E1 := Lib.hid (HX1.out hT rfl)
          have E2 := Lib.hid (HX2.out hT rfl)
          clear HF1 HF2 HX1 HX2 hT
          have LLs : lss (n, t, o, r, d, i) (n1, t1, o1, r1, d1, i1) = lessB n t o r d i n1 t1 o1 r1 d1 i1 := rfl
          have LHs : mor (n, t, o, r, d, i) (n2, t2, o2, r2, d2, i2) = lessB n2 t2 o2 r2 d2 i2 n t o r d i := rfl
          have e1o := E1.out
          have e2o := E2.out
          rw [LLs] at e1o
          rw [LHs] at e2o
          clear LLs LHs E1 E2
          generalize lessB n t o r d i n1 t1 o1 r1 d1 i1 = z1 at *
          generalize lessB n2 t2 o2 r2 d2 i2 n t o r d i = z2 at *
          have E1 := Lib.hid e1o
          have E2 := Lib.hid e2o
          clear e1o e2o
          have kc : ∀ w', Below w1.heap.size w1 w' → C6 w' b (off + k * 6) (n, t, o, r, d, i) ∧ Cells6 w' (w.heap.size + 1 + 1) n1 t1 o1 r1 d1 i1 := fun w' h => ⟨HC.out.below (A1.out.keep h).2.2.2.2 hB, (A1.out.keep h).1.1⟩
          unfold C6 Cells6 at kc
          go_wp2_with fail
          refine wp_region_typed (C := fun w' => Below w1.heap.size w1 w') (X := fun w w' => Below w.heap.size w w') (n := 52) (by kernel_rfl) (by kernel_rfl) rfl (fun w => Below.refl _ w) (Below.refl _ _).drew ?_
          refine w_is (fun w => Below.refl _ w) _ (.inl rfl) (fun ρ w hC hc hfn hf => by have e7 : ρ (.tmp 7) = _ := hf 7 (by decide); (conv => lhs; simp [execOp, go_sem, hc, e7])) ?_
          refine w_is (fun w => Below.refl _ w) _ (.inl rfl) (fun ρ w hC hc hfn hf => by have e21 : ρ (.tmp 21) = _ := hf 21 (by decide); (conv => lhs; simp [execOp, go_sem, hc, e21])) ?_
          refine w_is (fun w => Below.refl _ w) _ (.inl rfl) (fun ρ w hC hc hfn hf => by have e22 : ρ (.tmp 22) = _ := hf 22 (by decide); (conv => lhs; simp [execOp, go_sem, hc, e22])) ?_
          refine w_is (fun w => Below.refl _ w) _ (.inr ⟨2, 23, false, rfl, rfl, known_is rfl⟩) (fun ρ w hC hc hfn hf => by have e0 : ρ (.tmp 0) = _ := hf 0 (by decide); (conv => lhs; simp [execOp, go_sem, hc, e0])) ?_
          refine w_is (fun w => Below.refl _ w) _ (.inr ⟨2, 23, false, rfl, rfl, known_is rfl⟩) (fun ρ w hC hc hfn hf => by have e8 : ρ (.tmp 8) = _ := hf 8 (by decide); (conv => lhs; simp [execOp, go_sem, hc, e8])) ?_
          refine w_is (fun w => Below.refl _ w) _ (.inr ⟨2, 23, false, rfl, rfl, known_is rfl⟩) (fun ρ w hC hc hfn hf => by have e24 : ρ (.tmp 24) = _ := hf 24 (by decide); have e25 : ρ (.tmp 25) = _ := hf 25 (by decide); (conv => lhs; simp [execOp, go_sem, hc, e24, e25, hi1, hi0])) ?_
          refine w_is (fun w => Below.refl _ w) _ (.inr ⟨2, 23, false, rfl, rfl, known_is rfl⟩) (fun ρ w hC hc hfn hf => by have e26 : ρ (.tmp 26) = _ := hf 26 (by decide); (conv => lhs; simp [execOp, go_sem, hc, e26, kc w hC])) ?_
          refine w_is (fun w => Below.refl _ w) _ (.inr ⟨2, 23, false, rfl, rfl, known_is rfl⟩) (fun ρ w hC hc hfn hf => by have e5 : ρ (.tmp 5) = _ := hf 5 (by decide); (conv => lhs; simp [execOp, go_sem, hc, e5, kc w hC])) ?_
          refine w_call (Is _) (fun _ _ _ h _ => h) 15 (.inr ⟨2, 23, false, rfl, rfl, known_is rfl⟩) (fun ρ w hC hc hfn hf => by have e27 : ρ (.tmp 27) = _ := hf 27 (by decide); have e28 : ρ (.tmp 28) = _ := hf 28 (by decide); exact ⟨_, by (conv => lhs; simp [execOp, resolve, invoke, go_sem, hc, hfn, e27, e28]), (tc_below hC (LL.out w))⟩) ?_
          refine w_is (fun w => Below.refl _ w) _ (.inl rfl) (fun ρ w hC hc hfn hf => by have e23 : ρ (.tmp 23) = _ := hf 23 (by decide); have e29 : ρ (.tmp 29) = _ := hf 29 (by decide); (conv => lhs; simp [execOp, go_sem, hc, e23, e29])) ?_
          intro A W4 hC hn hd hf
          have y0 : A.eval (.tmp 0) = _ := Eq.trans (hf 0) (by conv => lhs; simp [go_sem])
          have y1 : A.eval (.tmp 1) = _ := Eq.trans (hf 1) (by conv => lhs; simp [go_sem])
          have y2 : A.eval (.tmp 2) = _ := Eq.trans (hf 2) (by conv => lhs; simp [go_sem])
          have y3 : A.eval (.tmp 3) = _ := Eq.trans (hf 3) (by conv => lhs; simp [go_sem])
          have y4 : A.eval (.tmp 4) = _ := Eq.trans (hf 4) (by conv => lhs; simp [go_sem])
          have y5 : A.eval (.tmp 5) = _ := Eq.trans (hf 5) (by conv => lhs; simp [go_sem])
          have y6 : A.eval (.tmp 6) = _ := Eq.trans (hf 6) (by conv => lhs; simp [go_sem])
          have y7 : A.eval (.tmp 7) = _ := Eq.trans (hf 7) (by conv => lhs; simp [go_sem])
          have y8 : A.eval (.tmp 8) = _ := Eq.trans (hf 8) (by conv => lhs; simp [go_sem])
          have y9 : A.eval (.tmp 9) = _ := Eq.trans (hf 9) (by conv => lhs; simp [go_sem])
          have y10 : A.eval (.tmp 10) = _ := Eq.trans (hf 10) (by conv => lhs; simp [go_sem])
          have y11 : A.eval (.tmp 11) = _ := Eq.trans (hf 11) (by conv => lhs; simp [go_sem])
          have y12 : A.eval (.tmp 12) = _ := Eq.trans (hf 12) (by conv => lhs; simp [go_sem])
          have y13 : A.eval (.tmp 13) = _ := Eq.trans (hf 13) (by conv => lhs; simp [go_sem])
          have y14 : A.eval (.tmp 14) = _ := Eq.trans (hf 14) (by conv => lhs; simp [go_sem])
          have y15 : A.eval (.tmp 15) = _ := Eq.trans (hf 15) (by conv => lhs; simp [go_sem])
          have y16 : A.eval (.tmp 16) = _ := Eq.trans (hf 16) (by conv => lhs; simp [go_sem])
          have y17 : A.eval (.tmp 17) = _ := Eq.trans (hf 17) (by conv => lhs; simp [go_sem])
          have y18 : A.eval (.tmp 18) = _ := Eq.trans (hf 18) (by conv => lhs; simp [go_sem])
          have y19 : A.eval (.tmp 19) = _ := Eq.trans (hf 19) (by conv => lhs; simp [go_sem])
          have y20 : A.eval (.tmp 20) = _ := Eq.trans (hf 20) (by conv => lhs; simp [go_sem])
          have y21 : A.eval (.tmp 21) = _ := hf 21
          have y22 : A.eval (.tmp 22) = _ := hf 22
          have y23 : A.eval (.tmp 23) = _ := hf 23
          have y24 : A.eval (.tmp 24) = _ := hf 24
          have y25 : A.eval (.tmp 25) = _ := hf 25
          have y26 : A.eval (.tmp 26) = _ := hf 26
          have y27 : A.eval (.tmp 27) = _ := hf 27
          have y28 : A.eval (.tmp 28) = _ := hf 28
          have y29 : A.eval (.tmp 29) = _ := hf 29
          have y30 : A.eval (.tmp 30) = _ := hf 30
          have y31 : A.eval (.tmp 31) = _ := Eq.trans (hf 31) (by conv => lhs; simp [go_sem])
          have y32 : A.eval (.tmp 32) = _ := Eq.trans (hf 32) (by conv => lhs; simp [go_sem])
          have y33 : A.eval (.tmp 33) = _ := Eq.trans (hf 33) (by conv => lhs; simp [go_sem])
          have y34 : A.eval (.tmp 34) = _ := Eq.trans (hf 34) (by conv => lhs; simp [go_sem])
          have y35 : A.eval (.tmp 35) = _ := Eq.trans (hf 35) (by conv => lhs; simp [go_sem])
          have y36 : A.eval (.tmp 36) = _ := Eq.trans (hf 36) (by conv => lhs; simp [go_sem])
          have y37 : A.eval (.tmp 37) = _ := Eq.trans (hf 37) (by conv => lhs; simp [go_sem])
          have y38 : A.eval (.tmp 38) = _ := Eq.trans (hf 38) (by conv => lhs; simp [go_sem])
          have y39 : A.eval (.tmp 39) = _ := Eq.trans (hf 39) (by conv => lhs; simp [go_sem])
          have y40 : A.eval (.tmp 40) = _ := Eq.trans (hf 40) (by conv => lhs; simp [go_sem])
          have y41 : A.eval (.tmp 41) = _ := Eq.trans (hf 41) (by conv => lhs; simp [go_sem])
          have y42 : A.eval (.tmp 42) = _ := Eq.trans (hf 42) (by conv => lhs; simp [go_sem])
          have y43 : A.eval (.tmp 43) = _ := Eq.trans (hf 43) (by conv => lhs; simp [go_sem])
          have y44 : A.eval (.tmp 44) = _ := Eq.trans (hf 44) (by conv => lhs; simp [go_sem])
          have y45 : A.eval (.tmp 45) = _ := Eq.trans (hf 45) (by conv => lhs; simp [go_sem])
          have y46 : A.eval (.tmp 46) = _ := Eq.trans (hf 46) (by conv => lhs; simp [go_sem])
          have y47 : A.eval (.tmp 47) = _ := Eq.trans (hf 47) (by conv => lhs; simp [go_sem])
          have y48 : A.eval (.tmp 48) = _ := Eq.trans (hf 48) (by conv => lhs; simp [go_sem])
          have y49 : A.eval (.tmp 49) = _ := Eq.trans (hf 49) (by conv => lhs; simp [go_sem])
          have y50 : A.eval (.tmp 50) = _ := Eq.trans (hf 50) (by conv => lhs; simp [go_sem])
          have y51 : A.eval (.tmp 51) = _ := Eq.trans (hf 51) (by conv => lhs; simp [go_sem])
          clear hf
          have hA := frame_eq hn
          rw [show List.range 52 = [0, 1, 2, 3, 4, 5, 6, 7, 8, 9, 10, 11, 12, 13, 14, 15, 16, 17, 18, 19, 20, 21, 22, 23, 24, 25, 26, 27, 28, 29, 30, 31, 32, 33, 34, 35, 36, 37, 38, 39, 40, 41, 42, 43, 44, 45, 46, 47, 48, 49, 50, 51] from rfl, hd] at hA
          simp only [List.map_cons, List.map_nil, y0, y1, y2, y3, y4, y5, y6, y7, y8, y9, y10, y11, y12, y13, y14, y15, y16, y17, y18, y19, y20, y21, y22, y23, y24, y25, y26, y27, y28, y29, y30, y31, y32, y33, y34, y35, y36, y37, y38, y39, y40, y41, y42, y43, y44, y45, y46, y47, y48, y49, y50, y51] at hA
          clear y0 y1 y2 y3 y4 y5 y6 y7 y8 y9 y10 y11 y12 y13 y14 y15 y16 y17 y18 y19 y20 y21 y22 y23 y24 y25 y26 y27 y28 y29 y30 y31 y32 y33 y34 y35 y36 y37 y38 y39 y40 y41 y42 y43 y44 y45 y46 y47 y48 y49 y50 y51
          clear hn hd
          subst hA
          clear kc
          have A2 := Lib.hid (A1.out.keep hC)
          clear hC
          obtain ⟨V2, hV2⟩ : ∃ V, V = W4 := ⟨_, rfl⟩
          subst hV2
          cases z1 with
          | true =>
            have hcw : C6 V2 b (off + k * 6) (n, t, o, r, d, i) := HC.out.below A2.out.2.2.2.2 hB
            obtain ⟨e0, e1, e2, e3, e4, e5⟩ := hcw
            obtain ⟨⟨x0, x1, x2, x3, x4, x5⟩, xf⟩ := A2.out.1
            simp only at x0 x1 x2 x3 x4 x5
            have xf0 := xf 0
            have xf1 := xf 1
            have xf2 := xf 2
            have xf3 := xf 3
            have xf4 := xf 4
            have xf5 := xf 5
            obtain ⟨V3, hW5⟩ : ∃ V3, V3 = put6 V2 (w.heap.size + 1 + 1) (n, t, o, r, d, i) := ⟨_, rfl⟩
            have A3 : Hid (AllR w V3 _ _) := hW5 ▸ A2.out.low (n, t, o, r, d, i)
            have hW6 : ((((((V2.setCell ⟨w.heap.size + 1 + 1, 0, none⟩ (.bool n)).setCell ⟨w.heap.size + 1 + 1, 1, none⟩ (.int .i64 t)).setCell ⟨w.heap.size + 1 + 1, 2, none⟩ (.int .i64 o)).setCell ⟨w.heap.size + 1 + 1, 3, none⟩ (.int .i64 r)).setCell ⟨w.heap.size + 1 + 1, 4, none⟩ (.int .i64 d)).setCell ⟨w.heap.size + 1 + 1, 5, none⟩ (.int .i64 i)) = V3 := hW5.symm
            clear hW5
            go_wp2_with fail
            try rw [hW6]
            clear hW6
            clear e0 e1 e2 e3 e4 e5 x0 x1 x2 x3 x4 x5 xf xf0 xf1 xf2 xf3 xf4 xf5
            have kc : ∀ w', Below V3.heap.size V3 w' → C6 w' b (off + k * 6) (n, t, o, r, d, i) ∧ Cells6 w' (w.heap.size + 1 + 1 + 1) n2 t2 o2 r2 d2 i2 := fun w' h => ⟨HC.out.below (A3.out.keep h).2.2.2.2 hB, (A3.out.keep h).2.1.1⟩
            unfold C6 Cells6 at kc
            go_wp2_with fail
            refine wp_region_typed (C := fun w' => Below V3.heap.size V3 w') (X := fun w w' => Below w.heap.size w w') (n := 52) (by kernel_rfl) (by kernel_rfl) rfl (fun w => Below.refl _ w) (Below.refl _ _).drew ?_
            refine w_is (fun w => Below.refl _ w) _ (.inl rfl) (fun ρ w hC hc hfn hf => by have e7 : ρ (.tmp 7) = _ := hf 7 (by decide); (conv => lhs; simp [execOp, go_sem, hc, e7])) ?_
            refine w_is (fun w => Below.refl _ w) _ (.inl rfl) (fun ρ w hC hc hfn hf => by have e35 : ρ (.tmp 35) = _ := hf 35 (by decide); (conv => lhs; simp [execOp, go_sem, hc, e35])) ?_
            refine w_is (fun w => Below.refl _ w) _ (.inl rfl) (fun ρ w hC hc hfn hf => by have e36 : ρ (.tmp 36) = _ := hf 36 (by decide); (conv => lhs; simp [execOp, go_sem, hc, e36])) ?_
            refine w_is (fun w => Below.refl _ w) _ (.inr ⟨2, 37, false, rfl, rfl, known_is rfl⟩) (fun ρ w hC hc hfn hf => by have e6 : ρ (.tmp 6) = _ := hf 6 (by decide); (conv => lhs; simp [execOp, go_sem, hc, e6, kc w hC])) ?_
            refine w_is (fun w => Below.refl _ w) _ (.inr ⟨2, 37, false, rfl, rfl, known_is rfl⟩) (fun ρ w hC hc hfn hf => by have e0 : ρ (.tmp 0) = _ := hf 0 (by decide); (conv => lhs; simp [execOp, go_sem, hc, e0])) ?_
            refine w_is (fun w => Below.refl _ w) _ (.inr ⟨2, 37, false, rfl, rfl, known_is rfl⟩) (fun ρ w hC hc hfn hf => by have e8 : ρ (.tmp 8) = _ := hf 8 (by decide); (conv => lhs; simp [execOp, go_sem, hc, e8])) ?_
            refine w_is (fun w => Below.refl _ w) _ (.inr ⟨2, 37, false, rfl, rfl, known_is rfl⟩) (fun ρ w hC hc hfn hf => by have e39 : ρ (.tmp 39) = _ := hf 39 (by decide); have e40 : ρ (.tmp 40) = _ := hf 40 (by decide); (conv => lhs; simp [execOp, go_sem, hc, e39, e40, hi1, hi0])) ?_
            refine w_is (fun w => Below.refl _ w) _ (.inr ⟨2, 37, false, rfl, rfl, known_is rfl⟩) (fun ρ w hC hc hfn hf => by have e41 : ρ (.tmp 41) = _ := hf 41 (by decide); (conv => lhs; simp [execOp, go_sem, hc, e41, kc w hC])) ?_
            refine w_call (Is _) (fun _ _ _ h _ => h) 15 (.inr ⟨2, 37, false, rfl, rfl, known_is rfl⟩) (fun ρ w hC hc hfn hf => by have e38 : ρ (.tmp 38) = _ := hf 38 (by decide); have e42 : ρ (.tmp 42) = _ := hf 42 (by decide); exact ⟨_, by (conv => lhs; simp [execOp, resolve, invoke, go_sem, hc, hfn, e38, e42]), (tc_below hC (LH.out w))⟩) ?_
            refine w_is (fun w => Below.refl _ w) _ (.inl rfl) (fun ρ w hC hc hfn hf => by have e37 : ρ (.tmp 37) = _ := hf 37 (by decide); have e43 : ρ (.tmp 43) = _ := hf 43 (by decide); (conv => lhs; simp [execOp, go_sem, hc, e37, e43])) ?_
            intro A W4 hC hn hd hf
            have y0 : A.eval (.tmp 0) = _ := Eq.trans (hf 0) (by conv => lhs; simp [go_sem])
            have y1 : A.eval (.tmp 1) = _ := Eq.trans (hf 1) (by conv => lhs; simp [go_sem])
            have y2 : A.eval (.tmp 2) = _ := Eq.trans (hf 2) (by conv => lhs; simp [go_sem])
            have y3 : A.eval (.tmp 3) = _ := Eq.trans (hf 3) (by conv => lhs; simp [go_sem])
            have y4 : A.eval (.tmp 4) = _ := Eq.trans (hf 4) (by conv => lhs; simp [go_sem])
            have y5 : A.eval (.tmp 5) = _ := Eq.trans (hf 5) (by conv => lhs; simp [go_sem])
            have y6 : A.eval (.tmp 6) = _ := Eq.trans (hf 6) (by conv => lhs; simp [go_sem])
            have y7 : A.eval (.tmp 7) = _ := Eq.trans (hf 7) (by conv => lhs; simp [go_sem])
            have y8 : A.eval (.tmp 8) = _ := Eq.trans (hf 8) (by conv => lhs; simp [go_sem])
            have y9 : A.eval (.tmp 9) = _ := Eq.trans (hf 9) (by conv => lhs; simp [go_sem])
            have y10 : A.eval (.tmp 10) = _ := Eq.trans (hf 10) (by conv => lhs; simp [go_sem])
            have y11 : A.eval (.tmp 11) = _ := Eq.trans (hf 11) (by conv => lhs; simp [go_sem])
            have y12 : A.eval (.tmp 12) = _ := Eq.trans (hf 12) (by conv => lhs; simp [go_sem])
            have y13 : A.eval (.tmp 13) = _ := Eq.trans (hf 13) (by conv => lhs; simp [go_sem])
            have y14 : A.eval (.tmp 14) = _ := Eq.trans (hf 14) (by conv => lhs; simp [go_sem])
            have y15 : A.eval (.tmp 15) = _ := Eq.trans (hf 15) (by conv => lhs; simp [go_sem])
            have y16 : A.eval (.tmp 16) = _ := Eq.trans (hf 16) (by conv => lhs; simp [go_sem])
            have y17 : A.eval (.tmp 17) = _ := Eq.trans (hf 17) (by conv => lhs; simp [go_sem])
            have y18 : A.eval (.tmp 18) = _ := Eq.trans (hf 18) (by conv => lhs; simp [go_sem])
            have y19 : A.eval (.tmp 19) = _ := Eq.trans (hf 19) (by conv => lhs; simp [go_sem])
            have y20 : A.eval (.tmp 20) = _ := Eq.trans (hf 20) (by conv => lhs; simp [go_sem])
            have y21 : A.eval (.tmp 21) = _ := Eq.trans (hf 21) (by conv => lhs; simp [go_sem])
            have y22 : A.eval (.tmp 22) = _ := Eq.trans (hf 22) (by conv => lhs; simp [go_sem])
            have y23 : A.eval (.tmp 23) = _ := Eq.trans (hf 23) (by conv => lhs; simp [go_sem])
            have y24 : A.eval (.tmp 24) = _ := Eq.trans (hf 24) (by conv => lhs; simp [go_sem])
            have y25 : A.eval (.tmp 25) = _ := Eq.trans (hf 25) (by conv => lhs; simp [go_sem])
            have y26 : A.eval (.tmp 26) = _ := Eq.trans (hf 26) (by conv => lhs; simp [go_sem])
            have y27 : A.eval (.tmp 27) = _ := Eq.trans (hf 27) (by conv => lhs; simp [go_sem])
            have y28 : A.eval (.tmp 28) = _ := Eq.trans (hf 28) (by conv => lhs; simp [go_sem])
            have y29 : A.eval (.tmp 29) = _ := Eq.trans (hf 29) (by conv => lhs; simp [go_sem])
            have y30 : A.eval (.tmp 30) = _ := Eq.trans (hf 30) (by conv => lhs; simp [go_sem])
            have y31 : A.eval (.tmp 31) = _ := Eq.trans (hf 31) (by conv => lhs; simp [go_sem])
            have y32 : A.eval (.tmp 32) = _ := Eq.trans (hf 32) (by conv => lhs; simp [go_sem])
            have y33 : A.eval (.tmp 33) = _ := Eq.trans (hf 33) (by conv => lhs; simp [go_sem])
            have y34 : A.eval (.tmp 34) = _ := Eq.trans (hf 34) (by conv => lhs; simp [go_sem])
            have y35 : A.eval (.tmp 35) = _ := hf 35
            have y36 : A.eval (.tmp 36) = _ := hf 36
            have y37 : A.eval (.tmp 37) = _ := hf 37
            have y38 : A.eval (.tmp 38) = _ := hf 38
            have y39 : A.eval (.tmp 39) = _ := hf 39
            have y40 : A.eval (.tmp 40) = _ := hf 40
            have y41 : A.eval (.tmp 41) = _ := hf 41
            have y42 : A.eval (.tmp 42) = _ := hf 42
            have y43 : A.eval (.tmp 43) = _ := hf 43
            have y44 : A.eval (.tmp 44) = _ := hf 44
            have y45 : A.eval (.tmp 45) = _ := Eq.trans (hf 45) (by conv => lhs; simp [go_sem])
            have y46 : A.eval (.tmp 46) = _ := Eq.trans (hf 46) (by conv => lhs; simp [go_sem])
            have y47 : A.eval (.tmp 47) = _ := Eq.trans (hf 47) (by conv => lhs; simp [go_sem])
            have y48 : A.eval (.tmp 48) = _ := Eq.trans (hf 48) (by conv => lhs; simp [go_sem])
            have y49 : A.eval (.tmp 49) = _ := Eq.trans (hf 49) (by conv => lhs; simp [go_sem])
            have y50 : A.eval (.tmp 50) = _ := Eq.trans (hf 50) (by conv => lhs; simp [go_sem])
            have y51 : A.eval (.tmp 51) = _ := Eq.trans (hf 51) (by conv => lhs; simp [go_sem])
            clear hf
            have hA := frame_eq hn
            rw [show List.range 52 = [0, 1, 2, 3, 4, 5, 6, 7, 8, 9, 10, 11, 12, 13, 14, 15, 16, 17, 18, 19, 20, 21, 22, 23, 24, 25, 26, 27, 28, 29, 30, 31, 32, 33, 34, 35, 36, 37, 38, 39, 40, 41, 42, 43, 44, 45, 46, 47, 48, 49, 50, 51] from rfl, hd] at hA
            simp only [List.map_cons, List.map_nil, y0, y1, y2, y3, y4, y5, y6, y7, y8, y9, y10, y11, y12, y13, y14, y15, y16, y17, y18, y19, y20, y21, y22, y23, y24, y25, y26, y27, y28, y29, y30, y31, y32, y33, y34, y35, y36, y37, y38, y39, y40, y41, y42, y43, y44, y45, y46, y47, y48, y49, y50, y51] at hA
            clear y0 y1 y2 y3 y4 y5 y6 y7 y8 y9 y10 y11 y12 y13 y14 y15 y16 y17 y18 y19 y20 y21 y22 y23 y24 y25 y26 y27 y28 y29 y30 y31 y32 y33 y34 y35 y36 y37 y38 y39 y40 y41 y42 y43 y44 y45 y46 y47 y48 y49 y50 y51
            clear hn hd
            subst hA
            clear kc
            have A4 := Lib.hid (A3.out.keep hC)
            clear hC
            obtain ⟨V4, hV4⟩ : ∃ V, V = W4 := ⟨_, rfl⟩
            subst hV4
            cases z2 with
            | true =>
              have hcw : C6 V4 b (off + k * 6) (n, t, o, r, d, i) := HC.out.below A4.out.2.2.2.2 hB
              obtain ⟨e0, e1, e2, e3, e4, e5⟩ := hcw
              obtain ⟨⟨x0, x1, x2, x3, x4, x5⟩, xf⟩ := A4.out.2.1
              simp only at x0 x1 x2 x3 x4 x5
              have xf0 := xf 0
              have xf1 := xf 1
              have xf2 := xf 2
              have xf3 := xf 3
              have xf4 := xf 4
              have xf5 := xf 5
              obtain ⟨V5, hW5⟩ : ∃ V5, V5 = put6 V4 (w.heap.size + 1 + 1 + 1) (n, t, o, r, d, i) := ⟨_, rfl⟩
              have A5 : Hid (AllR w V5 _ _) := hW5 ▸ A4.out.high (n, t, o, r, d, i)
              have hW6 : ((((((V4.setCell ⟨w.heap.size + 1 + 1 + 1, 0, none⟩ (.bool n)).setCell ⟨w.heap.size + 1 + 1 + 1, 1, none⟩ (.int .i64 t)).setCell ⟨w.heap.size + 1 + 1 + 1, 2, none⟩ (.int .i64 o)).setCell ⟨w.heap.size + 1 + 1 + 1, 3, none⟩ (.int .i64 r)).setCell ⟨w.heap.size + 1 + 1 + 1, 4, none⟩ (.int .i64 d)).setCell ⟨w.heap.size + 1 + 1 + 1, 5, none⟩ (.int .i64 i)) = V5 := hW5.symm
              clear hW5
              go_wp2_with fail
              try rw [hW6]
              clear hW6
              clear e0 e1 e2 e3 e4 e5 x0 x1 x2 x3 x4 x5 xf xf0 xf1 xf2 xf3 xf4 xf5
              go_wp2_with fail
              go_roundw
              case rel => exact ⟨k + 1, by omega, by go_num, by rw [E1.out.2], by rw [E1.out.1, E2.out.1]; exact A5.out⟩
              case measure => simp [intOf]; omega
            | false =>
              go_wp2_with fail
              go_roundw
              case rel => exact ⟨k + 1, by omega, by go_num, by rw [E1.out.2], by rw [E1.out.1, E2.out.1]; exact A4.out⟩
              case measure => simp [intOf]; omega
          | false =>
            have kc : ∀ w', Below V2.heap.size V2 w' → C6 w' b (off + k * 6) (n, t, o, r, d, i) ∧ Cells6 w' (w.heap.size + 1 + 1 + 1) n2 t2 o2 r2 d2 i2 := fun w' h => ⟨HC.out.below (A2.out.keep h).2.2.2.2 hB, (A2.out.keep h).2.1.1⟩
            unfold C6 Cells6 at kc
            go_wp2_with fail
            refine wp_region_typed (C := fun w' => Below V2.heap.size V2 w') (X := fun w w' => Below w.heap.size w w') (n := 52) (by kernel_rfl) (by kernel_rfl) rfl (fun w => Below.refl _ w) (Below.refl _ _).drew ?_
            refine w_is (fun w => Below.refl _ w) _ (.inl rfl) (fun ρ w hC hc hfn hf => by have e7 : ρ (.tmp 7) = _ := hf 7 (by decide); (conv => lhs; simp [execOp, go_sem, hc, e7])) ?_
            refine w_is (fun w => Below.refl _ w) _ (.inl rfl) (fun ρ w hC hc hfn hf => by have e35 : ρ (.tmp 35) = _ := hf 35 (by decide); (conv => lhs; simp [execOp, go_sem, hc, e35])) ?_
            refine w_is (fun w => Below.refl _ w) _ (.inl rfl) (fun ρ w hC hc hfn hf => by have e36 : ρ (.tmp 36) = _ := hf 36 (by decide); (conv => lhs; simp [execOp, go_sem, hc, e36])) ?_
            refine w_is (fun w => Below.refl _ w) _ (.inr ⟨2, 37, false, rfl, rfl, known_is rfl⟩) (fun ρ w hC hc hfn hf => by have e6 : ρ (.tmp 6) = _ := hf 6 (by decide); (conv => lhs; simp [execOp, go_sem, hc, e6, kc w hC])) ?_
            refine w_is (fun w => Below.refl _ w) _ (.inr ⟨2, 37, false, rfl, rfl, known_is rfl⟩) (fun ρ w hC hc hfn hf => by have e0 : ρ (.tmp 0) = _ := hf 0 (by decide); (conv => lhs; simp [execOp, go_sem, hc, e0])) ?_
            refine w_is (fun w => Below.refl _ w) _ (.inr ⟨2, 37, false, rfl, rfl, known_is rfl⟩) (fun ρ w hC hc hfn hf => by have e8 : ρ (.tmp 8) = _ := hf 8 (by decide); (conv => lhs; simp [execOp, go_sem, hc, e8])) ?_
            refine w_is (fun w => Below.refl _ w) _ (.inr ⟨2, 37, false, rfl, rfl, known_is rfl⟩) (fun ρ w hC hc hfn hf => by have e39 : ρ (.tmp 39) = _ := hf 39 (by decide); have e40 : ρ (.tmp 40) = _ := hf 40 (by decide); (conv => lhs; simp [execOp, go_sem, hc, e39, e40, hi1, hi0])) ?_
            refine w_is (fun w => Below.refl _ w) _ (.inr ⟨2, 37, false, rfl, rfl, known_is rfl⟩) (fun ρ w hC hc hfn hf => by have e41 : ρ (.tmp 41) = _ := hf 41 (by decide); (conv => lhs; simp [execOp, go_sem, hc, e41, kc w hC])) ?_
            refine w_call (Is _) (fun _ _ _ h _ => h) 15 (.inr ⟨2, 37, false, rfl, rfl, known_is rfl⟩) (fun ρ w hC hc hfn hf => by have e38 : ρ (.tmp 38) = _ := hf 38 (by decide); have e42 : ρ (.tmp 42) = _ := hf 42 (by decide); exact ⟨_, by (conv => lhs; simp [execOp, resolve, invoke, go_sem, hc, hfn, e38, e42]), (tc_below hC (LH.out w))⟩) ?_
            refine w_is (fun w => Below.refl _ w) _ (.inl rfl) (fun ρ w hC hc hfn hf => by have e37 : ρ (.tmp 37) = _ := hf 37 (by decide); have e43 : ρ (.tmp 43) = _ := hf 43 (by decide); (conv => lhs; simp [execOp, go_sem, hc, e37, e43])) ?_
            intro A W4 hC hn hd hf
            have y0 : A.eval (.tmp 0) = _ := Eq.trans (hf 0) (by conv => lhs; simp [go_sem])
            have y1 : A.eval (.tmp 1) = _ := Eq.trans (hf 1) (by conv => lhs; simp [go_sem])
            have y2 : A.eval (.tmp 2) = _ := Eq.trans (hf 2) (by conv => lhs; simp [go_sem])
            have y3 : A.eval (.tmp 3) = _ := Eq.trans (hf 3) (by conv => lhs; simp [go_sem])
            have y4 : A.eval (.tmp 4) = _ := Eq.trans (hf 4) (by conv => lhs; simp [go_sem])
            have y5 : A.eval (.tmp 5) = _ := Eq.trans (hf 5) (by conv => lhs; simp [go_sem])
            have y6 : A.eval (.tmp 6) = _ := Eq.trans (hf 6) (by conv => lhs; simp [go_sem])
            have y7 : A.eval (.tmp 7) = _ := Eq.trans (hf 7) (by conv => lhs; simp [go_sem])
            have y8 : A.eval (.tmp 8) = _ := Eq.trans (hf 8) (by conv => lhs; simp [go_sem])
            have y9 : A.eval (.tmp 9) = _ := Eq.trans (hf 9) (by conv => lhs; simp [go_sem])
            have y10 : A.eval (.tmp 10) = _ := Eq.trans (hf 10) (by conv => lhs; simp [go_sem])
            have y11 : A.eval (.tmp 11) = _ := Eq.trans (hf 11) (by conv => lhs; simp [go_sem])
            have y12 : A.eval (.tmp 12) = _ := Eq.trans (hf 12) (by conv => lhs; simp [go_sem])
            have y13 : A.eval (.tmp 13) = _ := Eq.trans (hf 13) (by conv => lhs; simp [go_sem])
            have y14 : A.eval (.tmp 14) = _ := Eq.trans (hf 14) (by conv => lhs; simp [go_sem])
            have y15 : A.eval (.tmp 15) = _ := Eq.trans (hf 15) (by conv => lhs; simp [go_sem])
            have y16 : A.eval (.tmp 16) = _ := Eq.trans (hf 16) (by conv => lhs; simp [go_sem])
            have y17 : A.eval (.tmp 17) = _ := Eq.trans (hf 17) (by conv => lhs; simp [go_sem])
            have y18 : A.eval (.tmp 18) = _ := Eq.trans (hf 18) (by conv => lhs; simp [go_sem])
            have y19 : A.eval (.tmp 19) = _ := Eq.trans (hf 19) (by conv => lhs; simp [go_sem])
            have y20 : A.eval (.tmp 20) = _ := Eq.trans (hf 20) (by conv => lhs; simp [go_sem])
            have y21 : A.eval (.tmp 21) = _ := Eq.trans (hf 21) (by conv => lhs; simp [go_sem])
            have y22 : A.eval (.tmp 22) = _ := Eq.trans (hf 22) (by conv => lhs; simp [go_sem])
            have y23 : A.eval (.tmp 23) = _ := Eq.trans (hf 23) (by conv => lhs; simp [go_sem])
            have y24 : A.eval (.tmp 24) = _ := Eq.trans (hf 24) (by conv => lhs; simp [go_sem])
            have y25 : A.eval (.tmp 25) = _ := Eq.trans (hf 25) (by conv => lhs; simp [go_sem])
            have y26 : A.eval (.tmp 26) = _ := Eq.trans (hf 26) (by conv => lhs; simp [go_sem])
            have y27 : A.eval (.tmp 27) = _ := Eq.trans (hf 27) (by conv => lhs; simp [go_sem])
            have y28 : A.eval (.tmp 28) = _ := Eq.trans (hf 28) (by conv => lhs; simp [go_sem])
            have y29 : A.eval (.tmp 29) = _ := Eq.trans (hf 29) (by conv => lhs; simp [go_sem])
            have y30 : A.eval (.tmp 30) = _ := Eq.trans (hf 30) (by conv => lhs; simp [go_sem])
            have y31 : A.eval (.tmp 31) = _ := Eq.trans (hf 31) (by conv => lhs; simp [go_sem])
            have y32 : A.eval (.tmp 32) = _ := Eq.trans (hf 32) (by conv => lhs; simp [go_sem])
            have y33 : A.eval (.tmp 33) = _ := Eq.trans (hf 33) (by conv => lhs; simp [go_sem])
            have y34 : A.eval (.tmp 34) = _ := Eq.trans (hf 34) (by conv => lhs; simp [go_sem])
            have y35 : A.eval (.tmp 35) = _ := hf 35
            have y36 : A.eval (.tmp 36) = _ := hf 36
            have y37 : A.eval (.tmp 37) = _ := hf 37
            have y38 : A.eval (.tmp 38) = _ := hf 38
            have y39 : A.eval (.tmp 39) = _ := hf 39
            have y40 : A.eval (.tmp 40) = _ := hf 40
            have y41 : A.eval (.tmp 41) = _ := hf 41
            have y42 : A.eval (.tmp 42) = _ := hf 42
            have y43 : A.eval (.tmp 43) = _ := hf 43
            have y44 : A.eval (.tmp 44) = _ := hf 44
            have y45 : A.eval (.tmp 45) = _ := Eq.trans (hf 45) (by conv => lhs; simp [go_sem])
            have y46 : A.eval (.tmp 46) = _ := Eq.trans (hf 46) (by conv => lhs; simp [go_sem])
            have y47 : A.eval (.tmp 47) = _ := Eq.trans (hf 47) (by conv => lhs; simp [go_sem])
            have y48 : A.eval (.tmp 48) = _ := Eq.trans (hf 48) (by conv => lhs; simp [go_sem])
            have y49 : A.eval (.tmp 49) = _ := Eq.trans (hf 49) (by conv => lhs; simp [go_sem])
            have y50 : A.eval (.tmp 50) = _ := Eq.trans (hf 50) (by conv => lhs; simp [go_sem])
            have y51 : A.eval (.tmp 51) = _ := Eq.trans (hf 51) (by conv => lhs; simp [go_sem])
            clear hf
            have hA := frame_eq hn
            rw [show List.range 52 = [0, 1, 2, 3, 4, 5, 6, 7, 8, 9, 10, 11, 12, 13, 14, 15, 16, 17, 18, 19, 20, 21, 22, 23, 24, 25, 26, 27, 28, 29, 30, 31, 32, 33, 34, 35, 36, 37, 38, 39, 40, 41, 42, 43, 44, 45, 46, 47, 48, 49, 50, 51] from rfl, hd] at hA
            simp only [List.map_cons, List.map_nil, y0, y1, y2, y3, y4, y5, y6, y7, y8, y9, y10, y11, y12, y13, y14, y15, y16, y17, y18, y19, y20, y21, y22, y23, y24, y25, y26, y27, y28, y29, y30, y31, y32, y33, y34, y35, y36, y37, y38, y39, y40, y41, y42, y43, y44, y45, y46, y47, y48, y49, y50, y51] at hA
            clear y0 y1 y2 y3 y4 y5 y6 y7 y8 y9 y10 y11 y12 y13 y14 y15 y16 y17 y18 y19 y20 y21 y22 y23 y24 y25 y26 y27 y28 y29 y30 y31 y32 y33 y34 y35 y36 y37 y38 y39 y40 y41 y42 y43 y44 y45 y46 y47 y48 y49 y50 y51
            clear hn hd
            subst hA
            clear kc
            have A4 := Lib.hid (A2.out.keep hC)
            clear hC
            obtain ⟨V4, hV4⟩ : ∃ V, V = W4 := ⟨_, rfl⟩
            subst hV4
            cases z2 with
            | true =>
              have hcw : C6 V4 b (off + k * 6) (n, t, o, r, d, i) := HC.out.below A4.out.2.2.2.2 hB
              obtain ⟨e0, e1, e2, e3, e4, e5⟩ := hcw
              obtain ⟨⟨x0, x1, x2, x3, x4, x5⟩, xf⟩ := A4.out.2.1
              simp only at x0 x1 x2 x3 x4 x5
              have xf0 := xf 0
              have xf1 := xf 1
              have xf2 := xf 2
              have xf3 := xf 3
              have xf4 := xf 4
              have xf5 := xf 5
              obtain ⟨V5, hW5⟩ : ∃ V5, V5 = put6 V4 (w.heap.size + 1 + 1 + 1) (n, t, o, r, d, i) := ⟨_, rfl⟩
              have A5 : Hid (AllR w V5 _ _) := hW5 ▸ A4.out.high (n, t, o, r, d, i)
              have hW6 : ((((((V4.setCell ⟨w.heap.size + 1 + 1 + 1, 0, none⟩ (.bool n)).setCell ⟨w.heap.size + 1 + 1 + 1, 1, none⟩ (.int .i64 t)).setCell ⟨w.heap.size + 1 + 1 + 1, 2, none⟩ (.int .i64 o)).setCell ⟨w.heap.size + 1 + 1 + 1, 3, none⟩ (.int .i64 r)).setCell ⟨w.heap.size + 1 + 1 + 1, 4, none⟩ (.int .i64 d)).setCell ⟨w.heap.size + 1 + 1 + 1, 5, none⟩ (.int .i64 i)) = V5 := hW5.symm
              clear hW5
              go_wp2_with fail
              try rw [hW6]
              clear hW6
              clear e0 e1 e2 e3 e4 e5 x0 x1 x2 x3 x4 x5 xf xf0 xf1 xf2 xf3 xf4 xf5
              go_wp2_with fail
              go_roundw
              case rel => exact ⟨k + 1, by omega, by go_num, by rw [E1.out.2], by rw [E1.out.1, E2.out.1]; exact A5.out⟩
              case measure => simp [intOf]; omega
            | false =>
              go_wp2_with fail
              go_roundw
              case rel => exact ⟨k + 1, by omega, by go_num, by rw [E1.out.2], by rw [E1.out.1, E2.out.1]; exact A4.out⟩
              case measure => simp [intOf]; omega
    · obtain rfl : k = hs.length := by omega
      clear hh
      have hA' := hA
      obtain ⟨⟨⟨p0, p1, p2, p3, p4, p5⟩, _⟩, ⟨⟨q0, q1, q2, q3, q4, q5⟩, _⟩, ⟨⟨a0, a1, a2, a3, a4, a5⟩, fz⟩, ⟨⟨b0, b1, b2, b3, b4, b5⟩, fz'⟩, hb⟩ := hA'
      generalize hlo : bv lss hs hs.length = lo at *
      generalize hhi : bv mor hs hs.length = hi at *
      generalize hany : bany lss hs hs.length = any at *
      have EQ := Lib.hid (And.intro hlo hhi)
      clear hlo hhi
      have HANY := Lib.hid hany
      clear hany
      obtain ⟨n, t, o, r, d, i⟩ := lo
      obtain ⟨n', t', o', r', d', i'⟩ := hi
      simp only at p0 p1 p2 p3 p4 p5 q0 q1 q2 q3 q4 q5
      have hb6 := Lib.hid (bel_set6 (b := w.heap.size + 1) (bel_set6 (b := w.heap.size) hb (Nat.le_refl _) n t o r d i) (by omega) n' t' o' r' d' i')
      clear hA HA hb
      go_wp2_with fail
      go_region
      go_wp2_with fail
      exact bodyPost_ret (v := .tuple #[.agg #[.bool n, .int .i64 t, .int .i64 o, .int .i64 r, .int .i64 d, .int .i64 i], .agg #[.bool n', .int .i64 t', .int .i64 o', .int .i64 r', .int .i64 d', .int .i64 i'], .bool any]) (by simp [results, Try.results26, go_sem, a0, a1, a2, a3, a4, a5, b0, b1, b2, b3, b4, b5]) rfl ⟨by rw [EQ.out.1, EQ.out.2, HANY.out]; rfl, hb6.out.drew⟩
#print axioms rends_any
end Go.Proofs.Ytkgckmlphfafjaa
