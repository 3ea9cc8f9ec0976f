/- What is left of a number, how many objects, which are right, how many bytes: the program's own calls. No conditions but on lengths. Which batches are right: the program's Check. No conditions but on lengths. A row of batches of the call's own whose last one is being filled. No conditions but on lengths. Objects as batches: the program's part. No conditions but on lengths. Objects as batches: the program's Pack. No conditions but on lengths. -/
import Derived.Test.YtfiaghfaijlfjaaGreatBma
import Derived.Test.YtfiaghfaijlfjaaGreatZfa
import Derived.Test.YtfiaghfaijlfjaaGreatTyp2
import Derived.Test.YtfiaghfaijlfjaaGreatTyp4
import Derived.Maps.AppendAt
import Derived.Laws.OwnMore
import Derived.ArgAppend
import Derived.Deep.LoopGhost
namespace Go.Proofs.YtfiaghfaijlfjaaGreat
set_option maxRecDepth 100000
open Go.RowKit Go.Sort

theorem pleft_any (n : Int) (w : World) : Calls Tryz.prog 70 #[.int .i64 n] w fun e w' => e = .returned (.int .i64 (lft n)) ∧ Below w.heap.size w w' := by
  have cF := fun w => far_any 0 n w
  rw [show far 0 n = lft n by unfold far lft; omega] at cF
  go_enter Tryz.func70, Tryz.ntmps70
  go_wp2_with (go_at_call 45; refine (cF _).mono ?_; rintro e w1 ⟨rfl, hb⟩; have HB := Lib.hid hb; clear hb)
  go_ret
  exact ⟨rfl, HB.out⟩
theorem iscount_fix (n : Int) (q : Bool) (hq : q = true ↔ (1 ≤ n ∧ n ≤ 32)) (w : World) : Calls Tryz.prog 78 #[.int .i64 n] w fun e w' => e = .returned (.bool q) ∧ w = w' := by
  by_cases h1 : 1 ≤ n
  · by_cases h2 : n ≤ 32
    · obtain rfl : q = true := hq.2 ⟨h1, h2⟩
      clear hq
      go_enter Tryz.func78, Tryz.ntmps78
      go_wp2
      go_ret
      exact ⟨rfl, rfl⟩
    · obtain rfl : q = false := by cases q with
        | false => rfl
        | true => exact absurd (hq.1 rfl).2 h2
      clear hq
      go_enter Tryz.func78, Tryz.ntmps78
      go_wp2
      go_ret
      exact ⟨rfl, rfl⟩
  · obtain rfl : q = false := by cases q with
      | false => rfl
      | true => exact absurd (hq.1 rfl).1 h1
    clear hq
    go_enter Tryz.func78, Tryz.ntmps78
    go_wp2
    go_ret
    exact ⟨rfl, rfl⟩
theorem iscount_any (n : Int) (w : World) : Calls Tryz.prog 78 #[.int .i64 n] w fun e w' => e = .returned (.bool (decide (1 ≤ n ∧ n ≤ 32))) ∧ w = w' := iscount_fix n _ decide_eq_true_iff w
set_option maxHeartbeats 8000000 in
theorem areright_any (v : Value) (ys : List Ob) (w : World) (hy : Os w v ys) (hl : ys.length ≤ 3000) :
    Calls Tryz.prog 68 #[v] w fun e w' => e = .returned (.bool (decide (AllOk ys))) ∧ Below w.heap.size w w' := by
  obtain ⟨a, c, rfl⟩ := hy.form
  have HY := Lib.hid hy
  clear hy
  go_enter Tryz.func68, Tryz.ntmps68
  go_wp2_with fail
  go_loopw [4, 7] (fun _ i wr => ∃ k : Nat, k ≤ ys.length ∧ i = .int .i64 k ∧ (∀ i, i < k → (ys.getD i z12).Ok) ∧ Below w.heap.size w wr) (fun _ i _ => ys.length - (intOf i).toNat)
  case atStart => exact ⟨0, Nat.zero_le _, rfl, fun i h => absurd h (Nat.not_lt_zero _), Below.refl _ _⟩
  case round =>
    obtain ⟨k, hk, rfl, hok, hbel⟩ := hrel
    have HO := Lib.hid hok
    have HB := Lib.hid hbel
    clear hok hbel
    by_cases hlt : k < ys.length
    · obtain ⟨b, off, rfl, hB, hc⟩ := (HY.out.below HB.out).at hlt
      obtain ⟨y, hyk⟩ : ∃ y, ys.getD k z12 = y := ⟨_, rfl⟩
      rw [hyk] at hc
      obtain ⟨p0, p1, p2, p3, p4, p5, p6, p7, p8, p9, p10, p11⟩ := hc.all
      have HK := Lib.hid hyk
      have H2 := Lib.hid ((Below.refl _ wr).alloc (Nat.le_refl _) (.cells #[.int .i64 y.k, .int .i64 y.x, .bool y.n, .int .i64 y.t, .int .i64 y.o, .int .i64 y.r, .int .i64 y.d, .int .i64 y.i, .int .i64 y.p, .int .i64 y.q, .int .i64 y.s, .int .i64 y.m] 53))
      clear hc hyk
      by_cases hq : y.Ok
      · have cB : ∀ w, Calls Tryz.prog 38 #[.agg #[.int .i64 y.k, .int .i64 y.x, .bool y.n, .int .i64 y.t, .int .i64 y.o, .int .i64 y.r, .int .i64 y.d, .int .i64 y.i, .int .i64 y.p, .int .i64 y.q, .int .i64 y.s, .int .i64 y.m]] w fun e w' => e = .returned (.int .i64 0) ∧ Below w.heap.size w w' := fun w => by
          have h := ocheck_any y.k y.x y.n y.t y.o y.r y.d y.i y.p y.q y.s y.m w
          rwa [show obc y.k y.x y.n y.t y.o y.r y.d y.i y.p y.q y.s y.m = 0 from obc_ok hq] at h
        have HQ := Lib.hid hq
        clear hq
        go_wp2_with fail
        refine (cB _).mono ?_
        rintro e w1 ⟨rfl, hb⟩
        replace HB := Lib.hid (HB.out.trans ((H2.out.trans (hb.mono H2.out.size)).mono HB.out.size))
        clear hb
        go_wp2_with fail
        go_roundw
        case rel =>
          refine ⟨k + 1, by omega, by go_num, ?_, HB.out⟩
          intro j hj
          by_cases h : j < k
          · exact HO.out j h
          · obtain rfl : j = k := by omega
            rw [HK.out]; exact HQ.out
        case measure => simp [intOf]; omega
      · have cB : ∀ w, Calls Tryz.prog 38 #[.agg #[.int .i64 y.k, .int .i64 y.x, .bool y.n, .int .i64 y.t, .int .i64 y.o, .int .i64 y.r, .int .i64 y.d, .int .i64 y.i, .int .i64 y.p, .int .i64 y.q, .int .i64 y.s, .int .i64 y.m]] w fun e w' => e = .returned (.int .i64 1) ∧ Below w.heap.size w w' := fun w => by
          have h := ocheck_any y.k y.x y.n y.t y.o y.r y.d y.i y.p y.q y.s y.m w
          rwa [show obc y.k y.x y.n y.t y.o y.r y.d y.i y.p y.q y.s y.m = 1 from obc_no hq] at h
        have HQ := Lib.hid hq
        clear hq
        go_wp2_with fail
        refine (cB _).mono ?_
        rintro e w1 ⟨rfl, hb⟩
        replace HB := Lib.hid (HB.out.trans ((H2.out.trans (hb.mono H2.out.size)).mono HB.out.size))
        clear hb
        go_wp2_with fail
        go_ret
        refine ⟨ret_false (fun h => HQ.out (by rw [← HK.out]; exact h k hlt)), HB.out⟩
    · obtain rfl : k = ys.length := by omega
      go_wp2_with fail
      go_ret
      exact ⟨ret_true HO.out, HB.out⟩
set_option maxHeartbeats 8000000 in
theorem psize_any (v : Value) (ys : List Ob) (w : World) (hy : Os w v ys) (hl : ys.length ≤ 3000) :
    Calls Tryz.prog 79 #[v] w fun e w' => e = .returned (.int .i64 (3 + (osz ys : Int))) ∧ Below w.heap.size w w' := by
  obtain ⟨a, c, rfl⟩ := hy.form
  have HY := Lib.hid hy
  clear hy
  go_enter Tryz.func79, Tryz.ntmps79
  go_wp2_with fail
  go_loopw [3, 5, 8] (fun n _ i wr => ∃ k : Nat, k ≤ ys.length ∧ i = .int .i64 k ∧ n = .int .i64 (3 + (osz (ys.take k) : Int)) ∧ Below w.heap.size w wr) (fun _ _ i _ => ys.length - (intOf i).toNat)
  case atStart => exact ⟨0, Nat.zero_le _, rfl, rfl, Below.refl _ _⟩
  case round =>
    obtain ⟨k, hk, rfl, rfl, hbel⟩ := hrel
    have HB := Lib.hid hbel
    clear hbel
    have hz := osz_le (ys.take k)
    have hzk : osz (ys.take k) ≤ 120000 := by rw [List.length_take] at hz; omega
    clear hz
    by_cases hlt : k < ys.length
    · obtain ⟨b, off, rfl, hB, hc⟩ := (HY.out.below HB.out).at hlt
      have hsucc := Lib.hid (osz_succ ys k hlt)
      obtain ⟨y, hyk⟩ : ∃ y, ys.getD k z12 = y := ⟨_, rfl⟩
      rw [hyk] at hc hsucc
      obtain ⟨p0, p1, p2, p3, p4, p5, p6, p7, p8, p9, p10, p11⟩ := hc.all
      have H2 := Lib.hid ((Below.refl _ wr).alloc (Nat.le_refl _) (.cells #[.int .i64 y.k, .int .i64 y.x, .bool y.n, .int .i64 y.t, .int .i64 y.o, .int .i64 y.r, .int .i64 y.d, .int .i64 y.i, .int .i64 y.p, .int .i64 y.q, .int .i64 y.s, .int .i64 y.m] 53))
      have hyl := bs_le y
      have cB : ∀ w, Calls Tryz.prog 87 #[.agg #[.int .i64 y.k, .int .i64 y.x, .bool y.n, .int .i64 y.t, .int .i64 y.o, .int .i64 y.r, .int .i64 y.d, .int .i64 y.i, .int .i64 y.p, .int .i64 y.q, .int .i64 y.s, .int .i64 y.m]] w fun e w' => e = .returned (.int .i64 y.bs.length) ∧ Below w.heap.size w w' := fun w => osize_any y.k y.x y.n y.t y.o y.r y.d y.i y.p y.q y.s y.m w
      clear hc hyk
      go_wp2_with fail
      refine (cB _).mono ?_
      rintro e w1 ⟨rfl, hb⟩
      replace HB := Lib.hid (HB.out.trans ((H2.out.trans (hb.mono H2.out.size)).mono HB.out.size))
      clear hb
      go_wp2_with fail
      go_roundw
      case rel => exact ⟨k + 1, by omega, by go_num, by rw [hsucc.out]; go_num, HB.out⟩
      case measure => simp [intOf]; omega
    · obtain rfl : k = ys.length := by omega
      go_wp2_with fail
      go_ret
      refine ⟨?_, HB.out⟩
      rw [List.take_length]; rfl
end Go.Proofs.YtfiaghfaijlfjaaGreat

namespace Go.Proofs.YtfiaghfaijlfjaaGreat
set_option maxRecDepth 100000
open Go.RowKit Go.Sort

set_option maxHeartbeats 8000000 in
theorem pcheck_a (M : Int) (a : Option Addr) (c : Nat) (ys : List Ob) (w : World) (hy : Os w (.slice a ys.length c) ys) (_ : ys.length ≤ 3000) (hN : (M != lft M) = true) :
    Calls Tryz.prog 49 #[.agg #[.int .i64 M, .slice a ys.length c]] w fun e w' => e = .returned (.int .i64 1) ∧ Below w.heap.size w w' := by
  have cL : ∀ w, Calls Tryz.prog 70 #[.int .i64 M] w fun e w' => e = .returned (.int .i64 (lft M)) ∧ Below w.heap.size w w' := fun w => pleft_any M w
  have HY := Lib.hid (hy.alloc (.cells #[.int .i64 M, .slice a ys.length c] 34))
  have HB : Hid (Below w.heap.size w (w.alloc (.cells #[.int .i64 M, .slice a ys.length c] 34))) := (Below.refl _ w).alloc (Nat.le_refl _) _
  have k0 : (w.alloc (.cells #[.int .i64 M, .slice a ys.length c] 34)).cell? ⟨w.heap.size, 0, none⟩ = some (.int .i64 M) := by simp
  have k1 : (w.alloc (.cells #[.int .i64 M, .slice a ys.length c] 34)).cell? ⟨w.heap.size, 1, none⟩ = some (.slice a ys.length c) := by simp
  clear hy
  go_enter Tryz.func49, Tryz.ntmps49
  go_wp2_with fail
  generalize w.alloc (.cells #[.int .i64 M, .slice a ys.length c] 34) = V1 at *
  have kc : ∀ w', Below V1.heap.size V1 w' → w'.cell? ⟨w.heap.size, 0, none⟩ = some (.int .i64 M) ∧ w'.cell? ⟨w.heap.size, 1, none⟩ = some (.slice a ys.length c) := fun w' h =>
    ⟨by rw [h.cell (World.block_lt_of_cell? V1 _ k0)]; exact k0, by rw [h.cell (World.block_lt_of_cell? V1 _ k1)]; exact k1⟩

  refine wp_region_typed (C := fun w' => Below V1.heap.size V1 w') (X := fun w w' => Below w.heap.size w w') (n := 28) (by kernel_rfl) (by kernel_rfl) rfl (fun w => Below.refl _ w) (Below.refl _ _).drew ?_
  refine w_is (fun w => Below.refl _ w) _ (.inl rfl) (fun ρ w hC hc hfn hf => by have e1 : ρ (.tmp 1) = _ := hf 1 (by decide); (conv => lhs; simp [execOp, go_sem, hc, e1])) ?_
  refine w_is (fun w => Below.refl _ w) _ (.inl rfl) (fun ρ w hC hc hfn hf => by have e3 : ρ (.tmp 3) = _ := hf 3 (by decide); (conv => lhs; simp [execOp, go_sem, hc, e3, kc w hC])) ?_
  refine w_is (fun w => Below.refl _ w) _ (.inl rfl) (fun ρ w hC hc hfn hf => by have e1 : ρ (.tmp 1) = _ := hf 1 (by decide); (conv => lhs; simp [execOp, go_sem, hc, e1])) ?_
  refine w_is (fun w => Below.refl _ w) _ (.inl rfl) (fun ρ w hC hc hfn hf => by have e5 : ρ (.tmp 5) = _ := hf 5 (by decide); (conv => lhs; simp [execOp, go_sem, hc, e5, kc w hC])) ?_
  refine w_call (Is _) (fun _ _ _ h _ => h) 70 (.inl rfl) (fun ρ w hC hc hfn hf => by have e6 : ρ (.tmp 6) = _ := hf 6 (by decide); exact ⟨_, by (conv => lhs; simp [execOp, resolve, invoke, go_sem, hc, hfn, e6]), tc_below hC (cL w)⟩) ?_
  refine w_is (fun w => Below.refl _ w) _ (.inl rfl) (fun ρ w hC hc hfn hf => by have e4 : ρ (.tmp 4) = _ := hf 4 (by decide); have e7 : ρ (.tmp 7) = _ := hf 7 (by decide); (conv => lhs; simp [execOp, go_sem, hc, e4, e7, hN])) ?_
  refine w_is (fun w => Below.refl _ w) _ (.inl rfl) (fun ρ w hC hc hfn hf => by have e8 : ρ (.tmp 8) = _ := hf 8 (by decide); (conv => lhs; simp [execOp, go_sem, hc, e8])) ?_
  refine w_skip rfl rfl (known_is rfl) ?_
  refine w_skip rfl rfl (known_is rfl) ?_
  refine w_skip rfl rfl (known_is rfl) ?_
  refine w_skip rfl rfl (known_is rfl) ?_
  refine w_skip rfl rfl (known_is rfl) ?_
  refine w_is (fun w => Below.refl _ w) _ (.inl rfl) (fun ρ w hC hc hfn hf => by have e9 : ρ (.tmp 9) = _ := hf 9 (by decide); have e14 : ρ (.tmp 14) = _ := hf 14 (by decide); (conv => lhs; simp [execOp, go_sem, hc, e9, e14])) ?_
  refine w_is (fun w => Below.refl _ w) _ (.inl rfl) (fun ρ w hC hc hfn hf => by have e15 : ρ (.tmp 15) = _ := hf 15 (by decide); (conv => lhs; simp [execOp, go_sem, hc, e15])) ?_
  refine w_skip rfl rfl (known_is rfl) ?_
  refine w_skip rfl rfl (known_is rfl) ?_
  refine w_skip rfl rfl (known_is rfl) ?_
  refine w_skip rfl rfl (known_is rfl) ?_
  refine w_is (fun w => Below.refl _ w) _ (.inl rfl) (fun ρ w hC hc hfn hf => by have e16 : ρ (.tmp 16) = _ := hf 16 (by decide); have e20 : ρ (.tmp 20) = _ := hf 20 (by decide); (conv => lhs; simp [execOp, go_sem, hc, e16, e20])) ?_
  refine w_is (fun w => Below.refl _ w) _ (.inl rfl) (fun ρ w hC hc hfn hf => by have e21 : ρ (.tmp 21) = _ := hf 21 (by decide); (conv => lhs; simp [execOp, go_sem, hc, e21])) ?_
  refine w_skip rfl rfl (known_is rfl) ?_
  refine w_skip rfl rfl (known_is rfl) ?_
  refine w_skip rfl rfl (known_is rfl) ?_
  refine w_skip rfl rfl (known_is rfl) ?_
  refine w_is (fun w => Below.refl _ w) _ (.inl rfl) (fun ρ w hC hc hfn hf => by have e22 : ρ (.tmp 22) = _ := hf 22 (by decide); have e26 : ρ (.tmp 26) = _ := hf 26 (by decide); (conv => lhs; simp [execOp, go_sem, hc, e22, e26])) ?_
  intro A V5 hC hn hd hf
  have y0 : A.eval (.tmp 0) = _ := Eq.trans (hf 0) (by conv => lhs; simp [go_sem])
  have y1 : A.eval (.tmp 1) = _ := Eq.trans (hf 1) (by conv => lhs; simp [go_sem])
  have y2 : A.eval (.tmp 2) = _ := Eq.trans (hf 2) (by conv => lhs; simp [go_sem])
  have y3 : A.eval (.tmp 3) = _ := hf 3
  have y4 : A.eval (.tmp 4) = _ := hf 4
  have y5 : A.eval (.tmp 5) = _ := hf 5
  have y6 : A.eval (.tmp 6) = _ := hf 6
  have y7 : A.eval (.tmp 7) = _ := hf 7
  have y8 : A.eval (.tmp 8) = _ := hf 8
  have y9 : A.eval (.tmp 9) = _ := hf 9
  have y10 : A.eval (.tmp 10) = _ := hf 10
  have y11 : A.eval (.tmp 11) = _ := hf 11
  have y12 : A.eval (.tmp 12) = _ := hf 12
  have y13 : A.eval (.tmp 13) = _ := hf 13
  have y14 : A.eval (.tmp 14) = _ := hf 14
  have y15 : A.eval (.tmp 15) = _ := hf 15
  have y16 : A.eval (.tmp 16) = _ := hf 16
  have y17 : A.eval (.tmp 17) = _ := hf 17
  have y18 : A.eval (.tmp 18) = _ := hf 18
  have y19 : A.eval (.tmp 19) = _ := hf 19
  have y20 : A.eval (.tmp 20) = _ := hf 20
  have y21 : A.eval (.tmp 21) = _ := hf 21
  have y22 : A.eval (.tmp 22) = _ := hf 22
  have y23 : A.eval (.tmp 23) = _ := hf 23
  have y24 : A.eval (.tmp 24) = _ := hf 24
  have y25 : A.eval (.tmp 25) = _ := hf 25
  have y26 : A.eval (.tmp 26) = _ := hf 26
  have y27 : A.eval (.tmp 27) = _ := hf 27
  clear hf
  have hA := frame_eq hn
  rw [show List.range 28 = [0, 1, 2, 3, 4, 5, 6, 7, 8, 9, 10, 11, 12, 13, 14, 15, 16, 17, 18, 19, 20, 21, 22, 23, 24, 25, 26, 27] from rfl, hd] at hA
  simp only [List.map_cons, List.map_nil, y0, y1, y2, y3, y4, y5, y6, y7, y8, y9, y10, y11, y12, y13, y14, y15, y16, y17, y18, y19, y20, y21, y22, y23, y24, y25, y26, y27] at hA
  clear y0 y1 y2 y3 y4 y5 y6 y7 y8 y9 y10 y11 y12 y13 y14 y15 y16 y17 y18 y19 y20 y21 y22 y23 y24 y25 y26 y27
  clear hn hd
  subst hA
  go_wp2_with fail
  go_ret
  exact ⟨rfl, HB.out.trans (hC.mono HB.out.size)⟩
set_option maxHeartbeats 8000000 in
theorem pcheck_b (M : Int) (a : Option Addr) (c : Nat) (ys : List Ob) (w : World) (hy : Os w (.slice a ys.length c) ys) (_ : ys.length ≤ 3000) (hN : (M != lft M) = false) (hL : ¬ (1 ≤ (ys.length : Int) ∧ (ys.length : Int) ≤ 32)) :
    Calls Tryz.prog 49 #[.agg #[.int .i64 M, .slice a ys.length c]] w fun e w' => e = .returned (.int .i64 1) ∧ Below w.heap.size w w' := by
  have cL : ∀ w, Calls Tryz.prog 70 #[.int .i64 M] w fun e w' => e = .returned (.int .i64 (lft M)) ∧ Below w.heap.size w w' := fun w => pleft_any M w
  have cC : ∀ w, Calls Tryz.prog 78 #[.int .i64 ys.length] w fun e w' => e = .returned (.bool false) ∧ w = w' := fun w => by have h := iscount_any ys.length w; rwa [decide_eq_false hL] at h
  have HY := Lib.hid (hy.alloc (.cells #[.int .i64 M, .slice a ys.length c] 34))
  have HB : Hid (Below w.heap.size w (w.alloc (.cells #[.int .i64 M, .slice a ys.length c] 34))) := (Below.refl _ w).alloc (Nat.le_refl _) _
  have k0 : (w.alloc (.cells #[.int .i64 M, .slice a ys.length c] 34)).cell? ⟨w.heap.size, 0, none⟩ = some (.int .i64 M) := by simp
  have k1 : (w.alloc (.cells #[.int .i64 M, .slice a ys.length c] 34)).cell? ⟨w.heap.size, 1, none⟩ = some (.slice a ys.length c) := by simp
  clear hy
  go_enter Tryz.func49, Tryz.ntmps49
  go_wp2_with fail
  generalize w.alloc (.cells #[.int .i64 M, .slice a ys.length c] 34) = V1 at *
  have kc : ∀ w', Below V1.heap.size V1 w' → w'.cell? ⟨w.heap.size, 0, none⟩ = some (.int .i64 M) ∧ w'.cell? ⟨w.heap.size, 1, none⟩ = some (.slice a ys.length c) := fun w' h =>
    ⟨by rw [h.cell (World.block_lt_of_cell? V1 _ k0)]; exact k0, by rw [h.cell (World.block_lt_of_cell? V1 _ k1)]; exact k1⟩

  refine wp_region_typed (C := fun w' => Below V1.heap.size V1 w') (X := fun w w' => Below w.heap.size w w') (n := 28) (by kernel_rfl) (by kernel_rfl) rfl (fun w => Below.refl _ w) (Below.refl _ _).drew ?_
  refine w_is (fun w => Below.refl _ w) _ (.inl rfl) (fun ρ w hC hc hfn hf => by have e1 : ρ (.tmp 1) = _ := hf 1 (by decide); (conv => lhs; simp [execOp, go_sem, hc, e1])) ?_
  refine w_is (fun w => Below.refl _ w) _ (.inl rfl) (fun ρ w hC hc hfn hf => by have e3 : ρ (.tmp 3) = _ := hf 3 (by decide); (conv => lhs; simp [execOp, go_sem, hc, e3, kc w hC])) ?_
  refine w_is (fun w => Below.refl _ w) _ (.inl rfl) (fun ρ w hC hc hfn hf => by have e1 : ρ (.tmp 1) = _ := hf 1 (by decide); (conv => lhs; simp [execOp, go_sem, hc, e1])) ?_
  refine w_is (fun w => Below.refl _ w) _ (.inl rfl) (fun ρ w hC hc hfn hf => by have e5 : ρ (.tmp 5) = _ := hf 5 (by decide); (conv => lhs; simp [execOp, go_sem, hc, e5, kc w hC])) ?_
  refine w_call (Is _) (fun _ _ _ h _ => h) 70 (.inl rfl) (fun ρ w hC hc hfn hf => by have e6 : ρ (.tmp 6) = _ := hf 6 (by decide); exact ⟨_, by (conv => lhs; simp [execOp, resolve, invoke, go_sem, hc, hfn, e6]), tc_below hC (cL w)⟩) ?_
  refine w_is (fun w => Below.refl _ w) _ (.inl rfl) (fun ρ w hC hc hfn hf => by have e4 : ρ (.tmp 4) = _ := hf 4 (by decide); have e7 : ρ (.tmp 7) = _ := hf 7 (by decide); (conv => lhs; simp [execOp, go_sem, hc, e4, e7, hN])) ?_
  refine w_is (fun w => Below.refl _ w) _ (.inl rfl) (fun ρ w hC hc hfn hf => by have e8 : ρ (.tmp 8) = _ := hf 8 (by decide); (conv => lhs; simp [execOp, go_sem, hc, e8])) ?_
  refine w_is (fun w => Below.refl _ w) _ (.inr ⟨6, 9, false, rfl, rfl, known_is rfl⟩) (fun ρ w hC hc hfn hf => by have e1 : ρ (.tmp 1) = _ := hf 1 (by decide); (conv => lhs; simp [execOp, go_sem, hc, e1])) ?_
  refine w_is (fun w => Below.refl _ w) _ (.inr ⟨6, 9, false, rfl, rfl, known_is rfl⟩) (fun ρ w hC hc hfn hf => by have e10 : ρ (.tmp 10) = _ := hf 10 (by decide); (conv => lhs; simp [execOp, go_sem, hc, e10, kc w hC])) ?_
  refine w_is (fun w => Below.refl _ w) _ (.inr ⟨6, 9, false, rfl, rfl, known_is rfl⟩) (fun ρ w hC hc hfn hf => by have e11 : ρ (.tmp 11) = _ := hf 11 (by decide); (conv => lhs; simp [execOp, go_sem, hc, e11])) ?_
  refine w_call (Is _) (fun _ _ _ h _ => h) 78 (.inr ⟨6, 9, false, rfl, rfl, known_is rfl⟩) (fun ρ w hC hc hfn hf => by have e12 : ρ (.tmp 12) = _ := hf 12 (by decide); exact ⟨_, by (conv => lhs; simp [execOp, resolve, invoke, go_sem, hc, hfn, e12]), tc_same hC (cC w)⟩) ?_
  refine w_is (fun w => Below.refl _ w) _ (.inr ⟨6, 9, false, rfl, rfl, known_is rfl⟩) (fun ρ w hC hc hfn hf => by have e13 : ρ (.tmp 13) = _ := hf 13 (by decide); (conv => lhs; simp [execOp, go_sem, hc, e13])) ?_
  refine w_is (fun w => Below.refl _ w) _ (.inl rfl) (fun ρ w hC hc hfn hf => by have e9 : ρ (.tmp 9) = _ := hf 9 (by decide); have e14 : ρ (.tmp 14) = _ := hf 14 (by decide); (conv => lhs; simp [execOp, go_sem, hc, e9, e14])) ?_
  refine w_is (fun w => Below.refl _ w) _ (.inl rfl) (fun ρ w hC hc hfn hf => by have e15 : ρ (.tmp 15) = _ := hf 15 (by decide); (conv => lhs; simp [execOp, go_sem, hc, e15])) ?_
  refine w_skip rfl rfl (known_is rfl) ?_
  refine w_skip rfl rfl (known_is rfl) ?_
  refine w_skip rfl rfl (known_is rfl) ?_
  refine w_skip rfl rfl (known_is rfl) ?_
  refine w_is (fun w => Below.refl _ w) _ (.inl rfl) (fun ρ w hC hc hfn hf => by have e16 : ρ (.tmp 16) = _ := hf 16 (by decide); have e20 : ρ (.tmp 20) = _ := hf 20 (by decide); (conv => lhs; simp [execOp, go_sem, hc, e16, e20])) ?_
  refine w_is (fun w => Below.refl _ w) _ (.inl rfl) (fun ρ w hC hc hfn hf => by have e21 : ρ (.tmp 21) = _ := hf 21 (by decide); (conv => lhs; simp [execOp, go_sem, hc, e21])) ?_
  refine w_skip rfl rfl (known_is rfl) ?_
  refine w_skip rfl rfl (known_is rfl) ?_
  refine w_skip rfl rfl (known_is rfl) ?_
  refine w_skip rfl rfl (known_is rfl) ?_
  refine w_is (fun w => Below.refl _ w) _ (.inl rfl) (fun ρ w hC hc hfn hf => by have e22 : ρ (.tmp 22) = _ := hf 22 (by decide); have e26 : ρ (.tmp 26) = _ := hf 26 (by decide); (conv => lhs; simp [execOp, go_sem, hc, e22, e26])) ?_
  intro A V5 hC hn hd hf
  have y0 : A.eval (.tmp 0) = _ := Eq.trans (hf 0) (by conv => lhs; simp [go_sem])
  have y1 : A.eval (.tmp 1) = _ := Eq.trans (hf 1) (by conv => lhs; simp [go_sem])
  have y2 : A.eval (.tmp 2) = _ := Eq.trans (hf 2) (by conv => lhs; simp [go_sem])
  have y3 : A.eval (.tmp 3) = _ := hf 3
  have y4 : A.eval (.tmp 4) = _ := hf 4
  have y5 : A.eval (.tmp 5) = _ := hf 5
  have y6 : A.eval (.tmp 6) = _ := hf 6
  have y7 : A.eval (.tmp 7) = _ := hf 7
  have y8 : A.eval (.tmp 8) = _ := hf 8
  have y9 : A.eval (.tmp 9) = _ := hf 9
  have y10 : A.eval (.tmp 10) = _ := hf 10
  have y11 : A.eval (.tmp 11) = _ := hf 11
  have y12 : A.eval (.tmp 12) = _ := hf 12
  have y13 : A.eval (.tmp 13) = _ := hf 13
  have y14 : A.eval (.tmp 14) = _ := hf 14
  have y15 : A.eval (.tmp 15) = _ := hf 15
  have y16 : A.eval (.tmp 16) = _ := hf 16
  have y17 : A.eval (.tmp 17) = _ := hf 17
  have y18 : A.eval (.tmp 18) = _ := hf 18
  have y19 : A.eval (.tmp 19) = _ := hf 19
  have y20 : A.eval (.tmp 20) = _ := hf 20
  have y21 : A.eval (.tmp 21) = _ := hf 21
  have y22 : A.eval (.tmp 22) = _ := hf 22
  have y23 : A.eval (.tmp 23) = _ := hf 23
  have y24 : A.eval (.tmp 24) = _ := hf 24
  have y25 : A.eval (.tmp 25) = _ := hf 25
  have y26 : A.eval (.tmp 26) = _ := hf 26
  have y27 : A.eval (.tmp 27) = _ := hf 27
  clear hf
  have hA := frame_eq hn
  rw [show List.range 28 = [0, 1, 2, 3, 4, 5, 6, 7, 8, 9, 10, 11, 12, 13, 14, 15, 16, 17, 18, 19, 20, 21, 22, 23, 24, 25, 26, 27] from rfl, hd] at hA
  simp only [List.map_cons, List.map_nil, y0, y1, y2, y3, y4, y5, y6, y7, y8, y9, y10, y11, y12, y13, y14, y15, y16, y17, y18, y19, y20, y21, y22, y23, y24, y25, y26, y27] at hA
  clear y0 y1 y2 y3 y4 y5 y6 y7 y8 y9 y10 y11 y12 y13 y14 y15 y16 y17 y18 y19 y20 y21 y22 y23 y24 y25 y26 y27
  clear hn hd
  subst hA
  go_wp2_with fail
  go_ret
  exact ⟨rfl, HB.out.trans (hC.mono HB.out.size)⟩
set_option maxHeartbeats 8000000 in
theorem pcheck_c (M : Int) (a : Option Addr) (c : Nat) (ys : List Ob) (w : World) (hy : Os w (.slice a ys.length c) ys) (hl : ys.length ≤ 3000) (hN : (M != lft M) = false) (hL : 1 ≤ (ys.length : Int) ∧ (ys.length : Int) ≤ 32) (hR : ¬ AllOk ys) :
    Calls Tryz.prog 49 #[.agg #[.int .i64 M, .slice a ys.length c]] w fun e w' => e = .returned (.int .i64 1) ∧ Below w.heap.size w w' := by
  have cL : ∀ w, Calls Tryz.prog 70 #[.int .i64 M] w fun e w' => e = .returned (.int .i64 (lft M)) ∧ Below w.heap.size w w' := fun w => pleft_any M w
  have cC : ∀ w, Calls Tryz.prog 78 #[.int .i64 ys.length] w fun e w' => e = .returned (.bool true) ∧ w = w' := fun w => by have h := iscount_any ys.length w; rwa [decide_eq_true hL] at h
  have HY := Lib.hid (hy.alloc (.cells #[.int .i64 M, .slice a ys.length c] 34))
  have HB : Hid (Below w.heap.size w (w.alloc (.cells #[.int .i64 M, .slice a ys.length c] 34))) := (Below.refl _ w).alloc (Nat.le_refl _) _
  have k0 : (w.alloc (.cells #[.int .i64 M, .slice a ys.length c] 34)).cell? ⟨w.heap.size, 0, none⟩ = some (.int .i64 M) := by simp
  have k1 : (w.alloc (.cells #[.int .i64 M, .slice a ys.length c] 34)).cell? ⟨w.heap.size, 1, none⟩ = some (.slice a ys.length c) := by simp
  clear hy
  go_enter Tryz.func49, Tryz.ntmps49
  go_wp2_with fail
  generalize w.alloc (.cells #[.int .i64 M, .slice a ys.length c] 34) = V1 at *
  have kc : ∀ w', Below V1.heap.size V1 w' → w'.cell? ⟨w.heap.size, 0, none⟩ = some (.int .i64 M) ∧ w'.cell? ⟨w.heap.size, 1, none⟩ = some (.slice a ys.length c) := fun w' h =>
    ⟨by rw [h.cell (World.block_lt_of_cell? V1 _ k0)]; exact k0, by rw [h.cell (World.block_lt_of_cell? V1 _ k1)]; exact k1⟩
  have cR : ∀ w', Below V1.heap.size V1 w' → Calls Tryz.prog 68 #[.slice a ys.length c] w' fun e w'' => e = .returned (.bool false) ∧ Below w'.heap.size w' w'' := fun w' hb => by have h := areright_any (.slice a ys.length c) ys w' (HY.out.below hb) hl; rwa [decide_eq_false hR] at h

  refine wp_region_typed (C := fun w' => Below V1.heap.size V1 w') (X := fun w w' => Below w.heap.size w w') (n := 28) (by kernel_rfl) (by kernel_rfl) rfl (fun w => Below.refl _ w) (Below.refl _ _).drew ?_
  refine w_is (fun w => Below.refl _ w) _ (.inl rfl) (fun ρ w hC hc hfn hf => by have e1 : ρ (.tmp 1) = _ := hf 1 (by decide); (conv => lhs; simp [execOp, go_sem, hc, e1])) ?_
  refine w_is (fun w => Below.refl _ w) _ (.inl rfl) (fun ρ w hC hc hfn hf => by have e3 : ρ (.tmp 3) = _ := hf 3 (by decide); (conv => lhs; simp [execOp, go_sem, hc, e3, kc w hC])) ?_
  refine w_is (fun w => Below.refl _ w) _ (.inl rfl) (fun ρ w hC hc hfn hf => by have e1 : ρ (.tmp 1) = _ := hf 1 (by decide); (conv => lhs; simp [execOp, go_sem, hc, e1])) ?_
  refine w_is (fun w => Below.refl _ w) _ (.inl rfl) (fun ρ w hC hc hfn hf => by have e5 : ρ (.tmp 5) = _ := hf 5 (by decide); (conv => lhs; simp [execOp, go_sem, hc, e5, kc w hC])) ?_
  refine w_call (Is _) (fun _ _ _ h _ => h) 70 (.inl rfl) (fun ρ w hC hc hfn hf => by have e6 : ρ (.tmp 6) = _ := hf 6 (by decide); exact ⟨_, by (conv => lhs; simp [execOp, resolve, invoke, go_sem, hc, hfn, e6]), tc_below hC (cL w)⟩) ?_
  refine w_is (fun w => Below.refl _ w) _ (.inl rfl) (fun ρ w hC hc hfn hf => by have e4 : ρ (.tmp 4) = _ := hf 4 (by decide); have e7 : ρ (.tmp 7) = _ := hf 7 (by decide); (conv => lhs; simp [execOp, go_sem, hc, e4, e7, hN])) ?_
  refine w_is (fun w => Below.refl _ w) _ (.inl rfl) (fun ρ w hC hc hfn hf => by have e8 : ρ (.tmp 8) = _ := hf 8 (by decide); (conv => lhs; simp [execOp, go_sem, hc, e8])) ?_
  refine w_is (fun w => Below.refl _ w) _ (.inr ⟨6, 9, false, rfl, rfl, known_is rfl⟩) (fun ρ w hC hc hfn hf => by have e1 : ρ (.tmp 1) = _ := hf 1 (by decide); (conv => lhs; simp [execOp, go_sem, hc, e1])) ?_
  refine w_is (fun w => Below.refl _ w) _ (.inr ⟨6, 9, false, rfl, rfl, known_is rfl⟩) (fun ρ w hC hc hfn hf => by have e10 : ρ (.tmp 10) = _ := hf 10 (by decide); (conv => lhs; simp [execOp, go_sem, hc, e10, kc w hC])) ?_
  refine w_is (fun w => Below.refl _ w) _ (.inr ⟨6, 9, false, rfl, rfl, known_is rfl⟩) (fun ρ w hC hc hfn hf => by have e11 : ρ (.tmp 11) = _ := hf 11 (by decide); (conv => lhs; simp [execOp, go_sem, hc, e11])) ?_
  refine w_call (Is _) (fun _ _ _ h _ => h) 78 (.inr ⟨6, 9, false, rfl, rfl, known_is rfl⟩) (fun ρ w hC hc hfn hf => by have e12 : ρ (.tmp 12) = _ := hf 12 (by decide); exact ⟨_, by (conv => lhs; simp [execOp, resolve, invoke, go_sem, hc, hfn, e12]), tc_same hC (cC w)⟩) ?_
  refine w_is (fun w => Below.refl _ w) _ (.inr ⟨6, 9, false, rfl, rfl, known_is rfl⟩) (fun ρ w hC hc hfn hf => by have e13 : ρ (.tmp 13) = _ := hf 13 (by decide); (conv => lhs; simp [execOp, go_sem, hc, e13])) ?_
  refine w_is (fun w => Below.refl _ w) _ (.inl rfl) (fun ρ w hC hc hfn hf => by have e9 : ρ (.tmp 9) = _ := hf 9 (by decide); have e14 : ρ (.tmp 14) = _ := hf 14 (by decide); (conv => lhs; simp [execOp, go_sem, hc, e9, e14])) ?_
  refine w_is (fun w => Below.refl _ w) _ (.inl rfl) (fun ρ w hC hc hfn hf => by have e15 : ρ (.tmp 15) = _ := hf 15 (by decide); (conv => lhs; simp [execOp, go_sem, hc, e15])) ?_
  refine w_is (fun w => Below.refl _ w) _ (.inr ⟨13, 16, false, rfl, rfl, known_is rfl⟩) (fun ρ w hC hc hfn hf => by have e1 : ρ (.tmp 1) = _ := hf 1 (by decide); (conv => lhs; simp [execOp, go_sem, hc, e1])) ?_
  refine w_is (fun w => Below.refl _ w) _ (.inr ⟨13, 16, false, rfl, rfl, known_is rfl⟩) (fun ρ w hC hc hfn hf => by have e17 : ρ (.tmp 17) = _ := hf 17 (by decide); (conv => lhs; simp [execOp, go_sem, hc, e17, kc w hC])) ?_
  refine w_call (Is _) (fun _ _ _ h _ => h) 68 (.inr ⟨13, 16, false, rfl, rfl, known_is rfl⟩) (fun ρ w hC hc hfn hf => by have e18 : ρ (.tmp 18) = _ := hf 18 (by decide); exact ⟨_, by (conv => lhs; simp [execOp, resolve, invoke, go_sem, hc, hfn, e18]), tc_below hC (cR w hC)⟩) ?_
  refine w_is (fun w => Below.refl _ w) _ (.inr ⟨13, 16, false, rfl, rfl, known_is rfl⟩) (fun ρ w hC hc hfn hf => by have e19 : ρ (.tmp 19) = _ := hf 19 (by decide); (conv => lhs; simp [execOp, go_sem, hc, e19])) ?_
  refine w_is (fun w => Below.refl _ w) _ (.inl rfl) (fun ρ w hC hc hfn hf => by have e16 : ρ (.tmp 16) = _ := hf 16 (by decide); have e20 : ρ (.tmp 20) = _ := hf 20 (by decide); (conv => lhs; simp [execOp, go_sem, hc, e16, e20])) ?_
  refine w_is (fun w => Below.refl _ w) _ (.inl rfl) (fun ρ w hC hc hfn hf => by have e21 : ρ (.tmp 21) = _ := hf 21 (by decide); (conv => lhs; simp [execOp, go_sem, hc, e21])) ?_
  refine w_skip rfl rfl (known_is rfl) ?_
  refine w_skip rfl rfl (known_is rfl) ?_
  refine w_skip rfl rfl (known_is rfl) ?_
  refine w_skip rfl rfl (known_is rfl) ?_
  refine w_is (fun w => Below.refl _ w) _ (.inl rfl) (fun ρ w hC hc hfn hf => by have e22 : ρ (.tmp 22) = _ := hf 22 (by decide); have e26 : ρ (.tmp 26) = _ := hf 26 (by decide); (conv => lhs; simp [execOp, go_sem, hc, e22, e26])) ?_
  intro A V5 hC hn hd hf
  have y0 : A.eval (.tmp 0) = _ := Eq.trans (hf 0) (by conv => lhs; simp [go_sem])
  have y1 : A.eval (.tmp 1) = _ := Eq.trans (hf 1) (by conv => lhs; simp [go_sem])
  have y2 : A.eval (.tmp 2) = _ := Eq.trans (hf 2) (by conv => lhs; simp [go_sem])
  have y3 : A.eval (.tmp 3) = _ := hf 3
  have y4 : A.eval (.tmp 4) = _ := hf 4
  have y5 : A.eval (.tmp 5) = _ := hf 5
  have y6 : A.eval (.tmp 6) = _ := hf 6
  have y7 : A.eval (.tmp 7) = _ := hf 7
  have y8 : A.eval (.tmp 8) = _ := hf 8
  have y9 : A.eval (.tmp 9) = _ := hf 9
  have y10 : A.eval (.tmp 10) = _ := hf 10
  have y11 : A.eval (.tmp 11) = _ := hf 11
  have y12 : A.eval (.tmp 12) = _ := hf 12
  have y13 : A.eval (.tmp 13) = _ := hf 13
  have y14 : A.eval (.tmp 14) = _ := hf 14
  have y15 : A.eval (.tmp 15) = _ := hf 15
  have y16 : A.eval (.tmp 16) = _ := hf 16
  have y17 : A.eval (.tmp 17) = _ := hf 17
  have y18 : A.eval (.tmp 18) = _ := hf 18
  have y19 : A.eval (.tmp 19) = _ := hf 19
  have y20 : A.eval (.tmp 20) = _ := hf 20
  have y21 : A.eval (.tmp 21) = _ := hf 21
  have y22 : A.eval (.tmp 22) = _ := hf 22
  have y23 : A.eval (.tmp 23) = _ := hf 23
  have y24 : A.eval (.tmp 24) = _ := hf 24
  have y25 : A.eval (.tmp 25) = _ := hf 25
  have y26 : A.eval (.tmp 26) = _ := hf 26
  have y27 : A.eval (.tmp 27) = _ := hf 27
  clear hf
  have hA := frame_eq hn
  rw [show List.range 28 = [0, 1, 2, 3, 4, 5, 6, 7, 8, 9, 10, 11, 12, 13, 14, 15, 16, 17, 18, 19, 20, 21, 22, 23, 24, 25, 26, 27] from rfl, hd] at hA
  simp only [List.map_cons, List.map_nil, y0, y1, y2, y3, y4, y5, y6, y7, y8, y9, y10, y11, y12, y13, y14, y15, y16, y17, y18, y19, y20, y21, y22, y23, y24, y25, y26, y27] at hA
  clear y0 y1 y2 y3 y4 y5 y6 y7 y8 y9 y10 y11 y12 y13 y14 y15 y16 y17 y18 y19 y20 y21 y22 y23 y24 y25 y26 y27
  clear hn hd
  subst hA
  go_wp2_with fail
  go_ret
  exact ⟨rfl, HB.out.trans (hC.mono HB.out.size)⟩
set_option maxHeartbeats 8000000 in
theorem pcheck_d (M : Int) (a : Option Addr) (c : Nat) (ys : List Ob) (w : World) (hy : Os w (.slice a ys.length c) ys) (hl : ys.length ≤ 3000) (hN : (M != lft M) = false) (hL : 1 ≤ (ys.length : Int) ∧ (ys.length : Int) ≤ 32) (hR : AllOk ys) (hZ : (512 : Int) < 3 + (osz ys : Int)) :
    Calls Tryz.prog 49 #[.agg #[.int .i64 M, .slice a ys.length c]] w fun e w' => e = .returned (.int .i64 1) ∧ Below w.heap.size w w' := by
  have cL : ∀ w, Calls Tryz.prog 70 #[.int .i64 M] w fun e w' => e = .returned (.int .i64 (lft M)) ∧ Below w.heap.size w w' := fun w => pleft_any M w
  have cC : ∀ w, Calls Tryz.prog 78 #[.int .i64 ys.length] w fun e w' => e = .returned (.bool true) ∧ w = w' := fun w => by have h := iscount_any ys.length w; rwa [decide_eq_true hL] at h
  have HY := Lib.hid (hy.alloc (.cells #[.int .i64 M, .slice a ys.length c] 34))
  have HB : Hid (Below w.heap.size w (w.alloc (.cells #[.int .i64 M, .slice a ys.length c] 34))) := (Below.refl _ w).alloc (Nat.le_refl _) _
  have k0 : (w.alloc (.cells #[.int .i64 M, .slice a ys.length c] 34)).cell? ⟨w.heap.size, 0, none⟩ = some (.int .i64 M) := by simp
  have k1 : (w.alloc (.cells #[.int .i64 M, .slice a ys.length c] 34)).cell? ⟨w.heap.size, 1, none⟩ = some (.slice a ys.length c) := by simp
  clear hy
  go_enter Tryz.func49, Tryz.ntmps49
  go_wp2_with fail
  generalize w.alloc (.cells #[.int .i64 M, .slice a ys.length c] 34) = V1 at *
  have kc : ∀ w', Below V1.heap.size V1 w' → w'.cell? ⟨w.heap.size, 0, none⟩ = some (.int .i64 M) ∧ w'.cell? ⟨w.heap.size, 1, none⟩ = some (.slice a ys.length c) := fun w' h =>
    ⟨by rw [h.cell (World.block_lt_of_cell? V1 _ k0)]; exact k0, by rw [h.cell (World.block_lt_of_cell? V1 _ k1)]; exact k1⟩
  have cR : ∀ w', Below V1.heap.size V1 w' → Calls Tryz.prog 68 #[.slice a ys.length c] w' fun e w'' => e = .returned (.bool true) ∧ Below w'.heap.size w' w'' := fun w' hb => by have h := areright_any (.slice a ys.length c) ys w' (HY.out.below hb) hl; rwa [decide_eq_true hR] at h
  have cZ : ∀ w', Below V1.heap.size V1 w' → Calls Tryz.prog 79 #[.slice a ys.length c] w' fun e w'' => e = .returned (.int .i64 (3 + (osz ys : Int))) ∧ Below w'.heap.size w' w'' := fun w' hb => psize_any (.slice a ys.length c) ys w' (HY.out.below hb) hl

  refine wp_region_typed (C := fun w' => Below V1.heap.size V1 w') (X := fun w w' => Below w.heap.size w w') (n := 28) (by kernel_rfl) (by kernel_rfl) rfl (fun w => Below.refl _ w) (Below.refl _ _).drew ?_
  refine w_is (fun w => Below.refl _ w) _ (.inl rfl) (fun ρ w hC hc hfn hf => by have e1 : ρ (.tmp 1) = _ := hf 1 (by decide); (conv => lhs; simp [execOp, go_sem, hc, e1])) ?_
  refine w_is (fun w => Below.refl _ w) _ (.inl rfl) (fun ρ w hC hc hfn hf => by have e3 : ρ (.tmp 3) = _ := hf 3 (by decide); (conv => lhs; simp [execOp, go_sem, hc, e3, kc w hC])) ?_
  refine w_is (fun w => Below.refl _ w) _ (.inl rfl) (fun ρ w hC hc hfn hf => by have e1 : ρ (.tmp 1) = _ := hf 1 (by decide); (conv => lhs; simp [execOp, go_sem, hc, e1])) ?_
  refine w_is (fun w => Below.refl _ w) _ (.inl rfl) (fun ρ w hC hc hfn hf => by have e5 : ρ (.tmp 5) = _ := hf 5 (by decide); (conv => lhs; simp [execOp, go_sem, hc, e5, kc w hC])) ?_
  refine w_call (Is _) (fun _ _ _ h _ => h) 70 (.inl rfl) (fun ρ w hC hc hfn hf => by have e6 : ρ (.tmp 6) = _ := hf 6 (by decide); exact ⟨_, by (conv => lhs; simp [execOp, resolve, invoke, go_sem, hc, hfn, e6]), tc_below hC (cL w)⟩) ?_
  refine w_is (fun w => Below.refl _ w) _ (.inl rfl) (fun ρ w hC hc hfn hf => by have e4 : ρ (.tmp 4) = _ := hf 4 (by decide); have e7 : ρ (.tmp 7) = _ := hf 7 (by decide); (conv => lhs; simp [execOp, go_sem, hc, e4, e7, hN])) ?_
  refine w_is (fun w => Below.refl _ w) _ (.inl rfl) (fun ρ w hC hc hfn hf => by have e8 : ρ (.tmp 8) = _ := hf 8 (by decide); (conv => lhs; simp [execOp, go_sem, hc, e8])) ?_
  refine w_is (fun w => Below.refl _ w) _ (.inr ⟨6, 9, false, rfl, rfl, known_is rfl⟩) (fun ρ w hC hc hfn hf => by have e1 : ρ (.tmp 1) = _ := hf 1 (by decide); (conv => lhs; simp [execOp, go_sem, hc, e1])) ?_
  refine w_is (fun w => Below.refl _ w) _ (.inr ⟨6, 9, false, rfl, rfl, known_is rfl⟩) (fun ρ w hC hc hfn hf => by have e10 : ρ (.tmp 10) = _ := hf 10 (by decide); (conv => lhs; simp [execOp, go_sem, hc, e10, kc w hC])) ?_
  refine w_is (fun w => Below.refl _ w) _ (.inr ⟨6, 9, false, rfl, rfl, known_is rfl⟩) (fun ρ w hC hc hfn hf => by have e11 : ρ (.tmp 11) = _ := hf 11 (by decide); (conv => lhs; simp [execOp, go_sem, hc, e11])) ?_
  refine w_call (Is _) (fun _ _ _ h _ => h) 78 (.inr ⟨6, 9, false, rfl, rfl, known_is rfl⟩) (fun ρ w hC hc hfn hf => by have e12 : ρ (.tmp 12) = _ := hf 12 (by decide); exact ⟨_, by (conv => lhs; simp [execOp, resolve, invoke, go_sem, hc, hfn, e12]), tc_same hC (cC w)⟩) ?_
  refine w_is (fun w => Below.refl _ w) _ (.inr ⟨6, 9, false, rfl, rfl, known_is rfl⟩) (fun ρ w hC hc hfn hf => by have e13 : ρ (.tmp 13) = _ := hf 13 (by decide); (conv => lhs; simp [execOp, go_sem, hc, e13])) ?_
  refine w_is (fun w => Below.refl _ w) _ (.inl rfl) (fun ρ w hC hc hfn hf => by have e9 : ρ (.tmp 9) = _ := hf 9 (by decide); have e14 : ρ (.tmp 14) = _ := hf 14 (by decide); (conv => lhs; simp [execOp, go_sem, hc, e9, e14])) ?_
  refine w_is (fun w => Below.refl _ w) _ (.inl rfl) (fun ρ w hC hc hfn hf => by have e15 : ρ (.tmp 15) = _ := hf 15 (by decide); (conv => lhs; simp [execOp, go_sem, hc, e15])) ?_
  refine w_is (fun w => Below.refl _ w) _ (.inr ⟨13, 16, false, rfl, rfl, known_is rfl⟩) (fun ρ w hC hc hfn hf => by have e1 : ρ (.tmp 1) = _ := hf 1 (by decide); (conv => lhs; simp [execOp, go_sem, hc, e1])) ?_
  refine w_is (fun w => Below.refl _ w) _ (.inr ⟨13, 16, false, rfl, rfl, known_is rfl⟩) (fun ρ w hC hc hfn hf => by have e17 : ρ (.tmp 17) = _ := hf 17 (by decide); (conv => lhs; simp [execOp, go_sem, hc, e17, kc w hC])) ?_
  refine w_call (Is _) (fun _ _ _ h _ => h) 68 (.inr ⟨13, 16, false, rfl, rfl, known_is rfl⟩) (fun ρ w hC hc hfn hf => by have e18 : ρ (.tmp 18) = _ := hf 18 (by decide); exact ⟨_, by (conv => lhs; simp [execOp, resolve, invoke, go_sem, hc, hfn, e18]), tc_below hC (cR w hC)⟩) ?_
  refine w_is (fun w => Below.refl _ w) _ (.inr ⟨13, 16, false, rfl, rfl, known_is rfl⟩) (fun ρ w hC hc hfn hf => by have e19 : ρ (.tmp 19) = _ := hf 19 (by decide); (conv => lhs; simp [execOp, go_sem, hc, e19])) ?_
  refine w_is (fun w => Below.refl _ w) _ (.inl rfl) (fun ρ w hC hc hfn hf => by have e16 : ρ (.tmp 16) = _ := hf 16 (by decide); have e20 : ρ (.tmp 20) = _ := hf 20 (by decide); (conv => lhs; simp [execOp, go_sem, hc, e16, e20])) ?_
  refine w_is (fun w => Below.refl _ w) _ (.inl rfl) (fun ρ w hC hc hfn hf => by have e21 : ρ (.tmp 21) = _ := hf 21 (by decide); (conv => lhs; simp [execOp, go_sem, hc, e21])) ?_
  refine w_is (fun w => Below.refl _ w) _ (.inr ⟨19, 22, false, rfl, rfl, known_is rfl⟩) (fun ρ w hC hc hfn hf => by have e1 : ρ (.tmp 1) = _ := hf 1 (by decide); (conv => lhs; simp [execOp, go_sem, hc, e1])) ?_
  refine w_is (fun w => Below.refl _ w) _ (.inr ⟨19, 22, false, rfl, rfl, known_is rfl⟩) (fun ρ w hC hc hfn hf => by have e23 : ρ (.tmp 23) = _ := hf 23 (by decide); (conv => lhs; simp [execOp, go_sem, hc, e23, kc w hC])) ?_
  refine w_call (Is _) (fun _ _ _ h _ => h) 79 (.inr ⟨19, 22, false, rfl, rfl, known_is rfl⟩) (fun ρ w hC hc hfn hf => by have e24 : ρ (.tmp 24) = _ := hf 24 (by decide); exact ⟨_, by (conv => lhs; simp [execOp, resolve, invoke, go_sem, hc, hfn, e24]), tc_below hC (cZ w hC)⟩) ?_
  refine w_is (fun w => Below.refl _ w) _ (.inr ⟨19, 22, false, rfl, rfl, known_is rfl⟩) (fun ρ w hC hc hfn hf => by have e25 : ρ (.tmp 25) = _ := hf 25 (by decide); (conv => lhs; simp [execOp, go_sem, hc, e25, hZ])) ?_
  refine w_is (fun w => Below.refl _ w) _ (.inl rfl) (fun ρ w hC hc hfn hf => by have e22 : ρ (.tmp 22) = _ := hf 22 (by decide); have e26 : ρ (.tmp 26) = _ := hf 26 (by decide); (conv => lhs; simp [execOp, go_sem, hc, e22, e26])) ?_
  intro A V5 hC hn hd hf
  have y0 : A.eval (.tmp 0) = _ := Eq.trans (hf 0) (by conv => lhs; simp [go_sem])
  have y1 : A.eval (.tmp 1) = _ := Eq.trans (hf 1) (by conv => lhs; simp [go_sem])
  have y2 : A.eval (.tmp 2) = _ := Eq.trans (hf 2) (by conv => lhs; simp [go_sem])
  have y3 : A.eval (.tmp 3) = _ := hf 3
  have y4 : A.eval (.tmp 4) = _ := hf 4
  have y5 : A.eval (.tmp 5) = _ := hf 5
  have y6 : A.eval (.tmp 6) = _ := hf 6
  have y7 : A.eval (.tmp 7) = _ := hf 7
  have y8 : A.eval (.tmp 8) = _ := hf 8
  have y9 : A.eval (.tmp 9) = _ := hf 9
  have y10 : A.eval (.tmp 10) = _ := hf 10
  have y11 : A.eval (.tmp 11) = _ := hf 11
  have y12 : A.eval (.tmp 12) = _ := hf 12
  have y13 : A.eval (.tmp 13) = _ := hf 13
  have y14 : A.eval (.tmp 14) = _ := hf 14
  have y15 : A.eval (.tmp 15) = _ := hf 15
  have y16 : A.eval (.tmp 16) = _ := hf 16
  have y17 : A.eval (.tmp 17) = _ := hf 17
  have y18 : A.eval (.tmp 18) = _ := hf 18
  have y19 : A.eval (.tmp 19) = _ := hf 19
  have y20 : A.eval (.tmp 20) = _ := hf 20
  have y21 : A.eval (.tmp 21) = _ := hf 21
  have y22 : A.eval (.tmp 22) = _ := hf 22
  have y23 : A.eval (.tmp 23) = _ := hf 23
  have y24 : A.eval (.tmp 24) = _ := hf 24
  have y25 : A.eval (.tmp 25) = _ := hf 25
  have y26 : A.eval (.tmp 26) = _ := hf 26
  have y27 : A.eval (.tmp 27) = _ := hf 27
  clear hf
  have hA := frame_eq hn
  rw [show List.range 28 = [0, 1, 2, 3, 4, 5, 6, 7, 8, 9, 10, 11, 12, 13, 14, 15, 16, 17, 18, 19, 20, 21, 22, 23, 24, 25, 26, 27] from rfl, hd] at hA
  simp only [List.map_cons, List.map_nil, y0, y1, y2, y3, y4, y5, y6, y7, y8, y9, y10, y11, y12, y13, y14, y15, y16, y17, y18, y19, y20, y21, y22, y23, y24, y25, y26, y27] at hA
  clear y0 y1 y2 y3 y4 y5 y6 y7 y8 y9 y10 y11 y12 y13 y14 y15 y16 y17 y18 y19 y20 y21 y22 y23 y24 y25 y26 y27
  clear hn hd
  subst hA
  go_wp2_with fail
  go_ret
  exact ⟨rfl, HB.out.trans (hC.mono HB.out.size)⟩
set_option maxHeartbeats 8000000 in
theorem pcheck_e (M : Int) (a : Option Addr) (c : Nat) (ys : List Ob) (w : World) (hy : Os w (.slice a ys.length c) ys) (hl : ys.length ≤ 3000) (hN : (M != lft M) = false) (hL : 1 ≤ (ys.length : Int) ∧ (ys.length : Int) ≤ 32) (hR : AllOk ys) (hZ : ¬ (512 : Int) < 3 + (osz ys : Int)) :
    Calls Tryz.prog 49 #[.agg #[.int .i64 M, .slice a ys.length c]] w fun e w' => e = .returned (.int .i64 0) ∧ Below w.heap.size w w' := by
  have cL : ∀ w, Calls Tryz.prog 70 #[.int .i64 M] w fun e w' => e = .returned (.int .i64 (lft M)) ∧ Below w.heap.size w w' := fun w => pleft_any M w
  have cC : ∀ w, Calls Tryz.prog 78 #[.int .i64 ys.length] w fun e w' => e = .returned (.bool true) ∧ w = w' := fun w => by have h := iscount_any ys.length w; rwa [decide_eq_true hL] at h
  have HY := Lib.hid (hy.alloc (.cells #[.int .i64 M, .slice a ys.length c] 34))
  have HB : Hid (Below w.heap.size w (w.alloc (.cells #[.int .i64 M, .slice a ys.length c] 34))) := (Below.refl _ w).alloc (Nat.le_refl _) _
  have k0 : (w.alloc (.cells #[.int .i64 M, .slice a ys.length c] 34)).cell? ⟨w.heap.size, 0, none⟩ = some (.int .i64 M) := by simp
  have k1 : (w.alloc (.cells #[.int .i64 M, .slice a ys.length c] 34)).cell? ⟨w.heap.size, 1, none⟩ = some (.slice a ys.length c) := by simp
  clear hy
  go_enter Tryz.func49, Tryz.ntmps49
  go_wp2_with fail
  generalize w.alloc (.cells #[.int .i64 M, .slice a ys.length c] 34) = V1 at *
  have kc : ∀ w', Below V1.heap.size V1 w' → w'.cell? ⟨w.heap.size, 0, none⟩ = some (.int .i64 M) ∧ w'.cell? ⟨w.heap.size, 1, none⟩ = some (.slice a ys.length c) := fun w' h =>
    ⟨by rw [h.cell (World.block_lt_of_cell? V1 _ k0)]; exact k0, by rw [h.cell (World.block_lt_of_cell? V1 _ k1)]; exact k1⟩
  have cR : ∀ w', Below V1.heap.size V1 w' → Calls Tryz.prog 68 #[.slice a ys.length c] w' fun e w'' => e = .returned (.bool true) ∧ Below w'.heap.size w' w'' := fun w' hb => by have h := areright_any (.slice a ys.length c) ys w' (HY.out.below hb) hl; rwa [decide_eq_true hR] at h
  have cZ : ∀ w', Below V1.heap.size V1 w' → Calls Tryz.prog 79 #[.slice a ys.length c] w' fun e w'' => e = .returned (.int .i64 (3 + (osz ys : Int))) ∧ Below w'.heap.size w' w'' := fun w' hb => psize_any (.slice a ys.length c) ys w' (HY.out.below hb) hl

  refine wp_region_typed (C := fun w' => Below V1.heap.size V1 w') (X := fun w w' => Below w.heap.size w w') (n := 28) (by kernel_rfl) (by kernel_rfl) rfl (fun w => Below.refl _ w) (Below.refl _ _).drew ?_
  refine w_is (fun w => Below.refl _ w) _ (.inl rfl) (fun ρ w hC hc hfn hf => by have e1 : ρ (.tmp 1) = _ := hf 1 (by decide); (conv => lhs; simp [execOp, go_sem, hc, e1])) ?_
  refine w_is (fun w => Below.refl _ w) _ (.inl rfl) (fun ρ w hC hc hfn hf => by have e3 : ρ (.tmp 3) = _ := hf 3 (by decide); (conv => lhs; simp [execOp, go_sem, hc, e3, kc w hC])) ?_
  refine w_is (fun w => Below.refl _ w) _ (.inl rfl) (fun ρ w hC hc hfn hf => by have e1 : ρ (.tmp 1) = _ := hf 1 (by decide); (conv => lhs; simp [execOp, go_sem, hc, e1])) ?_
  refine w_is (fun w => Below.refl _ w) _ (.inl rfl) (fun ρ w hC hc hfn hf => by have e5 : ρ (.tmp 5) = _ := hf 5 (by decide); (conv => lhs; simp [execOp, go_sem, hc, e5, kc w hC])) ?_
  refine w_call (Is _) (fun _ _ _ h _ => h) 70 (.inl rfl) (fun ρ w hC hc hfn hf => by have e6 : ρ (.tmp 6) = _ := hf 6 (by decide); exact ⟨_, by (conv => lhs; simp [execOp, resolve, invoke, go_sem, hc, hfn, e6]), tc_below hC (cL w)⟩) ?_
  refine w_is (fun w => Below.refl _ w) _ (.inl rfl) (fun ρ w hC hc hfn hf => by have e4 : ρ (.tmp 4) = _ := hf 4 (by decide); have e7 : ρ (.tmp 7) = _ := hf 7 (by decide); (conv => lhs; simp [execOp, go_sem, hc, e4, e7, hN])) ?_
  refine w_is (fun w => Below.refl _ w) _ (.inl rfl) (fun ρ w hC hc hfn hf => by have e8 : ρ (.tmp 8) = _ := hf 8 (by decide); (conv => lhs; simp [execOp, go_sem, hc, e8])) ?_
  refine w_is (fun w => Below.refl _ w) _ (.inr ⟨6, 9, false, rfl, rfl, known_is rfl⟩) (fun ρ w hC hc hfn hf => by have e1 : ρ (.tmp 1) = _ := hf 1 (by decide); (conv => lhs; simp [execOp, go_sem, hc, e1])) ?_
  refine w_is (fun w => Below.refl _ w) _ (.inr ⟨6, 9, false, rfl, rfl, known_is rfl⟩) (fun ρ w hC hc hfn hf => by have e10 : ρ (.tmp 10) = _ := hf 10 (by decide); (conv => lhs; simp [execOp, go_sem, hc, e10, kc w hC])) ?_
  refine w_is (fun w => Below.refl _ w) _ (.inr ⟨6, 9, false, rfl, rfl, known_is rfl⟩) (fun ρ w hC hc hfn hf => by have e11 : ρ (.tmp 11) = _ := hf 11 (by decide); (conv => lhs; simp [execOp, go_sem, hc, e11])) ?_
  refine w_call (Is _) (fun _ _ _ h _ => h) 78 (.inr ⟨6, 9, false, rfl, rfl, known_is rfl⟩) (fun ρ w hC hc hfn hf => by have e12 : ρ (.tmp 12) = _ := hf 12 (by decide); exact ⟨_, by (conv => lhs; simp [execOp, resolve, invoke, go_sem, hc, hfn, e12]), tc_same hC (cC w)⟩) ?_
  refine w_is (fun w => Below.refl _ w) _ (.inr ⟨6, 9, false, rfl, rfl, known_is rfl⟩) (fun ρ w hC hc hfn hf => by have e13 : ρ (.tmp 13) = _ := hf 13 (by decide); (conv => lhs; simp [execOp, go_sem, hc, e13])) ?_
  refine w_is (fun w => Below.refl _ w) _ (.inl rfl) (fun ρ w hC hc hfn hf => by have e9 : ρ (.tmp 9) = _ := hf 9 (by decide); have e14 : ρ (.tmp 14) = _ := hf 14 (by decide); (conv => lhs; simp [execOp, go_sem, hc, e9, e14])) ?_
  refine w_is (fun w => Below.refl _ w) _ (.inl rfl) (fun ρ w hC hc hfn hf => by have e15 : ρ (.tmp 15) = _ := hf 15 (by decide); (conv => lhs; simp [execOp, go_sem, hc, e15])) ?_
  refine w_is (fun w => Below.refl _ w) _ (.inr ⟨13, 16, false, rfl, rfl, known_is rfl⟩) (fun ρ w hC hc hfn hf => by have e1 : ρ (.tmp 1) = _ := hf 1 (by decide); (conv => lhs; simp [execOp, go_sem, hc, e1])) ?_
  refine w_is (fun w => Below.refl _ w) _ (.inr ⟨13, 16, false, rfl, rfl, known_is rfl⟩) (fun ρ w hC hc hfn hf => by have e17 : ρ (.tmp 17) = _ := hf 17 (by decide); (conv => lhs; simp [execOp, go_sem, hc, e17, kc w hC])) ?_
  refine w_call (Is _) (fun _ _ _ h _ => h) 68 (.inr ⟨13, 16, false, rfl, rfl, known_is rfl⟩) (fun ρ w hC hc hfn hf => by have e18 : ρ (.tmp 18) = _ := hf 18 (by decide); exact ⟨_, by (conv => lhs; simp [execOp, resolve, invoke, go_sem, hc, hfn, e18]), tc_below hC (cR w hC)⟩) ?_
  refine w_is (fun w => Below.refl _ w) _ (.inr ⟨13, 16, false, rfl, rfl, known_is rfl⟩) (fun ρ w hC hc hfn hf => by have e19 : ρ (.tmp 19) = _ := hf 19 (by decide); (conv => lhs; simp [execOp, go_sem, hc, e19])) ?_
  refine w_is (fun w => Below.refl _ w) _ (.inl rfl) (fun ρ w hC hc hfn hf => by have e16 : ρ (.tmp 16) = _ := hf 16 (by decide); have e20 : ρ (.tmp 20) = _ := hf 20 (by decide); (conv => lhs; simp [execOp, go_sem, hc, e16, e20])) ?_
  refine w_is (fun w => Below.refl _ w) _ (.inl rfl) (fun ρ w hC hc hfn hf => by have e21 : ρ (.tmp 21) = _ := hf 21 (by decide); (conv => lhs; simp [execOp, go_sem, hc, e21])) ?_
  refine w_is (fun w => Below.refl _ w) _ (.inr ⟨19, 22, false, rfl, rfl, known_is rfl⟩) (fun ρ w hC hc hfn hf => by have e1 : ρ (.tmp 1) = _ := hf 1 (by decide); (conv => lhs; simp [execOp, go_sem, hc, e1])) ?_
  refine w_is (fun w => Below.refl _ w) _ (.inr ⟨19, 22, false, rfl, rfl, known_is rfl⟩) (fun ρ w hC hc hfn hf => by have e23 : ρ (.tmp 23) = _ := hf 23 (by decide); (conv => lhs; simp [execOp, go_sem, hc, e23, kc w hC])) ?_
  refine w_call (Is _) (fun _ _ _ h _ => h) 79 (.inr ⟨19, 22, false, rfl, rfl, known_is rfl⟩) (fun ρ w hC hc hfn hf => by have e24 : ρ (.tmp 24) = _ := hf 24 (by decide); exact ⟨_, by (conv => lhs; simp [execOp, resolve, invoke, go_sem, hc, hfn, e24]), tc_below hC (cZ w hC)⟩) ?_
  refine w_is (fun w => Below.refl _ w) _ (.inr ⟨19, 22, false, rfl, rfl, known_is rfl⟩) (fun ρ w hC hc hfn hf => by have e25 : ρ (.tmp 25) = _ := hf 25 (by decide); (conv => lhs; simp [execOp, go_sem, hc, e25, hZ])) ?_
  refine w_is (fun w => Below.refl _ w) _ (.inl rfl) (fun ρ w hC hc hfn hf => by have e22 : ρ (.tmp 22) = _ := hf 22 (by decide); have e26 : ρ (.tmp 26) = _ := hf 26 (by decide); (conv => lhs; simp [execOp, go_sem, hc, e22, e26])) ?_
  intro A V5 hC hn hd hf
  have y0 : A.eval (.tmp 0) = _ := Eq.trans (hf 0) (by conv => lhs; simp [go_sem])
  have y1 : A.eval (.tmp 1) = _ := Eq.trans (hf 1) (by conv => lhs; simp [go_sem])
  have y2 : A.eval (.tmp 2) = _ := Eq.trans (hf 2) (by conv => lhs; simp [go_sem])
  have y3 : A.eval (.tmp 3) = _ := hf 3
  have y4 : A.eval (.tmp 4) = _ := hf 4
  have y5 : A.eval (.tmp 5) = _ := hf 5
  have y6 : A.eval (.tmp 6) = _ := hf 6
  have y7 : A.eval (.tmp 7) = _ := hf 7
  have y8 : A.eval (.tmp 8) = _ := hf 8
  have y9 : A.eval (.tmp 9) = _ := hf 9
  have y10 : A.eval (.tmp 10) = _ := hf 10
  have y11 : A.eval (.tmp 11) = _ := hf 11
  have y12 : A.eval (.tmp 12) = _ := hf 12
  have y13 : A.eval (.tmp 13) = _ := hf 13
  have y14 : A.eval (.tmp 14) = _ := hf 14
  have y15 : A.eval (.tmp 15) = _ := hf 15
  have y16 : A.eval (.tmp 16) = _ := hf 16
  have y17 : A.eval (.tmp 17) = _ := hf 17
  have y18 : A.eval (.tmp 18) = _ := hf 18
  have y19 : A.eval (.tmp 19) = _ := hf 19
  have y20 : A.eval (.tmp 20) = _ := hf 20
  have y21 : A.eval (.tmp 21) = _ := hf 21
  have y22 : A.eval (.tmp 22) = _ := hf 22
  have y23 : A.eval (.tmp 23) = _ := hf 23
  have y24 : A.eval (.tmp 24) = _ := hf 24
  have y25 : A.eval (.tmp 25) = _ := hf 25
  have y26 : A.eval (.tmp 26) = _ := hf 26
  have y27 : A.eval (.tmp 27) = _ := hf 27
  clear hf
  have hA := frame_eq hn
  rw [show List.range 28 = [0, 1, 2, 3, 4, 5, 6, 7, 8, 9, 10, 11, 12, 13, 14, 15, 16, 17, 18, 19, 20, 21, 22, 23, 24, 25, 26, 27] from rfl, hd] at hA
  simp only [List.map_cons, List.map_nil, y0, y1, y2, y3, y4, y5, y6, y7, y8, y9, y10, y11, y12, y13, y14, y15, y16, y17, y18, y19, y20, y21, y22, y23, y24, y25, y26, y27] at hA
  clear y0 y1 y2 y3 y4 y5 y6 y7 y8 y9 y10 y11 y12 y13 y14 y15 y16 y17 y18 y19 y20 y21 y22 y23 y24 y25 y26 y27
  clear hn hd
  subst hA
  go_wp2_with fail
  go_ret
  exact ⟨rfl, HB.out.trans (hC.mono HB.out.size)⟩
theorem pcheck_any (M : Int) (v : Value) (ys : List Ob) (w : World) (hy : Os w v ys) (hl : ys.length ≤ 3000) :
    Calls Tryz.prog 49 #[.agg #[.int .i64 M, v]] w fun e w' => e = .returned (.int .i64 (btc M ys)) ∧ Below w.heap.size w w' := by
  obtain ⟨a, c, rfl⟩ := hy.form
  unfold btc
  by_cases hN : M = lft M
  · have hN' : (M != lft M) = false := by simpa using hN
    have hr := lft_rng M
    by_cases hL : 1 ≤ (ys.length : Int) ∧ (ys.length : Int) ≤ 32
    · by_cases hR : AllOk ys
      · by_cases hZ : (512 : Int) < 3 + (osz ys : Int)
        · rw [if_neg (fun h => by have := h.2.2.2; omega)]
          exact pcheck_d M a c ys w hy hl hN' hL hR hZ
        · rw [if_pos ⟨by omega, by omega, hR, by omega⟩]
          exact pcheck_e M a c ys w hy hl hN' hL hR hZ
      · rw [if_neg (fun h => hR h.2.2.1)]
        exact pcheck_c M a c ys w hy hl hN' hL hR
    · rw [if_neg (fun h => by have := h.2.1; omega)]
      exact pcheck_b M a c ys w hy hl hN' hL
  · have hN' : (M != lft M) = true := by simpa using hN
    rw [if_neg (fun h => hN (by have := h.1; unfold lft; omega))]
    exact pcheck_a M a c ys w hy hl hN'
end Go.Proofs.YtfiaghfaijlfjaaGreat

namespace Go.Proofs.YtfiaghfaijlfjaaGreat
set_option maxRecDepth 100000
open Go.RowKit Go.Sort

/-- What lies below S stays. -/
theorem own_low {w w' : World} {base size n S : Nat} {e : TypeId} {v : Value} {xs : List Value} (h : w.ownsRow base e size v n xs) (hl : ∀ b, v.ownBlock = some b → b < S) (hb : Below S w w') : w'.ownsRow base e size v n xs := by
  refine ⟨h.1, ?_⟩
  rcases h.2 with h2 | ⟨g, cap, cur, rfl, h3, hg, rest⟩
  · exact .inl h2
  · refine .inr ⟨g, cap, cur, rfl, h3, ?_, rest⟩
    rw [hb.block g (hl g rfl)]; exact hg
theorem RowB.base {w : World} {B base : Nat} {v : Value} {bs : List (Int × List Ob)} (h : RowB w base v bs) (hB : B ≤ base) : RowB w B v bs := by
  obtain ⟨vs, h1, h2, h3⟩ := h
  exact ⟨vs, h1, own_mono h2 hB, fun i hi => ⟨(h3 i hi).1, own_mono (h3 i hi).2 hB⟩⟩
theorem RowB.form {w : World} {base : Nat} {v : Value} {bs : List (Int × List Ob)} (h : RowB w base v bs) : ∃ a c, v = .slice a bs.length c := by
  obtain ⟨vs, h1, h2, h3⟩ := h
  exact own_form h2
/-- A row of batches; the objects of its last one lie in a row that was made since S. -/
def RowX (w : World) (base S g cap : Nat) (bs : List (Int × List Ob)) (M : Int) (v : Value) (xs : List Ob) : Prop :=
  ∃ vs : List (Int × Value), vs.length = bs.length ∧ (g < S ∧ base ≤ g ∧ S ≤ w.heap.size) ∧
    w.ownsRow base 34 2 (.slice (some ⟨g, 0, none⟩) (bs.length + 1) cap) (bs.length + 1) (flat2 (vs ++ [(M, v)])) ∧
    (∀ i, i < bs.length → (vs.getD i zv).1 = (bs.getD i zb).1 ∧ w.ownsRow base 53 12 (vs.getD i zv).2 (bs.getD i zb).2.length (flat (bs.getD i zb).2) ∧ ∀ b, (vs.getD i zv).2.ownBlock = some b → b < S) ∧
    w.ownsRow S 53 12 v xs.length (flat xs)
theorem RowX.below {w w' : World} {base S g cap : Nat} {bs : List (Int × List Ob)} {M : Int} {v : Value} {xs : List Ob} (h : RowX w base S g cap bs M v xs) (hb : Below w.heap.size w w') : RowX w' base S g cap bs M v xs := by
  obtain ⟨vs, h1, ⟨h2, h3, h4⟩, h5, h6, h7⟩ := h
  exact ⟨vs, h1, ⟨h2, h3, Nat.le_trans h4 hb.size⟩, own_below h5 hb, fun i hi => ⟨(h6 i hi).1, own_below (h6 i hi).2.1 hb, (h6 i hi).2.2⟩, own_below h7 hb⟩
theorem RowX.row {w : World} {base S g cap : Nat} {bs : List (Int × List Ob)} {M : Int} {v : Value} {xs : List Ob} (h : RowX w base S g cap bs M v xs) : RowB w base (.slice (some ⟨g, 0, none⟩) (bs.length + 1) cap) (bs ++ [(M, xs)]) := by
  obtain ⟨vs, h1, ⟨h2, h3, h4⟩, h5, h6, h7⟩ := h
  refine ⟨vs ++ [(M, v)], by simp [h1], by simpa using h5, fun i hi => ?_⟩
  by_cases h9 : i < bs.length
  · have e1 : (vs ++ [(M, v)]).getD i zv = vs.getD i zv := by simp [List.getD, List.getElem?_append, h1, h9]
    have e2 : (bs ++ [(M, xs)]).getD i zb = bs.getD i zb := by simp [List.getD, List.getElem?_append, h9]
    rw [e1, e2]
    exact ⟨(h6 i h9).1, (h6 i h9).2.1⟩
  · have e : i = bs.length := by simp at hi; omega
    subst e
    have e1 : (vs ++ [(M, v)]).getD bs.length zv = (M, v) := by rw [← h1]; simp [List.getD]
    have e2 : (bs ++ [(M, xs)]).getD bs.length zb = (M, xs) := by simp [List.getD]
    rw [e1, e2]
    exact ⟨rfl, own_mono h7 (by omega)⟩
theorem RowX.cells {w : World} {base S g cap : Nat} {bs : List (Int × List Ob)} {M : Int} {v : Value} {xs : List Ob} (h : RowX w base S g cap bs M v xs) :
    w.cell? ⟨g, bs.length * 2 + 1, none⟩ = some v ∧ (∀ k, w.frozen? ⟨g, k, none⟩ = false) ∧ g < S ∧ S ≤ w.heap.size ∧ v.oneCell' = true ∧ ∃ a c, v = .slice a xs.length c := by
  obtain ⟨vs, h1, ⟨h2, h3, h4⟩, h5, h6, h7⟩ := h
  refine ⟨?_, fun k => h5.frozenAt k, h2, h4, own_one h7, own_form h7⟩
  rw [own_cell h5 (bs.length * 2 + 1) (by omega), flat2_app, ← h1, List.getElem?_append_right (by rw [flat2_len]; omega), flat2_len]
  simp [flat2, c2]
theorem RowX.last {w : World} {base S g cap : Nat} {bs : List (Int × List Ob)} {M : Int} {v : Value} {xs : List Ob} (h : RowX w base S g cap bs M v xs) : w.ownsRow S 53 12 v xs.length (flat xs) ∧ base ≤ g := by
  obtain ⟨vs, h1, ⟨h2, h3, h4⟩, h5, h6, h7⟩ := h
  exact ⟨h7, h3⟩
theorem C12.low {w w' : World} {b o B : Nat} {y : Ob} (h : C12 w b o y) (hb : b < B) (hB : Below B w w') : C12 w' b o y := fun j hj => by
  rw [hB.cell (p := ⟨b, o + j, none⟩) hb]; exact h j hj
/-- The last one's objects are laid anew. -/
theorem RowX.turn {w w' : World} {base S g cap : Nat} {bs : List (Int × List Ob)} {M : Int} {v v' : Value} {xs ys : List Ob} (h : RowX w base S g cap bs M v xs) (hb : Below S w w') (hv : w'.ownsRow S 53 12 v' ys.length (flat ys)) :
    RowX (w'.setCell ⟨g, bs.length * 2 + 1, none⟩ v') base S g cap bs M v' ys := by
  obtain ⟨vs, h1, ⟨h2, h3, h4⟩, h5, h6, h7⟩ := h
  have k5 := own_low h5 (fun b hb => by simp only [Value.ownBlock, Option.some.injEq] at hb; omega) hb
  obtain ⟨k6, k7⟩ := k5.stored (bs.length * 2 + 1) v'
  refine ⟨vs, h1, ⟨h2, h3, by rw [show ∀ (w : World) (p : Addr) (u : Value), (w.setCell p u).heap.size = w.heap.size from fun w p u => by simp]; exact Nat.le_trans h4 hb.size⟩, ?_, fun i hi => ?_, hv.kept k7 (apart2 hv k5)⟩
  · have e : (flat2 (vs ++ [(M, v)])).set (bs.length * 2 + 1) v' = flat2 (vs ++ [(M, v')]) := by
      rw [flat2_app, flat2_app, List.set_append_right _ _ (by rw [flat2_len]; omega), flat2_len, h1, show bs.length * 2 + 1 - bs.length * 2 = 1 by omega]
      rfl
    rw [← e]; exact k6
  · have k8 := own_low (h6 i hi).2.1 (h6 i hi).2.2 hb
    exact ⟨(h6 i hi).1, k8.kept k7 (apart2 k8 k5), (h6 i hi).2.2⟩
/-- append of one batch that has no object yet. -/
theorem bappX_any {ops : Array Oper} {rest : List Oper} {o : Oper} {a : Act} {Q : Exit → Act → World → Prop} {W : World} (hgd : o.guard = none) (s x : Operand)
    (ho : o.op = .call { callee := .builtin .append, args := #[s, x], argTypes := #[22, 22] }) (base : Nat) (bs : List (Int × List Ob)) (M : Int) (w : World)
    (hW : W = w.alloc (.cells #[.int .i64 M, .slice none 0 0] 34)) (hrow : RowB w base (a.eval s) bs) (hx : a.eval x = .slice (some ⟨w.heap.size, 0, none⟩) 1 1) (h63 : bs.length ≤ 3000) (hbase : base ≤ w.heap.size)
    (h : ∀ g cap w', RowX w' base w'.heap.size g cap bs M (.slice none 0 0) [] → Below base w w' → w.heap.size ≤ w'.heap.size → wpList Tryz.prog ops Q rest (a.put o.dst (.slice (some ⟨g, 0, none⟩) (bs.length + 1) cap)) w') : wpList Tryz.prog ops Q (o :: rest) a W := by
  subst hW
  have hal : Below w.heap.size w (w.alloc (.cells #[.int .i64 M, .slice none 0 0] 34)) := (Below.refl _ _).alloc (Nat.le_refl _) _
  obtain ⟨vs, k1, k2, k3⟩ := hrow.below hal
  obtain ⟨i0, hi, hz0, hz1, hz2⟩ := info_parts infoBT
  have hzs : ((.agg #[.int .i64 0, .slice none 0 0] : Value).cells).size = 2 := rfl
  have hsz : (w.alloc (.cells #[.int .i64 M, .slice none 0 0] 34)).heap.size = w.heap.size + 1 := by simp
  refine wpList_append_own _ hgd s x 22 ho base 34 i0 (.agg #[.int .i64 0, .slice none 0 0]) 2 32 underBS hi hz0 hz1 hz2 hzs (by decide) _ _ _ rfl k2 ⟨w.heap.size, 0, none⟩ 1 1 [.int .i64 M, .slice none 0 0] hx rfl ?_ ?_ (by unfold maxLen; omega) (by omega) (by omega) fun v' w1 hown1 hgrow _ => ?_
  · intro j u hj
    rw [add_spot]
    have hj2 : j < 2 := (List.getElem?_eq_some_iff.1 hj).1
    have : j = 0 ∨ j = 1 := by omega
    rcases this with rfl | rfl <;> simp at hj ⊢ <;> exact hj
  · intro u hu
    simp at hu
    rcases hu with rfl | rfl <;> rfl
  · have hb : Below base w w1 := ((Below.refl _ w).alloc hbase _).grown hgrow (by omega) (fun k hk => (k2.lt k hk).1)
    obtain ⟨g, cap, rfl⟩ : ∃ g cap, v' = .slice (some ⟨g, 0, none⟩) (bs.length + 1) cap := by
      rcases hown1.2 with ⟨_, h0⟩ | ⟨g, cap, _, rfl, _⟩
      · omega
      · exact ⟨g, cap, rfl⟩
    have hlt := hown1.lt g rfl
    have e : flat2 (vs ++ [(M, .slice none 0 0)]) = flat2 vs ++ [.int .i64 M, .slice none 0 0] := by rw [flat2_app]; rfl
    refine h g cap w1 ⟨vs, k1, ⟨hlt.2, hlt.1, Nat.le_refl _⟩, by rw [e]; exact hown1, fun i hi2 => ?_, ⟨rfl, .inl ⟨rfl, rfl⟩⟩⟩ hb (by have := hgrow.size; omega)
    have k4 := (k3 i hi2).2.kept hgrow (apart2 (k3 i hi2).2 k2)
    exact ⟨(k3 i hi2).1, k4, fun b hb => (k4.lt b hb).2⟩
theorem own_prefix {w : World} {S size n m g cap : Nat} {e : TypeId} {xs ys : List Value} (h : w.ownsRow S e size (.slice (some ⟨g, 0, none⟩) (n + m) cap) (n + m) (xs ++ ys)) (hx : xs.length = n * size) : w.ownsRow S e size (.slice (some ⟨g, 0, none⟩) n cap) n xs := by
  refine ⟨hx, ?_⟩
  rcases h.2 with ⟨h1, _⟩ | ⟨g', cap', cur, hv, hb, hg, hnc, hcm, hcs, htake⟩
  · cases h1
  · simp only [Value.slice.injEq, Option.some.injEq, Addr.mk.injEq, and_true, true_and] at hv
    obtain ⟨rfl, rfl⟩ := hv
    refine .inr ⟨g, cap, cur, rfl, hb, hg, by omega, hcm, hcs, ?_⟩
    have h3 : (cur.toList.take ((n + m) * size)).take (n * size) = (xs ++ ys).take (n * size) := by rw [htake]
    rw [List.take_take, Nat.min_eq_left (Nat.mul_le_mul_right _ (Nat.le_add_right _ _)), ← hx, List.take_left] at h3
    rw [← hx]; exact h3
/-- An object behind those in a row of the call's own: the append as one operation's run. The elder row is there as it was. -/
theorem run_oapp (w : World) (ty : TypeId) (S : Nat) (v : Value) (xs : List Ob) (hown : w.ownsRow S 53 12 v xs.length (flat xs)) (b : Nat) (y : Ob) (hy : C12 w b 0 y) (hl : xs.length ≤ 3000) (hS : S ≤ w.heap.size) :
    ∃ g cap w', (Builtin.append_ #[29, 29] ty #[v, .slice (some ⟨b, 0, none⟩) 1 1]).run Tryz.prog w = .ok (.slice (some ⟨g, 0, none⟩) (xs.length + 1) cap) w' ∧ w'.ownsRow S 53 12 (.slice (some ⟨g, 0, none⟩) (xs.length + 1) cap) (xs ++ [y]).length (flat (xs ++ [y])) ∧ w.grownBy w' v.ownBlock ∧ w'.ownsRow S 53 12 v xs.length (flat xs) := by
  obtain ⟨i0, hi, hz0, hz1, hz2⟩ := info_parts infoOB
  have hzs : ((.agg #[.int .i64 0, .int .i64 0, .bool false, .int .i64 0, .int .i64 0, .int .i64 0, .int .i64 0, .int .i64 0, .int .i64 0, .int .i64 0, .int .i64 0, .int .i64 0] : Value).cells).size = 12 := rfl
  have e : flat (xs ++ [y]) = flat xs ++ y.cl := by rw [flat_app]; simp [flat]
  have e2 : (xs ++ [y]).length = xs.length + 1 := by simp
  have hnews : ∀ j u, y.cl[j]? = some u → w.cell? ((⟨b, 0, none⟩ : Addr).add j) = some u := fun j u hj => by
    rw [add_spot, hy j (List.getElem?_eq_some_iff.1 hj).1]; exact hj
  have hone : ∀ u ∈ y.cl, u.oneCell' = true := fun u hu => flat_ones [y] u (by simpa [flat] using hu)
  have hfl := flat_len xs
  rw [e, e2]
  rcases hown.2 with ⟨rfl, h0⟩ | ⟨g, cap, cur, rfl, hg1, hg2, _⟩
  · obtain ⟨v', w', hr, h2, h3, _, _⟩ := run_append_own_at (P := Tryz.prog) w S 29 ty 53 i0 (.agg #[.int .i64 0, .int .i64 0, .bool false, .int .i64 0, .int .i64 0, .int .i64 0, .int .i64 0, .int .i64 0, .int .i64 0, .int .i64 0, .int .i64 0, .int .i64 0]) 12 96 underSL hi hz0 hz1 hz2 hzs (by decide) (.slice none 0 0) xs.length (flat xs) hown ⟨b, 0, none⟩ 1 1 y.cl rfl hnews hone (by unfold maxLen; omega) (by omega) hS
    obtain ⟨g, cap, rfl⟩ : ∃ g cap, v' = .slice (some ⟨g, 0, none⟩) (xs.length + 1) cap := by
      rcases h2.2 with ⟨_, h0⟩ | ⟨g, cap, _, rfl, _⟩
      · omega
      · exact ⟨g, cap, rfl⟩
    exact ⟨g, cap, w', hr, h2, h3, ⟨hown.1, .inl ⟨rfl, h0⟩⟩⟩
  · by_cases hroom : xs.length + 1 ≤ cap
    · obtain ⟨w', hr, h2, h3⟩ := run_append_fits (P := Tryz.prog) w S 29 ty 53 i0 12 underSL hi hz1 g xs.length cap (flat xs) hown ⟨b, 0, none⟩ 1 1 y.cl rfl hnews hone hroom
      exact ⟨g, cap, w', hr, h2, h3, own_prefix h2 hfl⟩
    · obtain ⟨v', w', hr, h2, h3⟩ := run_append_arg_grows (P := Tryz.prog) w 29 ty 53 i0 (.agg #[.int .i64 0, .int .i64 0, .bool false, .int .i64 0, .int .i64 0, .int .i64 0, .int .i64 0, .int .i64 0, .int .i64 0, .int .i64 0, .int .i64 0, .int .i64 0]) 12 96 underSL hi hz0 hz1 hz2 hzs (by decide) ⟨g, 0, none⟩ xs.length cap (flat xs) hfl (hown.cells rfl) ⟨b, 0, none⟩ 1 1 y.cl rfl hnews (by omega) (by unfold maxLen; omega) (by omega)
      obtain ⟨g', cap', rfl⟩ : ∃ g cap, v' = .slice (some ⟨g, 0, none⟩) (xs.length + 1) cap := by
        rcases h2.2 with ⟨_, h0⟩ | ⟨g, cap, _, rfl, _⟩
        · omega
        · exact ⟨g, cap, rfl⟩
      exact ⟨g', cap', w', hr, own_mono h2 hS, ⟨h3.os, h3.tape, h3.output, h3.size, fun k hk _ => h3.block k hk (by simp)⟩, hown.kept h3 (.inr (by simp [Value.ownBlock]))⟩
theorem exec_append {ρ : Operand → Value} {o : Oper} {s x : Operand} {T : TypeId} {v u r : Value} {w w' : World} (ho : o.op = .call { callee := .builtin .append, args := #[s, x], argTypes := #[T, T] }) (hs : ρ s = v) (hx : ρ x = u)
    (hr : (Builtin.append_ #[T, T] o.type #[v, u]).run Tryz.prog w = .ok r w') : (execOp ρ o).run Tryz.prog w = .ok (.value r) w' := by
  unfold execOp
  simp only [ho, resolve, invoke, builtin, Sem.run_bind, Sem.run_pure, Result.andThen_ok, List.map_toArray, List.map_cons, List.map_nil, hs, hx, hr]
theorem c12_alloc (w : World) (y : Ob) (g : Nat) (hg : g = w.heap.size) : C12 (w.alloc (.cells #[.int .i64 y.k, .int .i64 y.x, .bool y.n, .int .i64 y.t, .int .i64 y.o, .int .i64 y.r, .int .i64 y.d, .int .i64 y.i, .int .i64 y.p, .int .i64 y.q, .int .i64 y.s, .int .i64 y.m] 53)) g 0 y := fun j hj => by
  subst hg
  rw [Nat.zero_add, cell_of_row _ _ _ _ _ _ (heap_alloc_new w _)]
  simp [Ob.cl]
def XA (row : Option Nat) (s k : Nat) (w w' : World) : Prop := if k = s then w.grownBy w' row else Below w.heap.size w w'
theorem XA_refl (row : Option Nat) (s k : Nat) (w : World) : XA row s k w w := by
  unfold XA
  by_cases h : k = s
  · rw [if_pos h]; exact ⟨rfl, rfl, rfl, Nat.le_refl _, fun _ _ _ => rfl⟩
  · rw [if_neg h]; exact Below.refl _ _
theorem XA_of {row : Option Nat} {s k : Nat} {w w' : World} (h : k ≠ s) (hb : Below w.heap.size w w') : XA row s k w w' := by unfold XA; rw [if_neg h]; exact hb
theorem XA_at {row : Option Nat} {s k : Nat} {w w' : World} (h : k = s) (hb : w.grownBy w' row) : XA row s k w w' := by unfold XA; rw [if_pos h]; exact hb
/-- A slice of one object in a new block. -/
def NewOb (wo : World) (y : Ob) : Ty := fun u w => ∃ b, u = .slice (some ⟨b, 0, none⟩) 1 1 ∧ wo.heap.size ≤ b ∧ C12 w b 0 y
theorem NewOb.keeps {wo : World} {y : Ob} {row : Option Nat} (hrow : ∀ b, row = some b → b < wo.heap.size) (s k : Nat) : T3.Keeps (XA row s) k (NewOb wo y) := by
  rintro j _ u w w' ⟨b, h1, h2, h3⟩ hx
  have hlt : b < w.heap.size := by
    have := h3 0 (by decide)
    exact World.block_lt_of_cell? w ⟨b, 0 + 0, none⟩ (by rw [this]; rfl)
  refine ⟨b, h1, h2, fun i hi => ?_⟩
  rw [← h3 i hi]
  unfold XA at hx
  by_cases hj : j = s
  · rw [if_pos hj] at hx
    exact World.cell?_of_block (hx.block b hlt (fun e => by have := hrow b e.symm; omega))
  · rw [if_neg hj] at hx
    exact hx.cell (p := ⟨b, 0 + i, none⟩) hlt
/-- A row of objects of the call's own. -/
def NewRow (S : Nat) (zs : List Ob) (n : Nat) : Ty := fun u w => ∃ g cap, u = .slice (some ⟨g, 0, none⟩) n cap ∧ w.ownsRow S 53 12 u zs.length (flat zs)
theorem NewRow.keeps {S n : Nat} {zs : List Ob} {row : Option Nat} (s : Nat) : T3.Keeps (XA row s) s (NewRow S zs n) := by
  rintro j hj u w w' ⟨g, cap, h1, h2⟩ hx
  unfold XA at hx
  rw [if_neg hj] at hx
  exact ⟨g, cap, h1, own_below h2 hx⟩
end Go.Proofs.YtfiaghfaijlfjaaGreat

namespace Go.Proofs.YtfiaghfaijlfjaaGreat
set_option maxRecDepth 100000
open Go.RowKit Go.Sort

theorem z_nxt_eq (a : Int) : z_nxt a = nxt a := by unfold z_nxt nxt; omega
/-- The next one's number. -/
theorem pnext_any (a : Int) (w : World) : Calls Tryz.prog 52 #[.int .i64 a] w fun e w' => e = .returned (.int .i64 (nxt a)) ∧ Below w.heap.size w w' := by
  have h := z_next_any a w
  rwa [z_nxt_eq] at h
set_option maxHeartbeats 32000000 in
theorem part_any (v : Value) (ys : List Ob) (n0 most : Int) (w : World) (hy : Os w v ys) (hl : ys.length ≤ 1024) (hm : 40 ≤ most ∧ most ≤ 512) :
    Calls Tryz.prog 69 #[v, .int .i64 n0, .int .i64 most] w fun e w' => ∃ r, e = .returned r ∧ RowB w' w.heap.size r (packF most ys ys.length 0 n0) ∧ Below w.heap.size w w' := by
  obtain ⟨a, c, rfl⟩ := hy.form
  have HY := Lib.hid hy
  clear hy
  go_enter Tryz.func69, Tryz.ntmps69
  go_wp2_with fail
  go_step3
  go_wp2_with fail
  go_step3
  go_wp2_with fail
  go_loopg [1, 7, 8, 9, 10] ys.length (fun f n out A _ _ wx => ∃ (k : Nat) (bs : List (Int × List Ob)) (m : Int), A = .int .i64 k ∧ k ≤ ys.length ∧ n = .int .i64 m ∧ RowB wx w.heap.size out bs ∧ ys.length ≤ k + f ∧ bs ++ packF most ys f k m = packF most ys ys.length 0 n0 ∧ bs.length ≤ k ∧ Below w.heap.size w wx)
  case atStart => exact ⟨0, [], n0, rfl, Nat.zero_le _, rfl, RowB_nil _ _, by omega, rfl, Nat.le_refl _, Below.refl _ _⟩
  case round =>
    obtain ⟨k, bs, m, rfl, hk, rfl, hrow, hf, heq, hbl, hbel⟩ := hrel
    have HR := Lib.hid hrow
    have HE := Lib.hid heq
    have HB := Lib.hid hbel
    clear hrow heq hbel
    obtain ⟨wo, hwo⟩ : ∃ wo, wo = wr := ⟨_, rfl⟩
    subst hwo
    by_cases hlt : k < ys.length
    · obtain ⟨f, rfl⟩ : ∃ f, gk = f + 1 := ⟨gk - 1, by omega⟩
      go_wp2_with (at_builtin; refine bappX_any rfl (.tmp 15) (.tmp 18) rfl w.heap.size bs m wo rfl HR.out rfl (by omega) HB.out.size ?_; intro g cap w5 hX hb5 hs5; have RX := Lib.hid hX; have B5 := Lib.hid (HB.out.trans hb5); clear hX hb5 hs5)
      refine (pnext_any m _).mono ?_
      rintro e w6 ⟨rfl, hb6⟩
      replace RX := Lib.hid (RX.out.below hb6)
      replace B5 := Lib.hid (B5.out.trans (hb6.mono B5.out.size))
      clear hb6
      obtain ⟨S, hS⟩ : ∃ S, w5.heap.size = S := ⟨_, rfl⟩
      rw [hS] at RX
      clear hS
      go_wp2_with fail
      go_loopg [8, 10] (ys.length - k) (fun f2 A2 b2 wx => ∃ (q : Nat) (v : Value), A2 = .int .i64 q ∧ k ≤ q ∧ q + f2 = ys.length ∧ b2 = .int .i64 (3 + (osz (seg ys k q) : Int)) ∧ RowX wx w.heap.size S g cap bs m v (seg ys k q) ∧ q - k ≤ 32 ∧ (∀ s, k + 1 ≤ s → s < q → Fit1 most ys k s) ∧ Below w.heap.size w wx)
      case atStart => exact ⟨k, _, rfl, Nat.le_refl _, by omega, by rw [seg_self]; rfl, by rw [seg_self]; exact RX.out, by omega, fun s h1 h2 => by omega, B5.out⟩
      case round =>
        obtain ⟨q, v, rfl, hkq, hqf, rfl, hX, h32, hfit, hbel2⟩ := hrel
        obtain ⟨hcell, hfz, hgS, hSW, hone, a3, c3, rfl⟩ := hX.cells
        have HX := Lib.hid hX
        have HF := Lib.hid hfit
        have HB2 := Lib.hid hbel2
        have hql : q ≤ ys.length := by omega
        have HSL := Lib.hid (seg_len ys (A := k) hql)
        have hoz : osz (seg ys k q) ≤ 1280 := by have := osz_le (seg ys k q); rw [HSL.out] at this; omega
        clear hX hfit hbel2 hone hcell hfz
        by_cases hq : q < ys.length
        · obtain ⟨b, off, rfl, hB, hc⟩ := HY.out.at hq
          have hsucc := Lib.hid (seg_succ ys hkq hq)
          obtain ⟨y, hyk⟩ : ∃ y, ys.getD q z12 = y := ⟨_, rfl⟩
          rw [hyk] at hc hsucc
          have HC := Lib.hid hc
          have hyl := bs_le37 y
          have cB : ∀ w, Calls Tryz.prog 87 #[.agg #[.int .i64 y.k, .int .i64 y.x, .bool y.n, .int .i64 y.t, .int .i64 y.o, .int .i64 y.r, .int .i64 y.d, .int .i64 y.i, .int .i64 y.p, .int .i64 y.q, .int .i64 y.s, .int .i64 y.m]] w fun e w' => e = .returned (.int .i64 y.bs.length) ∧ Below w.heap.size w w' := fun w => osize_any y.k y.x y.n y.t y.o y.r y.d y.i y.p y.q y.s y.m w
          obtain ⟨p0, p1, p2, p3, p4, p5, p6, p7, p8, p9, p10, p11⟩ := (hc.low hB HB2.out).all
          clear hc hyk
          go_wp2_with fail
          refine (cB _).mono ?_
          rintro e wo2 ⟨rfl, hb7⟩
          clear p0 p1 p2 p3 p4 p5 p6 p7 p8 p9 p10 p11
          replace HX := Lib.hid (HX.out.below hb7)
          replace HB2 := Lib.hid (HB2.out.trans (hb7.mono HB2.out.size))
          clear hb7
          have hcut : ¬ Fit1 most ys k q → q ≠ k → Hid (cutTo most ys k = q) := fun hn hne => cutF_eq hn ys.length (k + 1) (by omega) (by omega) HF.out
          obtain ⟨hcell, hfz, -, -, -, -⟩ := HX.out.cells
          have hdr : 3 + (osz (seg ys k q) : Int) + (y.bs.length : Int) = 3 + (osz (seg ys k (q + 1)) : Int) := by
            rw [hsucc.out, osz_app]; simp [osz]; omega
          by_cases h1 : most < 3 + (osz (seg ys k q) : Int) + (y.bs.length : Int)
          · have hne : q ≠ k := fun e => by
              subst e
              rw [seg_self] at h1
              simp [osz] at h1
              omega
            have HCUT := hcut (fun h => by have := h.2.2; unfold seg at hdr h1; omega) hne
            clear hdr hcut
            go_wp2_with fail
            go_roundg f
            case measure => omega
            case rel => 
              have he := HE.out
              rw [packF_cons hlt, HCUT.out] at he
              exact ⟨q, bs ++ [(m, seg ys k q)], nxt m, rfl, by omega, rfl, HX.out.row, by omega, by rw [List.append_assoc]; exact he, by rw [List.length_append]; simp; omega, HB2.out⟩
          · by_cases h2 : q - k = 32
            · have h2' : (((seg ys k q).length : Int) == 32) = true := by rw [HSL.out, h2]; rfl
              have HCUT := hcut (fun h => by have := h.2.1; omega) (by omega)
              clear hdr hcut
              go_wp2_with fail
              go_roundg f
              case measure => omega
              case rel => 
              have he := HE.out
              rw [packF_cons hlt, HCUT.out] at he
              exact ⟨q, bs ++ [(m, seg ys k q)], nxt m, rfl, by omega, rfl, HX.out.row, by omega, by rw [List.append_assoc]; exact he, by rw [List.length_append]; simp; omega, HB2.out⟩
            · have h2' : (((seg ys k q).length : Int) == 32) = false := by rw [HSL.out, beq_eq_false_iff_ne]; omega
              have HFQ : Hid (k + 1 ≤ q → Fit1 most ys k q) := fun _ => ⟨hq, by omega, by unfold seg at hdr; unfold seg at h1; omega⟩
              have HDR := Lib.hid hdr
              have hq0 : (0 : Int) ≤ (q : Int) := by omega
              have hq1 : (q : Int) < (ys.length : Int) := by omega
              have hqn : ((q : Int)).toNat = q := Int.toNat_natCast q
              have HXL : Hid ((seg ys k q).length ≤ 3000) := by show _ ≤ _; rw [HSL.out]; omega
              have OW := Lib.hid HX.out.last.1
              have HSW : Hid (S ≤ wo2.heap.size) := HX.out.cells.2.2.2.1
              have HROW : ∀ b, Value.ownBlock (.slice a3 (seg ys k q).length c3) = some b → b < wo2.heap.size := fun b hb => (OW.out.lt b hb).2
              have kc : ∀ w', Below S wo2 w' → w'.cell? ⟨g, bs.length * 2 + 1, none⟩ = some (.slice a3 (seg ys k q).length c3) ∧ C12 w' b (off + q * 12) y := fun w' h =>
                ⟨by rw [h.cell (p := ⟨g, bs.length * 2 + 1, none⟩) hgS]; exact hcell, (HC.out.low hB HB2.out).low (Nat.lt_trans hB (Nat.lt_of_le_of_lt HX.out.last.2 hgS)) h⟩
              have kc := fun w' h => (⟨(kc w' h).1, (kc w' h).2.all⟩ : _ ∧ _)
              clear hdr hcut
              go_wp2_with fail
              refine T3.wp_region_tail (C := fun w' => Below S wo2 w' ∧ w'.ownsRow S 53 12 (.slice a3 (seg ys k q).length c3) (seg ys k q).length (flat (seg ys k q))) (X := XA (Value.ownBlock (.slice a3 (seg ys k q).length c3)) 10) (n := 65) 13 (by kernel_rfl) (by kernel_rfl) (by kernel_rfl) (by kernel_rfl) rfl (XA_refl _ 10) ⟨(Below.refl _ _).drew, OW.out.drew⟩ ?_
              simp only [List.take_succ_cons, List.take_zero, List.drop_succ_cons, List.drop_zero]
              refine T3.w_is (XA_refl _ 10) rfl _ (.inl rfl) (fun ρ w hC hc hfn hf => by have e9 : ρ (.tmp 9) = _ := hf 9 (by decide); (conv => lhs; simp [execOp, go_sem, hc, e9])) ?_
              refine T3.w_is (XA_refl _ 10) rfl _ (.inl rfl) (fun ρ w hC hc hfn hf => by have e9 : ρ (.tmp 9) = _ := hf 9 (by decide); (conv => lhs; simp [execOp, go_sem, hc, e9])) ?_
              refine T3.w_is (XA_refl _ 10) rfl _ (.inl rfl) (fun ρ w hC hc hfn hf => by have e52 : ρ (.tmp 52) = _ := hf 52 (by decide); (conv => lhs; simp [execOp, go_sem, hc, e52])) ?_
              refine T3.w_is (XA_refl _ 10) rfl _ (.inl rfl) (fun ρ w hC hc hfn hf => by have e53 : ρ (.tmp 53) = _ := hf 53 (by decide); (conv => lhs; simp [execOp, go_sem, hc, e53])) ?_
              refine T3.w_is (XA_refl _ 10) rfl _ (.inl rfl) (fun ρ w hC hc hfn hf => by have e54 : ρ (.tmp 54) = _ := hf 54 (by decide); (conv => lhs; simp [execOp, go_sem, hc, e54, kc w hC.1])) ?_
              refine T3.w_is (XA_refl _ 10) rfl _ (.inl rfl) (fun ρ w hC hc hfn hf => by have e0 : ρ (.tmp 0) = _ := hf 0 (by decide); (conv => lhs; simp [execOp, go_sem, hc, e0])) ?_
              refine T3.w_is (XA_refl _ 10) rfl _ (.inl rfl) (fun ρ w hC hc hfn hf => by have e8 : ρ (.tmp 8) = _ := hf 8 (by decide); (conv => lhs; simp [execOp, go_sem, hc, e8])) ?_
              refine T3.w_is (XA_refl _ 10) rfl _ (.inl rfl) (fun ρ w hC hc hfn hf => by have e56 : ρ (.tmp 56) = _ := hf 56 (by decide); have e57 : ρ (.tmp 57) = _ := hf 57 (by decide); (conv => lhs; simp [execOp, go_sem, hc, e56, e57, hq0, hq1, hqn])) ?_
              refine T3.w_is (XA_refl _ 10) rfl _ (.inl rfl) (fun ρ w hC hc hfn hf => by have e58 : ρ (.tmp 58) = _ := hf 58 (by decide); (conv => lhs; simp [execOp, go_sem, hc, e58, kc w hC.1])) ?_
              refine T3.w_make rfl (NewOb wo2 y) (NewOb.keeps HROW 10 9) (.inl rfl) (fun ρ w hC hc hfn hf => by have e59 : ρ (.tmp 59) = _ := hf 59 (by decide); exact ⟨_, _, by (conv => lhs; simp [execOp, go_sem, hc, e59]), ⟨hC.1.alloc (Nat.le_trans HSW.out hC.1.size) _, hC.2.alloc _⟩, XA_of (by decide) ((Below.refl _ w).alloc (Nat.le_refl _) _), ⟨_, rfl, hC.1.size, c12_alloc w y _ rfl⟩⟩) ?_
              refine T3.w_make rfl (NewRow S ((seg ys k q) ++ [y]) ((seg ys k q).length + 1)) (NewRow.keeps 10) (.inl rfl) (fun ρ w hC hc hfn hf => by have e55 : ρ (.tmp 55) = _ := hf 55 (by decide); obtain ⟨bq, e60, hb1, hb2⟩ := (show NewOb wo2 y (ρ (.tmp 60)) w from hf 60 (by decide)); obtain ⟨gq, cq, wq, hr, hq1, hq2, hq3⟩ := run_oapp w 22 S _ (seg ys k q) hC.2 bq y hb2 HXL.out (Nat.le_trans HSW.out hC.1.size); exact ⟨_, wq, exec_append rfl e55 e60 hr, ⟨hC.1.trans ((Below.refl S w).grown hq2 (Nat.le_trans HSW.out hC.1.size) (fun k hk => (hC.2.lt k hk).1)), hq3⟩, XA_at rfl hq2, ⟨gq, cq, rfl, hq1⟩⟩) ?_
              refine T3.w_is (XA_refl _ 10) rfl _ (.inl rfl) (fun ρ w hC hc hfn hf => by have e51 : ρ (.tmp 51) = _ := hf 51 (by decide); (conv => lhs; simp [execOp, go_sem, hc, e51])) ?_
              refine T3.w_is (XA_refl _ 10) rfl _ (.inl rfl) (fun ρ w hC hc hfn hf => by have e62 : ρ (.tmp 62) = _ := hf 62 (by decide); (conv => lhs; simp [execOp, go_sem, hc, e62])) ?_
              intro A V5 hC hn hd hf
              obtain ⟨bq, y60, -, -⟩ := (show NewOb wo2 y (A.eval (.tmp 60)) V5 from hf 60)
              obtain ⟨gq, cq, y61, OQ⟩ := (show NewRow S ((seg ys k q) ++ [y]) ((seg ys k q).length + 1) (A.eval (.tmp 61)) V5 from hf 61)
              rw [y61] at OQ
              have y0 : A.eval (.tmp 0) = _ := Eq.trans (hf 0) (by conv => lhs; simp [go_sem])
              have y1 : A.eval (.tmp 1) = _ := Eq.trans (hf 1) (by conv => lhs; simp [go_sem])
              have y2 : A.eval (.tmp 2) = _ := Eq.trans (hf 2) (by conv => lhs; simp [go_sem])
              have y3 : A.eval (.tmp 3) = _ := Eq.trans (hf 3) (by conv => lhs; simp [go_sem])
              have y4 : A.eval (.tmp 4) = _ := Eq.trans (hf 4) (by conv => lhs; simp [go_sem])
              have y5 : A.eval (.tmp 5) = _ := Eq.trans (hf 5) (by conv => lhs; simp [go_sem])
              have y6 : A.eval (.tmp 6) = _ := Eq.trans (hf 6) (by conv => lhs; simp [go_sem])
              have y7 : A.eval (.tmp 7) = _ := Eq.trans (hf 7) (by conv => lhs; simp [go_sem])
              have y8 : A.eval (.tmp 8) = _ := Eq.trans (hf 8) (by conv => lhs; simp [go_sem])
              have y9 : A.eval (.tmp 9) = _ := Eq.trans (hf 9) (by conv => lhs; simp [go_sem])
              have y10 : A.eval (.tmp 10) = _ := Eq.trans (hf 10) (by conv => lhs; simp [go_sem])
              have y11 : A.eval (.tmp 11) = _ := Eq.trans (hf 11) (by conv => lhs; simp [go_sem])
              have y12 : A.eval (.tmp 12) = _ := Eq.trans (hf 12) (by conv => lhs; simp [go_sem])
              have y13 : A.eval (.tmp 13) = _ := Eq.trans (hf 13) (by conv => lhs; simp [go_sem])
              have y14 : A.eval (.tmp 14) = _ := Eq.trans (hf 14) (by conv => lhs; simp [go_sem])
              have y15 : A.eval (.tmp 15) = _ := Eq.trans (hf 15) (by conv => lhs; simp [go_sem])
              have y16 : A.eval (.tmp 16) = _ := Eq.trans (hf 16) (by conv => lhs; simp [go_sem])
              have y17 : A.eval (.tmp 17) = _ := Eq.trans (hf 17) (by conv => lhs; simp [go_sem])
              have y18 : A.eval (.tmp 18) = _ := Eq.trans (hf 18) (by conv => lhs; simp [go_sem])
              have y19 : A.eval (.tmp 19) = _ := Eq.trans (hf 19) (by conv => lhs; simp [go_sem])
              have y20 : A.eval (.tmp 20) = _ := Eq.trans (hf 20) (by conv => lhs; simp [go_sem])
              have y21 : A.eval (.tmp 21) = _ := Eq.trans (hf 21) (by conv => lhs; simp [go_sem])
              have y22 : A.eval (.tmp 22) = _ := Eq.trans (hf 22) (by conv => lhs; simp [go_sem])
              have y23 : A.eval (.tmp 23) = _ := Eq.trans (hf 23) (by conv => lhs; simp [go_sem])
              have y24 : A.eval (.tmp 24) = _ := Eq.trans (hf 24) (by conv => lhs; simp [go_sem])
              have y25 : A.eval (.tmp 25) = _ := Eq.trans (hf 25) (by conv => lhs; simp [go_sem])
              have y26 : A.eval (.tmp 26) = _ := Eq.trans (hf 26) (by conv => lhs; simp [go_sem])
              have y27 : A.eval (.tmp 27) = _ := Eq.trans (hf 27) (by conv => lhs; simp [go_sem])
              have y28 : A.eval (.tmp 28) = _ := Eq.trans (hf 28) (by conv => lhs; simp [go_sem])
              have y29 : A.eval (.tmp 29) = _ := Eq.trans (hf 29) (by conv => lhs; simp [go_sem])
              have y30 : A.eval (.tmp 30) = _ := Eq.trans (hf 30) (by conv => lhs; simp [go_sem])
              have y31 : A.eval (.tmp 31) = _ := Eq.trans (hf 31) (by conv => lhs; simp [go_sem])
              have y32 : A.eval (.tmp 32) = _ := Eq.trans (hf 32) (by conv => lhs; simp [go_sem])
              have y33 : A.eval (.tmp 33) = _ := Eq.trans (hf 33) (by conv => lhs; simp [go_sem])
              have y34 : A.eval (.tmp 34) = _ := Eq.trans (hf 34) (by conv => lhs; simp [go_sem])
              have y35 : A.eval (.tmp 35) = _ := Eq.trans (hf 35) (by conv => lhs; simp [go_sem])
              have y36 : A.eval (.tmp 36) = _ := Eq.trans (hf 36) (by conv => lhs; simp [go_sem])
              have y37 : A.eval (.tmp 37) = _ := Eq.trans (hf 37) (by conv => lhs; simp [go_sem])
              have y38 : A.eval (.tmp 38) = _ := Eq.trans (hf 38) (by conv => lhs; simp [go_sem])
              have y39 : A.eval (.tmp 39) = _ := Eq.trans (hf 39) (by conv => lhs; simp [go_sem])
              have y40 : A.eval (.tmp 40) = _ := Eq.trans (hf 40) (by conv => lhs; simp [go_sem])
              have y41 : A.eval (.tmp 41) = _ := Eq.trans (hf 41) (by conv => lhs; simp [go_sem])
              have y42 : A.eval (.tmp 42) = _ := Eq.trans (hf 42) (by conv => lhs; simp [go_sem])
              have y43 : A.eval (.tmp 43) = _ := Eq.trans (hf 43) (by conv => lhs; simp [go_sem])
              have y44 : A.eval (.tmp 44) = _ := Eq.trans (hf 44) (by conv => lhs; simp [go_sem])
              have y45 : A.eval (.tmp 45) = _ := Eq.trans (hf 45) (by conv => lhs; simp [go_sem])
              have y46 : A.eval (.tmp 46) = _ := Eq.trans (hf 46) (by conv => lhs; simp [go_sem])
              have y47 : A.eval (.tmp 47) = _ := Eq.trans (hf 47) (by conv => lhs; simp [go_sem])
              have y48 : A.eval (.tmp 48) = _ := Eq.trans (hf 48) (by conv => lhs; simp [go_sem])
              have y49 : A.eval (.tmp 49) = _ := Eq.trans (hf 49) (by conv => lhs; simp [go_sem])
              have y50 : A.eval (.tmp 50) = _ := Eq.trans (hf 50) (by conv => lhs; simp [go_sem])
              have y51 : A.eval (.tmp 51) = _ := hf 51
              have y52 : A.eval (.tmp 52) = _ := hf 52
              have y53 : A.eval (.tmp 53) = _ := hf 53
              have y54 : A.eval (.tmp 54) = _ := hf 54
              have y55 : A.eval (.tmp 55) = _ := hf 55
              have y56 : A.eval (.tmp 56) = _ := hf 56
              have y57 : A.eval (.tmp 57) = _ := hf 57
              have y58 : A.eval (.tmp 58) = _ := hf 58
              have y59 : A.eval (.tmp 59) = _ := hf 59
              have y62 : A.eval (.tmp 62) = _ := hf 62
              have y63 : A.eval (.tmp 63) = _ := hf 63
              have y64 : A.eval (.tmp 64) = _ := Eq.trans (hf 64) (by conv => lhs; simp [go_sem])
              clear hf
              have hA := frame_eq hn
              rw [show List.range 65 = [0, 1, 2, 3, 4, 5, 6, 7, 8, 9, 10, 11, 12, 13, 14, 15, 16, 17, 18, 19, 20, 21, 22, 23, 24, 25, 26, 27, 28, 29, 30, 31, 32, 33, 34, 35, 36, 37, 38, 39, 40, 41, 42, 43, 44, 45, 46, 47, 48, 49, 50, 51, 52, 53, 54, 55, 56, 57, 58, 59, 60, 61, 62, 63, 64] from rfl, hd] at hA
              simp only [List.map_cons, List.map_nil, y0, y1, y2, y3, y4, y5, y6, y7, y8, y9, y10, y11, y12, y13, y14, y15, y16, y17, y18, y19, y20, y21, y22, y23, y24, y25, y26, y27, y28, y29, y30, y31, y32, y33, y34, y35, y36, y37, y38, y39, y40, y41, y42, y43, y44, y45, y46, y47, y48, y49, y50, y51, y52, y53, y54, y55, y56, y57, y58, y59, y60, y61, y62, y63, y64] at hA
              clear y0 y1 y2 y3 y4 y5 y6 y7 y8 y9 y10 y11 y12 y13 y14 y15 y16 y17 y18 y19 y20 y21 y22 y23 y24 y25 y26 y27 y28 y29 y30 y31 y32 y33 y34 y35 y36 y37 y38 y39 y40 y41 y42 y43 y44 y45 y46 y47 y48 y49 y50 y51 y52 y53 y54 y55 y56 y57 y58 y59 y60 y61 y62 y63 y64
              clear hn hd
              subst hA
              have hcell5 := (kc V5 hC.1).1
              have hfz5 : V5.frozen? ⟨g, bs.length * 2 + 1, none⟩ = false := by rw [hC.1.frozen (p := ⟨g, bs.length * 2 + 1, none⟩) hgS]; exact hfz _
              have HT := Lib.hid (HX.out.turn hC.1 OQ)
              have HB5 := Lib.hid ((HB2.out.trans (hC.1.mono (Nat.le_trans HX.out.last.2 (Nat.le_of_lt hgS)))).setCell (p := ⟨g, bs.length * 2 + 1, none⟩) HX.out.last.2 (.slice (some ⟨gq, 0, none⟩) ((seg ys k q).length + 1) cq))
              clear kc OQ hC HROW hcell hfz
              go_wp2_with fail
              go_roundg (gk - 1)
              case measure => omega
              case rel =>
                refine ⟨q + 1, _, by go_num, by omega, by omega, by rw [← HDR.out], by rw [hsucc.out]; exact HT.out, by omega, ?_, HB5.out⟩
                intro s hs1 hs2
                by_cases hsq : s < q
                · exact HF.out s hs1 hsq
                · obtain rfl : s = q := by omega
                  exact HFQ.out hs1
        · obtain rfl : q = ys.length := by omega
          have HCUT : Hid (cutTo most ys k = ys.length) := cutF_eq (fun h => by have := h.1; omega) ys.length (k + 1) (by omega) (by omega) HF.out
          go_wp2_with fail
          go_roundg f
          case measure => omega
          case rel => 
              have he := HE.out
              rw [packF_cons hlt, HCUT.out] at he
              exact ⟨ys.length, bs ++ [(m, seg ys k ys.length)], nxt m, rfl, by omega, rfl, HX.out.row, by omega, by rw [List.append_assoc]; exact he, by rw [List.length_append]; simp; omega, HB2.out⟩
    · go_wp2_with fail
      try rw [Exit.noGoto_ret]
      go_ret
      have he := HE.out
      rw [packF_nil most ys _ _ _ (by omega), List.append_nil] at he
      rw [he] at HR
      exact ⟨_, rfl, HR.out, HB.out⟩
end Go.Proofs.YtfiaghfaijlfjaaGreat

namespace Go.Proofs.YtfiaghfaijlfjaaGreat
set_option maxRecDepth 100000
open Go.RowKit Go.Sort

set_option maxHeartbeats 8000000 in
theorem ppack_any (v : Value) (ys : List Ob) (first most : Int) (w : World) (hy : Os w v ys) (hl : ys.length ≤ 3000) :
    Calls Tryz.prog 39 #[v, .int .i64 first, .int .i64 most] w fun e w' => ∃ r, e = .returned (.tuple #[r, .int .i64 (packE ys most)]) ∧ RowB w' w.heap.size r (packB ys first most) ∧ Below w.heap.size w w' := by
  have fin : ∀ E : Int, E ≠ 0 → packE ys most = E → packB ys first most = [] := fun E h1 h2 => by unfold packB; rw [if_neg (by omega)]
  by_cases hm : 40 ≤ most ∧ most ≤ 512
  · have hm1 : ¬ most < 40 := by omega
    have hm2 : ¬ (512 : Int) < most := by omega
    have cR := fun w' (hb : Below w.heap.size w w') => areright_any v ys w' (hy.below hb) hl
    by_cases hok : AllOk ys
    · rw [decide_eq_true hok] at cR
      by_cases h1024 : 1024 < ys.length
      · have hE : packE ys most = 2 := by unfold packE; rw [if_pos ⟨hm.1, hm.2, hok⟩, if_pos h1024]
        rw [fin 2 (by decide) hE, hE]
        have hl2 : (1024 : Int) < (ys.length : Int) := by omega
        obtain ⟨a, c, rfl⟩ := hy.form
        clear hy hok fin hE
        go_enter Tryz.func39, Tryz.ntmps39
        go_wp2_with (go_at_call 68; refine (cR _ (Below.refl _ _)).mono ?_; rintro e w1 ⟨rfl, hb⟩; have B1 := Lib.hid hb; clear hb)
        go_ret2
        exact ⟨_, rfl, RowB_nil _ _, B1.out⟩
      · have hE : packE ys most = 0 := by unfold packE; rw [if_pos ⟨hm.1, hm.2, hok⟩, if_neg h1024]
        rw [packB, if_pos hE, hE]
        have hl2 : ¬ (1024 : Int) < (ys.length : Int) := by omega
        have cP := fun w' (hb : Below w.heap.size w w') => part_any v ys (lft first) most w' (hy.below hb) (by omega) hm
        obtain ⟨a, c, rfl⟩ := hy.form
        have HY := Lib.hid hy
        clear hy hok fin hE
        go_enter Tryz.func39, Tryz.ntmps39
        go_wp2_with fail
        refine (cR _ (Below.refl _ _)).mono ?_
        rintro e w1 ⟨rfl, hb⟩
        have B1 := Lib.hid hb
        clear hb
        go_wp2_with fail
        refine (pleft_any first _).mono ?_
        rintro e w2 ⟨rfl, hb⟩
        replace B1 := Lib.hid (B1.out.trans (hb.mono B1.out.size))
        clear hb
        go_wp2_with fail
        refine (cP _ B1.out).mono ?_
        rintro e w3 ⟨r, rfl, hr, hb⟩
        have R := Lib.hid (show RowB w3 w.heap.size r (packL most ys first) from hr.base B1.out.size)
        have B2 := Lib.hid (B1.out.trans (hb.mono B1.out.size))
        obtain ⟨a3, c3, rfl⟩ := R.out.form
        clear hb hr
        go_wp2_with fail
        go_ret2
        exact ⟨_, rfl, R.out, B2.out⟩
    · rw [decide_eq_false hok] at cR
      have hE : packE ys most = 1 := by unfold packE; rw [if_neg (fun h => hok h.2.2)]
      rw [fin 1 (by decide) hE, hE]
      obtain ⟨a, c, rfl⟩ := hy.form
      clear hy hok fin hE
      go_enter Tryz.func39, Tryz.ntmps39
      go_wp2_with (go_at_call 68; refine (cR _ (Below.refl _ _)).mono ?_; rintro e w1 ⟨rfl, hb⟩; have B1 := Lib.hid hb; clear hb)
      go_ret2
      exact ⟨_, rfl, RowB_nil _ _, B1.out⟩
  · have hE : packE ys most = 1 := by unfold packE; rw [if_neg (fun h => hm ⟨h.1, h.2.1⟩)]
    rw [fin 1 (by decide) hE, hE]
    obtain ⟨a, c, rfl⟩ := hy.form
    clear hy fin hE
    by_cases h40 : most < 40
    · go_enter Tryz.func39, Tryz.ntmps39
      go_wp2_with fail
      go_ret2
      exact ⟨_, rfl, RowB_nil _ _, Below.refl _ _⟩
    · have h512 : (512 : Int) < most := by omega
      go_enter Tryz.func39, Tryz.ntmps39
      go_wp2_with fail
      go_ret2
      exact ⟨_, rfl, RowB_nil _ _, Below.refl _ _⟩
end Go.Proofs.YtfiaghfaijlfjaaGreat
