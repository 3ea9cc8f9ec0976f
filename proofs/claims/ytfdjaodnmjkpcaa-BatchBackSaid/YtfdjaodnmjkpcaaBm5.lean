/- Facts for the law BatchBack. A case of the law BatchBack: what is parsed first is none, the batch is right. A case of the law BatchBack: what is parsed first is none, the batch is not right. -/
import Derived.Test.YtfdjaodnmjkpcaaBm2
import Derived.Test.YtfdjaodnmjkpcaaBm4
import Derived.Test.YtfdjaodnmjkpcaaTyp2
import Derived.WalkLawsBesides
import Derived.WalkKit
import Derived.ProofKit
import Derived.OpenShut
import Derived.ShutString
import Derived.ChangeOld
import Derived.Below
namespace Go.Proofs.Ytfdjaodnmjkpcaa.batchBack
open Go.ChangeShapes Go.WideShapes Go.ChangeAt Go.RowKit
open Go.ChangeMaps (open_string shut_string)
set_option linter.unusedVariables false
set_option maxRecDepth 100000
open Go.Sort


theorem bs_take {w : World} {b o p T : Nat} {m : List Int} (h : Bs w (.slice (some ⟨b, o, none⟩) m.length p) m) (hT : T ≤ m.length) (h0 : 0 < T) : Bs w (.slice (some ⟨b, o, none⟩) T p) (m.take T) := by
  obtain ⟨h1, h2, ⟨a, cap, hv, -, rfl⟩ | ⟨b', o', cap, hv, hc, hcell⟩⟩ := h
  · simp at hT; omega
  · simp only [Value.slice.injEq, Option.some.injEq, Addr.mk.injEq, and_true, true_and] at hv
    obtain ⟨⟨rfl, rfl⟩, rfl⟩ := hv
    have hl : (m.take T).length = T := by rw [List.length_take]; omega
    refine ⟨fun x hx => h1 x (List.take_subset _ _ hx), by omega, .inr ⟨b, o, p, by rw [hl], by omega, fun i hi => ?_⟩⟩
    rw [hcell i (by omega)]
    rw [hl] at hi
    simp [List.getD, hi]

theorem bts_lit (w : World) (M : Int) (v : Value) (ys : List Ob) (T : TypeId) (g : Nat) (hg : g = w.heap.size) (h : Os w v ys) : Bts (w.alloc (.cells #[.int .i64 M, v] T)) (.slice (some ⟨g, 0, none⟩) 1 1) [(M, ys)] := by
  subst hg
  refine .inr ⟨w.heap.size, 0, 1, rfl, fun i hi => ?_⟩
  obtain rfl : i = 0 := by simp at hi; omega
  exact ⟨by simp, v, by simp, h.alloc _⟩
theorem bparse_len {xs : List Int} (hx : ∀ x ∈ xs, 0 ≤ x ∧ x < 256) (k : Int) : (bparseS xs k).ys.length ≤ 255 := by
  unfold bparseS bparseF
  have h := num1_bd hx (numS xs 2 (k, 0)).2
  split
  · split
    · show (readsO _ _ _).1.length ≤ 255
      rw [readsO_len]; omega
    · exact Nat.zero_le _
  · exact Nat.zero_le _
theorem btBs_le (N : Int) (ys : List Ob) : (btBs N ys).length ≤ 512 := by
  unfold btBs
  split
  · rename_i h
    have hl : (btB N ys).length = 3 + osz ys := by unfold btB; rw [List.length_append, bs_flat_len]; rfl
    have := h.2.2.2
    omega
  · simp
end Go.Proofs.Ytfdjaodnmjkpcaa.batchBack

namespace Go.Proofs.Ytfdjaodnmjkpcaa.batchBack
open Go.ChangeShapes Go.WideShapes Go.ChangeAt Go.RowKit
open Go.ChangeMaps (open_string shut_string)
set_option linter.unusedVariables false
set_option maxRecDepth 100000
open Go.Sort


set_option maxHeartbeats 16000000 in
theorem case_eo (b0 : Int) (a0 : Option Addr) (cap0 : Nat) (z0 : List Ob) (f m : List Int) (c1 : Option Addr) (c2 : Option Addr) (u1 u2 : Nat) (w : World) (w0 : Os w (.slice a0 z0.length cap0) z0) (b1 : Bs w (.slice c1 f.length u1) f) (b2 : Bs w (.slice c2 m.length u2) m) (s0 : (z0.length : Int) ≤ 60) (s1 : (f.length : Int) ≤ 200) (s2 : (m.length : Int) ≤ 600)
    (PM : Int) (PY : List Ob) (T E : Int) (hp : bparseS m 0 = ⟨PM, PY, T, E⟩) (hpl : PY.length ≤ 255) (hE : E ≠ 0) (B : List Int) (hbs : btBs b0 z0 = B) (hlB : B.length ≤ 512) (hck : btc b0 z0 = 0) (hpf : bparseS (f ++ (B ++ m)) f.length = ⟨b0, z0, (f.length : Int) + (B.length : Int), 0⟩) :
    Calls Try.prog 5 #[.agg #[.int .i64 b0, .slice a0 z0.length cap0], .slice c1 f.length u1, .slice c2 m.length u2] w fun e w' => e = .returned (.bool true) ∧ Below w.heap.size w w' := by
  have hE0 : (E == 0) = false := by simpa using hE
  have HE := Lib.hid hE
  clear hE
  have RF := Lib.hid (Bs_alloc b1 (.cells #[.int .i64 b0, .slice a0 z0.length cap0] 24))
  have RM := Lib.hid (Bs_alloc b2 (.cells #[.int .i64 b0, .slice a0 z0.length cap0] 24))
  have OZ := Lib.hid (w0.alloc (.cells #[.int .i64 b0, .slice a0 z0.length cap0] 24))
  have KA := Lib.hid (own2_alloc w b0 (.slice a0 z0.length cap0) 24 w.heap.size rfl)
  have HB : Hid (Below w.heap.size w (w.alloc (.cells #[.int .i64 b0, .slice a0 z0.length cap0] 24))) := (Below.refl _ w).alloc (Nat.le_refl _) _
  have hz60 : ¬ (60 : Int) < (z0.length : Int) := by omega
  have hf200 : ¬ (200 : Int) < (f.length : Int) := by omega
  have hm600 : ¬ (600 : Int) < (m.length : Int) := by omega
  clear b1 b2 w0
  go_enter Try.func5, Try.ntmps5
  go_wp2_with fail
  obtain ⟨V0, hV0⟩ : ∃ V0, w.alloc (.cells #[.int .i64 b0, .slice a0 z0.length cap0] 24) = V0 := ⟨_, rfl⟩
  rw [hV0] at RF RM OZ KA HB
  simp only [hV0]
  clear hV0
  obtain ⟨q0, q1⟩ := KA.out.1
  refine (bparse_any _ 0 m _ RM.out).mono ?_
  rw [hp]
  rintro e V1 ⟨r1, rfl, hr1, hb⟩
  obtain ⟨pa, pc, rfl⟩ := hr1.form
  have OP1 := Lib.hid hr1
  clear hr1
  clear q0 q1; replace KA := Lib.hid (KA.out.below hb); replace RF := Lib.hid (Bs_below RF.out hb); replace RM := Lib.hid (Bs_below RM.out hb); replace OZ := Lib.hid (OZ.out.below hb); replace HB := Lib.hid (HB.out.trans (hb.mono HB.out.size)); clear hb; obtain ⟨q0, q1⟩ := KA.out.1
  go_wp2_with fail
  have hb : Below V1.heap.size V1 (V1.alloc (.cells #[.int .i64 PM, .slice pa PY.length pc] 24)) := (Below.refl _ V1).alloc (Nat.le_refl _) _
  clear q0 q1; replace KA := Lib.hid (KA.out.below hb); replace RF := Lib.hid (Bs_below RF.out hb); replace RM := Lib.hid (Bs_below RM.out hb); replace OZ := Lib.hid (OZ.out.below hb); replace OP1 := Lib.hid (OP1.out.below hb); replace HB := Lib.hid (HB.out.trans (hb.mono HB.out.size)); clear hb; obtain ⟨q0, q1⟩ := KA.out.1
  obtain ⟨V1', hV1⟩ : ∃ V1', V1.alloc (.cells #[.int .i64 PM, .slice pa PY.length pc] 24) = V1' := ⟨_, rfl⟩
  rw [hV1] at KA RF RM OZ OP1 HB q0 q1
  simp only [hV1]
  clear hV1
  refine (pbytes_any PM _ PY _ OP1.out (by omega)).mono ?_
  rintro e V2 ⟨rv, rfl, hr, hb⟩
  skip
  obtain ⟨d1, d2, rfl⟩ := Bs_shape hr
  have RX := Lib.hid hr
  clear hr OP1
  clear q0 q1; replace KA := Lib.hid (KA.out.below hb); replace RF := Lib.hid (Bs_below RF.out hb); replace RM := Lib.hid (Bs_below RM.out hb); replace OZ := Lib.hid (OZ.out.below hb); replace HB := Lib.hid (HB.out.trans (hb.mono HB.out.size)); clear hb; obtain ⟨q0, q1⟩ := KA.out.1
  go_wp2_with fail
  refine wp_region_typed (C := fun w' => Below V2.heap.size V2 w') (X := fun w w' => Below w.heap.size w w') (n := 114) (by kernel_rfl) (by kernel_rfl) rfl (fun w => Below.refl _ w) (Below.refl _ _).drew ?_
  refine w_is (fun w => Below.refl _ w) _ (.inl rfl) (fun ρ w hC hc hfn hf => by have e9 : ρ (.tmp 9) = _ := hf 9 (by decide); (conv => lhs; simp [execOp, go_sem, hc, e9])) ?_
  refine w_is (fun w => Below.refl _ w) _ (.inl rfl) (fun ρ w hC hc hfn hf => by have e42 : ρ (.tmp 42) = _ := hf 42 (by decide); (conv => lhs; simp [execOp, go_sem, hc, e42, hE0])) ?_
  refine w_is (fun w => Below.refl _ w) _ (.inl rfl) (fun ρ w hC hc hfn hf => by have e43 : ρ (.tmp 43) = _ := hf 43 (by decide); (conv => lhs; simp [execOp, go_sem, hc, e43])) ?_
  refine w_skip rfl rfl (known_is rfl) ?_
  refine w_skip rfl rfl (known_is rfl) ?_
  refine w_skip rfl rfl (known_is rfl) ?_
  refine w_skip rfl rfl (known_is rfl) ?_
  refine w_skipU rfl rfl (known_is rfl) ?_
  refine w_skipU rfl rfl (known_is rfl) ?_
  refine w_skip rfl rfl (known_is rfl) ?_
  refine w_skip rfl rfl (known_is rfl) ?_
  refine w_skipU rfl rfl (known_is rfl) ?_
  refine w_skipU rfl rfl (known_is rfl) ?_
  refine w_skipU rfl rfl (known_is rfl) ?_
  refine w_skipU rfl rfl (known_is rfl) ?_
  refine w_skip rfl rfl (known_is rfl) ?_
  refine w_skip rfl rfl (known_is rfl) ?_
  refine w_skipU rfl rfl (known_is rfl) ?_
  refine w_skipU rfl rfl (known_is rfl) ?_
  refine w_skipU rfl rfl (known_is rfl) ?_
  refine w_skipU rfl rfl (known_is rfl) ?_
  refine w_skipU rfl rfl (known_is rfl) ?_
  refine w_skipU rfl rfl (known_is rfl) ?_
  refine w_skipU rfl rfl (known_is rfl) ?_
  refine w_skip rfl rfl (known_is rfl) ?_
  refine w_is (fun w => Below.refl _ w) _ (.inl rfl) (fun ρ w hC hc hfn hf => by have e44 : ρ (.tmp 44) = _ := hf 44 (by decide); have e66 : ρ (.tmp 66) = _ := hf 66 (by decide); (conv => lhs; simp [execOp, go_sem, hc, e44, e66])) ?_
  intro A V3 hC hn hd hf
  have y0 : A.eval (.tmp 0) = _ := Eq.trans (hf 0) (by conv => lhs; simp [go_sem])
  have y1 : A.eval (.tmp 1) = _ := Eq.trans (hf 1) (by conv => lhs; simp [go_sem])
  have y2 : A.eval (.tmp 2) = _ := Eq.trans (hf 2) (by conv => lhs; simp [go_sem])
  have y3 : A.eval (.tmp 3) = _ := Eq.trans (hf 3) (by conv => lhs; simp [go_sem])
  have y4 : A.eval (.tmp 4) = _ := Eq.trans (hf 4) (by conv => lhs; simp [go_sem])
  have y5 : A.eval (.tmp 5) = _ := Eq.trans (hf 5) (by conv => lhs; simp [go_sem])
  have y6 : A.eval (.tmp 6) = _ := Eq.trans (hf 6) (by conv => lhs; simp [go_sem])
  have y7 : A.eval (.tmp 7) = _ := Eq.trans (hf 7) (by conv => lhs; simp [go_sem])
  have y8 : A.eval (.tmp 8) = _ := Eq.trans (hf 8) (by conv => lhs; simp [go_sem])
  have y9 : A.eval (.tmp 9) = _ := Eq.trans (hf 9) (by conv => lhs; simp [go_sem])
  have y10 : A.eval (.tmp 10) = _ := Eq.trans (hf 10) (by conv => lhs; simp [go_sem])
  have y11 : A.eval (.tmp 11) = _ := Eq.trans (hf 11) (by conv => lhs; simp [go_sem])
  have y12 : A.eval (.tmp 12) = _ := Eq.trans (hf 12) (by conv => lhs; simp [go_sem])
  have y13 : A.eval (.tmp 13) = _ := Eq.trans (hf 13) (by conv => lhs; simp [go_sem])
  have y14 : A.eval (.tmp 14) = _ := Eq.trans (hf 14) (by conv => lhs; simp [go_sem])
  have y15 : A.eval (.tmp 15) = _ := Eq.trans (hf 15) (by conv => lhs; simp [go_sem])
  have y16 : A.eval (.tmp 16) = _ := Eq.trans (hf 16) (by conv => lhs; simp [go_sem])
  have y17 : A.eval (.tmp 17) = _ := Eq.trans (hf 17) (by conv => lhs; simp [go_sem])
  have y18 : A.eval (.tmp 18) = _ := Eq.trans (hf 18) (by conv => lhs; simp [go_sem])
  have y19 : A.eval (.tmp 19) = _ := Eq.trans (hf 19) (by conv => lhs; simp [go_sem])
  have y20 : A.eval (.tmp 20) = _ := Eq.trans (hf 20) (by conv => lhs; simp [go_sem])
  have y21 : A.eval (.tmp 21) = _ := Eq.trans (hf 21) (by conv => lhs; simp [go_sem])
  have y22 : A.eval (.tmp 22) = _ := Eq.trans (hf 22) (by conv => lhs; simp [go_sem])
  have y23 : A.eval (.tmp 23) = _ := Eq.trans (hf 23) (by conv => lhs; simp [go_sem])
  have y24 : A.eval (.tmp 24) = _ := Eq.trans (hf 24) (by conv => lhs; simp [go_sem])
  have y25 : A.eval (.tmp 25) = _ := Eq.trans (hf 25) (by conv => lhs; simp [go_sem])
  have y26 : A.eval (.tmp 26) = _ := Eq.trans (hf 26) (by conv => lhs; simp [go_sem])
  have y27 : A.eval (.tmp 27) = _ := Eq.trans (hf 27) (by conv => lhs; simp [go_sem])
  have y28 : A.eval (.tmp 28) = _ := Eq.trans (hf 28) (by conv => lhs; simp [go_sem])
  have y29 : A.eval (.tmp 29) = _ := Eq.trans (hf 29) (by conv => lhs; simp [go_sem])
  have y30 : A.eval (.tmp 30) = _ := Eq.trans (hf 30) (by conv => lhs; simp [go_sem])
  have y31 : A.eval (.tmp 31) = _ := Eq.trans (hf 31) (by conv => lhs; simp [go_sem])
  have y32 : A.eval (.tmp 32) = _ := Eq.trans (hf 32) (by conv => lhs; simp [go_sem])
  have y33 : A.eval (.tmp 33) = _ := Eq.trans (hf 33) (by conv => lhs; simp [go_sem])
  have y34 : A.eval (.tmp 34) = _ := Eq.trans (hf 34) (by conv => lhs; simp [go_sem])
  have y35 : A.eval (.tmp 35) = _ := Eq.trans (hf 35) (by conv => lhs; simp [go_sem])
  have y36 : A.eval (.tmp 36) = _ := Eq.trans (hf 36) (by conv => lhs; simp [go_sem])
  have y37 : A.eval (.tmp 37) = _ := Eq.trans (hf 37) (by conv => lhs; simp [go_sem])
  have y38 : A.eval (.tmp 38) = _ := Eq.trans (hf 38) (by conv => lhs; simp [go_sem])
  have y39 : A.eval (.tmp 39) = _ := Eq.trans (hf 39) (by conv => lhs; simp [go_sem])
  have y40 : A.eval (.tmp 40) = _ := Eq.trans (hf 40) (by conv => lhs; simp [go_sem])
  have y41 : A.eval (.tmp 41) = _ := Eq.trans (hf 41) (by conv => lhs; simp [go_sem])
  have y42 : A.eval (.tmp 42) = _ := hf 42
  have y43 : A.eval (.tmp 43) = _ := hf 43
  have y44 : A.eval (.tmp 44) = _ := hf 44
  have y45 : A.eval (.tmp 45) = _ := hf 45
  have y46 : A.eval (.tmp 46) = _ := hf 46
  have y47 : A.eval (.tmp 47) = _ := hf 47
  have y48 : A.eval (.tmp 48) = _ := hf 48
  have y49 : A.eval (.tmp 49) = _ := hf 49
  have y50 : A.eval (.tmp 50) = _ := hf 50
  have y51 : A.eval (.tmp 51) = _ := hf 51
  have y52 : A.eval (.tmp 52) = _ := hf 52
  have y53 : A.eval (.tmp 53) = _ := hf 53
  have y54 : A.eval (.tmp 54) = _ := hf 54
  have y55 : A.eval (.tmp 55) = _ := hf 55
  have y56 : A.eval (.tmp 56) = _ := hf 56
  have y57 : A.eval (.tmp 57) = _ := hf 57
  have y58 : A.eval (.tmp 58) = _ := hf 58
  have y59 : A.eval (.tmp 59) = _ := hf 59
  have y60 : A.eval (.tmp 60) = _ := hf 60
  have y61 : A.eval (.tmp 61) = _ := hf 61
  have y62 : A.eval (.tmp 62) = _ := hf 62
  have y63 : A.eval (.tmp 63) = _ := hf 63
  have y64 : A.eval (.tmp 64) = _ := hf 64
  have y65 : A.eval (.tmp 65) = _ := hf 65
  have y66 : A.eval (.tmp 66) = _ := hf 66
  have y67 : A.eval (.tmp 67) = _ := hf 67
  have y68 : A.eval (.tmp 68) = _ := Eq.trans (hf 68) (by conv => lhs; simp [go_sem])
  have y69 : A.eval (.tmp 69) = _ := Eq.trans (hf 69) (by conv => lhs; simp [go_sem])
  have y70 : A.eval (.tmp 70) = _ := Eq.trans (hf 70) (by conv => lhs; simp [go_sem])
  have y71 : A.eval (.tmp 71) = _ := Eq.trans (hf 71) (by conv => lhs; simp [go_sem])
  have y72 : A.eval (.tmp 72) = _ := Eq.trans (hf 72) (by conv => lhs; simp [go_sem])
  have y73 : A.eval (.tmp 73) = _ := Eq.trans (hf 73) (by conv => lhs; simp [go_sem])
  have y74 : A.eval (.tmp 74) = _ := Eq.trans (hf 74) (by conv => lhs; simp [go_sem])
  have y75 : A.eval (.tmp 75) = _ := Eq.trans (hf 75) (by conv => lhs; simp [go_sem])
  have y76 : A.eval (.tmp 76) = _ := Eq.trans (hf 76) (by conv => lhs; simp [go_sem])
  have y77 : A.eval (.tmp 77) = _ := Eq.trans (hf 77) (by conv => lhs; simp [go_sem])
  have y78 : A.eval (.tmp 78) = _ := Eq.trans (hf 78) (by conv => lhs; simp [go_sem])
  have y79 : A.eval (.tmp 79) = _ := Eq.trans (hf 79) (by conv => lhs; simp [go_sem])
  have y80 : A.eval (.tmp 80) = _ := Eq.trans (hf 80) (by conv => lhs; simp [go_sem])
  have y81 : A.eval (.tmp 81) = _ := Eq.trans (hf 81) (by conv => lhs; simp [go_sem])
  have y82 : A.eval (.tmp 82) = _ := Eq.trans (hf 82) (by conv => lhs; simp [go_sem])
  have y83 : A.eval (.tmp 83) = _ := Eq.trans (hf 83) (by conv => lhs; simp [go_sem])
  have y84 : A.eval (.tmp 84) = _ := Eq.trans (hf 84) (by conv => lhs; simp [go_sem])
  have y85 : A.eval (.tmp 85) = _ := Eq.trans (hf 85) (by conv => lhs; simp [go_sem])
  have y86 : A.eval (.tmp 86) = _ := Eq.trans (hf 86) (by conv => lhs; simp [go_sem])
  have y87 : A.eval (.tmp 87) = _ := Eq.trans (hf 87) (by conv => lhs; simp [go_sem])
  have y88 : A.eval (.tmp 88) = _ := Eq.trans (hf 88) (by conv => lhs; simp [go_sem])
  have y89 : A.eval (.tmp 89) = _ := Eq.trans (hf 89) (by conv => lhs; simp [go_sem])
  have y90 : A.eval (.tmp 90) = _ := Eq.trans (hf 90) (by conv => lhs; simp [go_sem])
  have y91 : A.eval (.tmp 91) = _ := Eq.trans (hf 91) (by conv => lhs; simp [go_sem])
  have y92 : A.eval (.tmp 92) = _ := Eq.trans (hf 92) (by conv => lhs; simp [go_sem])
  have y93 : A.eval (.tmp 93) = _ := Eq.trans (hf 93) (by conv => lhs; simp [go_sem])
  have y94 : A.eval (.tmp 94) = _ := Eq.trans (hf 94) (by conv => lhs; simp [go_sem])
  have y95 : A.eval (.tmp 95) = _ := Eq.trans (hf 95) (by conv => lhs; simp [go_sem])
  have y96 : A.eval (.tmp 96) = _ := Eq.trans (hf 96) (by conv => lhs; simp [go_sem])
  have y97 : A.eval (.tmp 97) = _ := Eq.trans (hf 97) (by conv => lhs; simp [go_sem])
  have y98 : A.eval (.tmp 98) = _ := Eq.trans (hf 98) (by conv => lhs; simp [go_sem])
  have y99 : A.eval (.tmp 99) = _ := Eq.trans (hf 99) (by conv => lhs; simp [go_sem])
  have y100 : A.eval (.tmp 100) = _ := Eq.trans (hf 100) (by conv => lhs; simp [go_sem])
  have y101 : A.eval (.tmp 101) = _ := Eq.trans (hf 101) (by conv => lhs; simp [go_sem])
  have y102 : A.eval (.tmp 102) = _ := Eq.trans (hf 102) (by conv => lhs; simp [go_sem])
  have y103 : A.eval (.tmp 103) = _ := Eq.trans (hf 103) (by conv => lhs; simp [go_sem])
  have y104 : A.eval (.tmp 104) = _ := Eq.trans (hf 104) (by conv => lhs; simp [go_sem])
  have y105 : A.eval (.tmp 105) = _ := Eq.trans (hf 105) (by conv => lhs; simp [go_sem])
  have y106 : A.eval (.tmp 106) = _ := Eq.trans (hf 106) (by conv => lhs; simp [go_sem])
  have y107 : A.eval (.tmp 107) = _ := Eq.trans (hf 107) (by conv => lhs; simp [go_sem])
  have y108 : A.eval (.tmp 108) = _ := Eq.trans (hf 108) (by conv => lhs; simp [go_sem])
  have y109 : A.eval (.tmp 109) = _ := Eq.trans (hf 109) (by conv => lhs; simp [go_sem])
  have y110 : A.eval (.tmp 110) = _ := Eq.trans (hf 110) (by conv => lhs; simp [go_sem])
  have y111 : A.eval (.tmp 111) = _ := Eq.trans (hf 111) (by conv => lhs; simp [go_sem])
  have y112 : A.eval (.tmp 112) = _ := Eq.trans (hf 112) (by conv => lhs; simp [go_sem])
  have y113 : A.eval (.tmp 113) = _ := Eq.trans (hf 113) (by conv => lhs; simp [go_sem])
  clear hf
  have hA := frame_eq hn
  rw [show List.range 114 = [0, 1, 2, 3, 4, 5, 6, 7, 8, 9, 10, 11, 12, 13, 14, 15, 16, 17, 18, 19, 20, 21, 22, 23, 24, 25, 26, 27, 28, 29, 30, 31, 32, 33, 34, 35, 36, 37, 38, 39, 40, 41, 42, 43, 44, 45, 46, 47, 48, 49, 50, 51, 52, 53, 54, 55, 56, 57, 58, 59, 60, 61, 62, 63, 64, 65, 66, 67, 68, 69, 70, 71, 72, 73, 74, 75, 76, 77, 78, 79, 80, 81, 82, 83, 84, 85, 86, 87, 88, 89, 90, 91, 92, 93, 94, 95, 96, 97, 98, 99, 100, 101, 102, 103, 104, 105, 106, 107, 108, 109, 110, 111, 112, 113] from rfl, hd] at hA
  simp only [List.map_cons, List.map_nil, y0, y1, y2, y3, y4, y5, y6, y7, y8, y9, y10, y11, y12, y13, y14, y15, y16, y17, y18, y19, y20, y21, y22, y23, y24, y25, y26, y27, y28, y29, y30, y31, y32, y33, y34, y35, y36, y37, y38, y39, y40, y41, y42, y43, y44, y45, y46, y47, y48, y49, y50, y51, y52, y53, y54, y55, y56, y57, y58, y59, y60, y61, y62, y63, y64, y65, y66, y67, y68, y69, y70, y71, y72, y73, y74, y75, y76, y77, y78, y79, y80, y81, y82, y83, y84, y85, y86, y87, y88, y89, y90, y91, y92, y93, y94, y95, y96, y97, y98, y99, y100, y101, y102, y103, y104, y105, y106, y107, y108, y109, y110, y111, y112, y113] at hA
  clear y0 y1 y2 y3 y4 y5 y6 y7 y8 y9 y10 y11 y12 y13 y14 y15 y16 y17 y18 y19 y20 y21 y22 y23 y24 y25 y26 y27 y28 y29 y30 y31 y32 y33 y34 y35 y36 y37 y38 y39 y40 y41 y42 y43 y44 y45 y46 y47 y48 y49 y50 y51 y52 y53 y54 y55 y56 y57 y58 y59 y60 y61 y62 y63 y64 y65 y66 y67 y68 y69 y70 y71 y72 y73 y74 y75 y76 y77 y78 y79 y80 y81 y82 y83 y84 y85 y86 y87 y88 y89 y90 y91 y92 y93 y94 y95 y96 y97 y98 y99 y100 y101 y102 y103 y104 y105 y106 y107 y108 y109 y110 y111 y112 y113
  clear hn hd
  subst hA
  clear q0 q1; replace KA := Lib.hid (KA.out.below hC); replace RF := Lib.hid (Bs_below RF.out hC); replace RM := Lib.hid (Bs_below RM.out hC); replace OZ := Lib.hid (OZ.out.below hC); replace HB := Lib.hid (HB.out.trans (hC.mono HB.out.size)); clear hC; obtain ⟨q0, q1⟩ := KA.out.1
  go_wp2_with fail
  refine (pbytes_any b0 _ z0 _ OZ.out (by omega)).mono ?_
  rintro e V4 ⟨r4, rfl, hr, hb⟩
  rw [hck]
  rw [hbs] at hr
  obtain ⟨c4, p4, rfl⟩ := Bs_shape hr
  have RY := Lib.hid hr
  clear hr
  clear q0 q1; replace KA := Lib.hid (KA.out.below hb); replace RF := Lib.hid (Bs_below RF.out hb); replace RM := Lib.hid (Bs_below RM.out hb); replace OZ := Lib.hid (OZ.out.below hb); replace HB := Lib.hid (HB.out.trans (hb.mono HB.out.size)); clear hb; obtain ⟨q0, q1⟩ := KA.out.1
  go_wp2_with fail
  refine (both3_big RF.out RY.out RM.out _ (by omega)).mono ?_
  rintro e V5 ⟨r5, rfl, ho, hx, hb⟩
  have RZ := Lib.hid (Bs_of_own ho hx (by simp only [List.length_append]; omega))
  clear ho hx
  replace hb := (((Below.refl _ _).alloc (Nat.le_refl _) _) : Below V4.heap.size V4 (V4.alloc _)).trans (hb.mono (by simp))
  clear q0 q1; replace KA := Lib.hid (KA.out.below hb); replace RF := Lib.hid (Bs_below RF.out hb); replace RM := Lib.hid (Bs_below RM.out hb); replace RY := Lib.hid (Bs_below RY.out hb); replace OZ := Lib.hid (OZ.out.below hb); replace HB := Lib.hid (HB.out.trans (hb.mono HB.out.size)); clear hb; obtain ⟨q0, q1⟩ := KA.out.1
  go_wp2_with fail
  refine (bparse_any _ f.length (f ++ (B ++ m)) _ RZ.out).mono ?_
  rw [hpf]
  rintro e V6 ⟨r6, rfl, hr6, hb⟩
  obtain ⟨c6, p6, rfl⟩ := hr6.form
  have OY := Lib.hid hr6
  clear hr6
  clear q0 q1; replace KA := Lib.hid (KA.out.below hb); replace RF := Lib.hid (Bs_below RF.out hb); replace RM := Lib.hid (Bs_below RM.out hb); replace RY := Lib.hid (Bs_below RY.out hb); replace OZ := Lib.hid (OZ.out.below hb); replace HB := Lib.hid (HB.out.trans (hb.mono HB.out.size)); clear hb; obtain ⟨q0, q1⟩ := KA.out.1
  go_wp2_with fail
  have KW := Lib.hid (own2_alloc V6 b0 (.slice c6 z0.length p6) 24 V6.heap.size rfl)
  have hb : Below V6.heap.size V6 (V6.alloc (.cells #[.int .i64 b0, .slice c6 z0.length p6] 24)) := (Below.refl _ V6).alloc (Nat.le_refl _) _
  clear q0 q1; replace KA := Lib.hid (KA.out.below hb); replace RF := Lib.hid (Bs_below RF.out hb); replace RM := Lib.hid (Bs_below RM.out hb); replace RY := Lib.hid (Bs_below RY.out hb); replace OZ := Lib.hid (OZ.out.below hb); replace OY := Lib.hid (OY.out.below hb); replace HB := Lib.hid (HB.out.trans (hb.mono HB.out.size)); clear hb; obtain ⟨q0, q1⟩ := KA.out.1
  obtain ⟨V6', hV6⟩ : ∃ V6', V6.alloc (.cells #[.int .i64 b0, .slice c6 z0.length p6] 24) = V6' := ⟨_, rfl⟩
  rw [hV6] at KA RF RM OZ RY OY HB KW q0 q1
  simp only [hV6]
  clear hV6
  refine (bawake_any _).mono ?_
  rintro e V7 ⟨rfl, hb⟩
  clear q0 q1; replace KA := Lib.hid (KA.out.below hb); replace RF := Lib.hid (Bs_below RF.out hb); replace RM := Lib.hid (Bs_below RM.out hb); replace RY := Lib.hid (Bs_below RY.out hb); replace OZ := Lib.hid (OZ.out.below hb); replace OY := Lib.hid (OY.out.below hb); replace KW := Lib.hid (KW.out.below hb); replace HB := Lib.hid (HB.out.trans (hb.mono HB.out.size)); clear hb; obtain ⟨q0, q1⟩ := KA.out.1
  obtain ⟨w0_, w1_⟩ := KW.out.1
  have hal0 : ∀ O, (V7.alloc O).cell? ⟨w.heap.size, 0, none⟩ = some (.int .i64 b0) := fun O => (KA.out.below ((Below.refl _ _).alloc (Nat.le_refl _) O)).1.1
  have hal1 := KA.out.allocs
  have BL1 : Hid (Bts ((V7.alloc (.cells #[.int .i64 b0, .slice c6 z0.length p6] 24)).alloc (.cells #[.int .i64 b0, .slice a0 z0.length cap0] 24)) (.slice (some ⟨V7.heap.size, 0, none⟩) 1 1) [(b0, z0)]) := (bts_lit V7 b0 _ z0 24 _ rfl OY.out).below ((Below.refl _ _).alloc (Nat.le_refl _) _)
  have BL2 : Hid (Bts ((V7.alloc (.cells #[.int .i64 b0, .slice c6 z0.length p6] 24)).alloc (.cells #[.int .i64 b0, .slice a0 z0.length cap0] 24)) (.slice (some ⟨V7.heap.size + 1, 0, none⟩) 1 1) [(b0, z0)]) := bts_lit (V7.alloc (.cells #[.int .i64 b0, .slice c6 z0.length p6] 24)) b0 _ z0 24 _ (by simp) (OZ.out.alloc _)
  have HB8 : Hid (Below w.heap.size w ((V7.alloc (.cells #[.int .i64 b0, .slice c6 z0.length p6] 24)).alloc (.cells #[.int .i64 b0, .slice a0 z0.length cap0] 24))) := (HB.out.alloc HB.out.size _).alloc (by have := HB.out.size; simp; omega) _
  go_wp2_with fail
  refine (bsame_true _ _ [(b0, z0)] _ BL1.out BL2.out (by simp) (fun i hi => by obtain rfl : i = 0 := (by simp at hi; omega); show z0.length ≤ 3000; omega)).mono ?_
  rintro e V8 ⟨rfl, hb⟩
  replace HB8 := Lib.hid (HB8.out.trans (hb.mono HB8.out.size))
  clear hb
  go_wp2_with fail
  go_ret
  exact ⟨rfl, HB8.out⟩
end Go.Proofs.Ytfdjaodnmjkpcaa.batchBack

namespace Go.Proofs.Ytfdjaodnmjkpcaa.batchBack
open Go.ChangeShapes Go.WideShapes Go.ChangeAt Go.RowKit
open Go.ChangeMaps (open_string shut_string)
set_option linter.unusedVariables false
set_option maxRecDepth 100000
open Go.Sort


set_option maxHeartbeats 16000000 in
theorem case_en (b0 : Int) (a0 : Option Addr) (cap0 : Nat) (z0 : List Ob) (f m : List Int) (c1 : Option Addr) (c2 : Option Addr) (u1 u2 : Nat) (w : World) (w0 : Os w (.slice a0 z0.length cap0) z0) (b1 : Bs w (.slice c1 f.length u1) f) (b2 : Bs w (.slice c2 m.length u2) m) (s0 : (z0.length : Int) ≤ 60) (s1 : (f.length : Int) ≤ 200) (s2 : (m.length : Int) ≤ 600)
    (PM : Int) (PY : List Ob) (T E : Int) (hp : bparseS m 0 = ⟨PM, PY, T, E⟩) (hpl : PY.length ≤ 255) (hE : E ≠ 0) (B : List Int) (hbs : btBs b0 z0 = B) (hlB : B.length ≤ 512) (hck : btc b0 z0 = 1) (hB0 : B = []) (G0 : Int) (GY : List Ob) (g1 g2 : Int) (hpf : bparseS (f ++ (B ++ m)) f.length = ⟨G0, GY, g1, g2⟩) :
    Calls Try.prog 5 #[.agg #[.int .i64 b0, .slice a0 z0.length cap0], .slice c1 f.length u1, .slice c2 m.length u2] w fun e w' => e = .returned (.bool true) ∧ Below w.heap.size w w' := by
  have HB0 : Hid (B.length = 0) := by rw [hB0]; exact (rfl : (0 : Nat) = 0)
  clear hB0
  have hE0 : (E == 0) = false := by simpa using hE
  have HE := Lib.hid hE
  clear hE
  have RF := Lib.hid (Bs_alloc b1 (.cells #[.int .i64 b0, .slice a0 z0.length cap0] 24))
  have RM := Lib.hid (Bs_alloc b2 (.cells #[.int .i64 b0, .slice a0 z0.length cap0] 24))
  have OZ := Lib.hid (w0.alloc (.cells #[.int .i64 b0, .slice a0 z0.length cap0] 24))
  have KA := Lib.hid (own2_alloc w b0 (.slice a0 z0.length cap0) 24 w.heap.size rfl)
  have HB : Hid (Below w.heap.size w (w.alloc (.cells #[.int .i64 b0, .slice a0 z0.length cap0] 24))) := (Below.refl _ w).alloc (Nat.le_refl _) _
  have hz60 : ¬ (60 : Int) < (z0.length : Int) := by omega
  have hf200 : ¬ (200 : Int) < (f.length : Int) := by omega
  have hm600 : ¬ (600 : Int) < (m.length : Int) := by omega
  clear b1 b2 w0
  go_enter Try.func5, Try.ntmps5
  go_wp2_with fail
  obtain ⟨V0, hV0⟩ : ∃ V0, w.alloc (.cells #[.int .i64 b0, .slice a0 z0.length cap0] 24) = V0 := ⟨_, rfl⟩
  rw [hV0] at RF RM OZ KA HB
  simp only [hV0]
  clear hV0
  obtain ⟨q0, q1⟩ := KA.out.1
  refine (bparse_any _ 0 m _ RM.out).mono ?_
  rw [hp]
  rintro e V1 ⟨r1, rfl, hr1, hb⟩
  obtain ⟨pa, pc, rfl⟩ := hr1.form
  have OP1 := Lib.hid hr1
  clear hr1
  clear q0 q1; replace KA := Lib.hid (KA.out.below hb); replace RF := Lib.hid (Bs_below RF.out hb); replace RM := Lib.hid (Bs_below RM.out hb); replace OZ := Lib.hid (OZ.out.below hb); replace HB := Lib.hid (HB.out.trans (hb.mono HB.out.size)); clear hb; obtain ⟨q0, q1⟩ := KA.out.1
  go_wp2_with fail
  have hb : Below V1.heap.size V1 (V1.alloc (.cells #[.int .i64 PM, .slice pa PY.length pc] 24)) := (Below.refl _ V1).alloc (Nat.le_refl _) _
  clear q0 q1; replace KA := Lib.hid (KA.out.below hb); replace RF := Lib.hid (Bs_below RF.out hb); replace RM := Lib.hid (Bs_below RM.out hb); replace OZ := Lib.hid (OZ.out.below hb); replace OP1 := Lib.hid (OP1.out.below hb); replace HB := Lib.hid (HB.out.trans (hb.mono HB.out.size)); clear hb; obtain ⟨q0, q1⟩ := KA.out.1
  obtain ⟨V1', hV1⟩ : ∃ V1', V1.alloc (.cells #[.int .i64 PM, .slice pa PY.length pc] 24) = V1' := ⟨_, rfl⟩
  rw [hV1] at KA RF RM OZ OP1 HB q0 q1
  simp only [hV1]
  clear hV1
  refine (pbytes_any PM _ PY _ OP1.out (by omega)).mono ?_
  rintro e V2 ⟨rv, rfl, hr, hb⟩
  skip
  obtain ⟨d1, d2, rfl⟩ := Bs_shape hr
  have RX := Lib.hid hr
  clear hr OP1
  clear q0 q1; replace KA := Lib.hid (KA.out.below hb); replace RF := Lib.hid (Bs_below RF.out hb); replace RM := Lib.hid (Bs_below RM.out hb); replace OZ := Lib.hid (OZ.out.below hb); replace HB := Lib.hid (HB.out.trans (hb.mono HB.out.size)); clear hb; obtain ⟨q0, q1⟩ := KA.out.1
  go_wp2_with fail
  refine wp_region_typed (C := fun w' => Below V2.heap.size V2 w') (X := fun w w' => Below w.heap.size w w') (n := 114) (by kernel_rfl) (by kernel_rfl) rfl (fun w => Below.refl _ w) (Below.refl _ _).drew ?_
  refine w_is (fun w => Below.refl _ w) _ (.inl rfl) (fun ρ w hC hc hfn hf => by have e9 : ρ (.tmp 9) = _ := hf 9 (by decide); (conv => lhs; simp [execOp, go_sem, hc, e9])) ?_
  refine w_is (fun w => Below.refl _ w) _ (.inl rfl) (fun ρ w hC hc hfn hf => by have e42 : ρ (.tmp 42) = _ := hf 42 (by decide); (conv => lhs; simp [execOp, go_sem, hc, e42, hE0])) ?_
  refine w_is (fun w => Below.refl _ w) _ (.inl rfl) (fun ρ w hC hc hfn hf => by have e43 : ρ (.tmp 43) = _ := hf 43 (by decide); (conv => lhs; simp [execOp, go_sem, hc, e43])) ?_
  refine w_skip rfl rfl (known_is rfl) ?_
  refine w_skip rfl rfl (known_is rfl) ?_
  refine w_skip rfl rfl (known_is rfl) ?_
  refine w_skip rfl rfl (known_is rfl) ?_
  refine w_skipU rfl rfl (known_is rfl) ?_
  refine w_skipU rfl rfl (known_is rfl) ?_
  refine w_skip rfl rfl (known_is rfl) ?_
  refine w_skip rfl rfl (known_is rfl) ?_
  refine w_skipU rfl rfl (known_is rfl) ?_
  refine w_skipU rfl rfl (known_is rfl) ?_
  refine w_skipU rfl rfl (known_is rfl) ?_
  refine w_skipU rfl rfl (known_is rfl) ?_
  refine w_skip rfl rfl (known_is rfl) ?_
  refine w_skip rfl rfl (known_is rfl) ?_
  refine w_skipU rfl rfl (known_is rfl) ?_
  refine w_skipU rfl rfl (known_is rfl) ?_
  refine w_skipU rfl rfl (known_is rfl) ?_
  refine w_skipU rfl rfl (known_is rfl) ?_
  refine w_skipU rfl rfl (known_is rfl) ?_
  refine w_skipU rfl rfl (known_is rfl) ?_
  refine w_skipU rfl rfl (known_is rfl) ?_
  refine w_skip rfl rfl (known_is rfl) ?_
  refine w_is (fun w => Below.refl _ w) _ (.inl rfl) (fun ρ w hC hc hfn hf => by have e44 : ρ (.tmp 44) = _ := hf 44 (by decide); have e66 : ρ (.tmp 66) = _ := hf 66 (by decide); (conv => lhs; simp [execOp, go_sem, hc, e44, e66])) ?_
  intro A V3 hC hn hd hf
  have y0 : A.eval (.tmp 0) = _ := Eq.trans (hf 0) (by conv => lhs; simp [go_sem])
  have y1 : A.eval (.tmp 1) = _ := Eq.trans (hf 1) (by conv => lhs; simp [go_sem])
  have y2 : A.eval (.tmp 2) = _ := Eq.trans (hf 2) (by conv => lhs; simp [go_sem])
  have y3 : A.eval (.tmp 3) = _ := Eq.trans (hf 3) (by conv => lhs; simp [go_sem])
  have y4 : A.eval (.tmp 4) = _ := Eq.trans (hf 4) (by conv => lhs; simp [go_sem])
  have y5 : A.eval (.tmp 5) = _ := Eq.trans (hf 5) (by conv => lhs; simp [go_sem])
  have y6 : A.eval (.tmp 6) = _ := Eq.trans (hf 6) (by conv => lhs; simp [go_sem])
  have y7 : A.eval (.tmp 7) = _ := Eq.trans (hf 7) (by conv => lhs; simp [go_sem])
  have y8 : A.eval (.tmp 8) = _ := Eq.trans (hf 8) (by conv => lhs; simp [go_sem])
  have y9 : A.eval (.tmp 9) = _ := Eq.trans (hf 9) (by conv => lhs; simp [go_sem])
  have y10 : A.eval (.tmp 10) = _ := Eq.trans (hf 10) (by conv => lhs; simp [go_sem])
  have y11 : A.eval (.tmp 11) = _ := Eq.trans (hf 11) (by conv => lhs; simp [go_sem])
  have y12 : A.eval (.tmp 12) = _ := Eq.trans (hf 12) (by conv => lhs; simp [go_sem])
  have y13 : A.eval (.tmp 13) = _ := Eq.trans (hf 13) (by conv => lhs; simp [go_sem])
  have y14 : A.eval (.tmp 14) = _ := Eq.trans (hf 14) (by conv => lhs; simp [go_sem])
  have y15 : A.eval (.tmp 15) = _ := Eq.trans (hf 15) (by conv => lhs; simp [go_sem])
  have y16 : A.eval (.tmp 16) = _ := Eq.trans (hf 16) (by conv => lhs; simp [go_sem])
  have y17 : A.eval (.tmp 17) = _ := Eq.trans (hf 17) (by conv => lhs; simp [go_sem])
  have y18 : A.eval (.tmp 18) = _ := Eq.trans (hf 18) (by conv => lhs; simp [go_sem])
  have y19 : A.eval (.tmp 19) = _ := Eq.trans (hf 19) (by conv => lhs; simp [go_sem])
  have y20 : A.eval (.tmp 20) = _ := Eq.trans (hf 20) (by conv => lhs; simp [go_sem])
  have y21 : A.eval (.tmp 21) = _ := Eq.trans (hf 21) (by conv => lhs; simp [go_sem])
  have y22 : A.eval (.tmp 22) = _ := Eq.trans (hf 22) (by conv => lhs; simp [go_sem])
  have y23 : A.eval (.tmp 23) = _ := Eq.trans (hf 23) (by conv => lhs; simp [go_sem])
  have y24 : A.eval (.tmp 24) = _ := Eq.trans (hf 24) (by conv => lhs; simp [go_sem])
  have y25 : A.eval (.tmp 25) = _ := Eq.trans (hf 25) (by conv => lhs; simp [go_sem])
  have y26 : A.eval (.tmp 26) = _ := Eq.trans (hf 26) (by conv => lhs; simp [go_sem])
  have y27 : A.eval (.tmp 27) = _ := Eq.trans (hf 27) (by conv => lhs; simp [go_sem])
  have y28 : A.eval (.tmp 28) = _ := Eq.trans (hf 28) (by conv => lhs; simp [go_sem])
  have y29 : A.eval (.tmp 29) = _ := Eq.trans (hf 29) (by conv => lhs; simp [go_sem])
  have y30 : A.eval (.tmp 30) = _ := Eq.trans (hf 30) (by conv => lhs; simp [go_sem])
  have y31 : A.eval (.tmp 31) = _ := Eq.trans (hf 31) (by conv => lhs; simp [go_sem])
  have y32 : A.eval (.tmp 32) = _ := Eq.trans (hf 32) (by conv => lhs; simp [go_sem])
  have y33 : A.eval (.tmp 33) = _ := Eq.trans (hf 33) (by conv => lhs; simp [go_sem])
  have y34 : A.eval (.tmp 34) = _ := Eq.trans (hf 34) (by conv => lhs; simp [go_sem])
  have y35 : A.eval (.tmp 35) = _ := Eq.trans (hf 35) (by conv => lhs; simp [go_sem])
  have y36 : A.eval (.tmp 36) = _ := Eq.trans (hf 36) (by conv => lhs; simp [go_sem])
  have y37 : A.eval (.tmp 37) = _ := Eq.trans (hf 37) (by conv => lhs; simp [go_sem])
  have y38 : A.eval (.tmp 38) = _ := Eq.trans (hf 38) (by conv => lhs; simp [go_sem])
  have y39 : A.eval (.tmp 39) = _ := Eq.trans (hf 39) (by conv => lhs; simp [go_sem])
  have y40 : A.eval (.tmp 40) = _ := Eq.trans (hf 40) (by conv => lhs; simp [go_sem])
  have y41 : A.eval (.tmp 41) = _ := Eq.trans (hf 41) (by conv => lhs; simp [go_sem])
  have y42 : A.eval (.tmp 42) = _ := hf 42
  have y43 : A.eval (.tmp 43) = _ := hf 43
  have y44 : A.eval (.tmp 44) = _ := hf 44
  have y45 : A.eval (.tmp 45) = _ := hf 45
  have y46 : A.eval (.tmp 46) = _ := hf 46
  have y47 : A.eval (.tmp 47) = _ := hf 47
  have y48 : A.eval (.tmp 48) = _ := hf 48
  have y49 : A.eval (.tmp 49) = _ := hf 49
  have y50 : A.eval (.tmp 50) = _ := hf 50
  have y51 : A.eval (.tmp 51) = _ := hf 51
  have y52 : A.eval (.tmp 52) = _ := hf 52
  have y53 : A.eval (.tmp 53) = _ := hf 53
  have y54 : A.eval (.tmp 54) = _ := hf 54
  have y55 : A.eval (.tmp 55) = _ := hf 55
  have y56 : A.eval (.tmp 56) = _ := hf 56
  have y57 : A.eval (.tmp 57) = _ := hf 57
  have y58 : A.eval (.tmp 58) = _ := hf 58
  have y59 : A.eval (.tmp 59) = _ := hf 59
  have y60 : A.eval (.tmp 60) = _ := hf 60
  have y61 : A.eval (.tmp 61) = _ := hf 61
  have y62 : A.eval (.tmp 62) = _ := hf 62
  have y63 : A.eval (.tmp 63) = _ := hf 63
  have y64 : A.eval (.tmp 64) = _ := hf 64
  have y65 : A.eval (.tmp 65) = _ := hf 65
  have y66 : A.eval (.tmp 66) = _ := hf 66
  have y67 : A.eval (.tmp 67) = _ := hf 67
  have y68 : A.eval (.tmp 68) = _ := Eq.trans (hf 68) (by conv => lhs; simp [go_sem])
  have y69 : A.eval (.tmp 69) = _ := Eq.trans (hf 69) (by conv => lhs; simp [go_sem])
  have y70 : A.eval (.tmp 70) = _ := Eq.trans (hf 70) (by conv => lhs; simp [go_sem])
  have y71 : A.eval (.tmp 71) = _ := Eq.trans (hf 71) (by conv => lhs; simp [go_sem])
  have y72 : A.eval (.tmp 72) = _ := Eq.trans (hf 72) (by conv => lhs; simp [go_sem])
  have y73 : A.eval (.tmp 73) = _ := Eq.trans (hf 73) (by conv => lhs; simp [go_sem])
  have y74 : A.eval (.tmp 74) = _ := Eq.trans (hf 74) (by conv => lhs; simp [go_sem])
  have y75 : A.eval (.tmp 75) = _ := Eq.trans (hf 75) (by conv => lhs; simp [go_sem])
  have y76 : A.eval (.tmp 76) = _ := Eq.trans (hf 76) (by conv => lhs; simp [go_sem])
  have y77 : A.eval (.tmp 77) = _ := Eq.trans (hf 77) (by conv => lhs; simp [go_sem])
  have y78 : A.eval (.tmp 78) = _ := Eq.trans (hf 78) (by conv => lhs; simp [go_sem])
  have y79 : A.eval (.tmp 79) = _ := Eq.trans (hf 79) (by conv => lhs; simp [go_sem])
  have y80 : A.eval (.tmp 80) = _ := Eq.trans (hf 80) (by conv => lhs; simp [go_sem])
  have y81 : A.eval (.tmp 81) = _ := Eq.trans (hf 81) (by conv => lhs; simp [go_sem])
  have y82 : A.eval (.tmp 82) = _ := Eq.trans (hf 82) (by conv => lhs; simp [go_sem])
  have y83 : A.eval (.tmp 83) = _ := Eq.trans (hf 83) (by conv => lhs; simp [go_sem])
  have y84 : A.eval (.tmp 84) = _ := Eq.trans (hf 84) (by conv => lhs; simp [go_sem])
  have y85 : A.eval (.tmp 85) = _ := Eq.trans (hf 85) (by conv => lhs; simp [go_sem])
  have y86 : A.eval (.tmp 86) = _ := Eq.trans (hf 86) (by conv => lhs; simp [go_sem])
  have y87 : A.eval (.tmp 87) = _ := Eq.trans (hf 87) (by conv => lhs; simp [go_sem])
  have y88 : A.eval (.tmp 88) = _ := Eq.trans (hf 88) (by conv => lhs; simp [go_sem])
  have y89 : A.eval (.tmp 89) = _ := Eq.trans (hf 89) (by conv => lhs; simp [go_sem])
  have y90 : A.eval (.tmp 90) = _ := Eq.trans (hf 90) (by conv => lhs; simp [go_sem])
  have y91 : A.eval (.tmp 91) = _ := Eq.trans (hf 91) (by conv => lhs; simp [go_sem])
  have y92 : A.eval (.tmp 92) = _ := Eq.trans (hf 92) (by conv => lhs; simp [go_sem])
  have y93 : A.eval (.tmp 93) = _ := Eq.trans (hf 93) (by conv => lhs; simp [go_sem])
  have y94 : A.eval (.tmp 94) = _ := Eq.trans (hf 94) (by conv => lhs; simp [go_sem])
  have y95 : A.eval (.tmp 95) = _ := Eq.trans (hf 95) (by conv => lhs; simp [go_sem])
  have y96 : A.eval (.tmp 96) = _ := Eq.trans (hf 96) (by conv => lhs; simp [go_sem])
  have y97 : A.eval (.tmp 97) = _ := Eq.trans (hf 97) (by conv => lhs; simp [go_sem])
  have y98 : A.eval (.tmp 98) = _ := Eq.trans (hf 98) (by conv => lhs; simp [go_sem])
  have y99 : A.eval (.tmp 99) = _ := Eq.trans (hf 99) (by conv => lhs; simp [go_sem])
  have y100 : A.eval (.tmp 100) = _ := Eq.trans (hf 100) (by conv => lhs; simp [go_sem])
  have y101 : A.eval (.tmp 101) = _ := Eq.trans (hf 101) (by conv => lhs; simp [go_sem])
  have y102 : A.eval (.tmp 102) = _ := Eq.trans (hf 102) (by conv => lhs; simp [go_sem])
  have y103 : A.eval (.tmp 103) = _ := Eq.trans (hf 103) (by conv => lhs; simp [go_sem])
  have y104 : A.eval (.tmp 104) = _ := Eq.trans (hf 104) (by conv => lhs; simp [go_sem])
  have y105 : A.eval (.tmp 105) = _ := Eq.trans (hf 105) (by conv => lhs; simp [go_sem])
  have y106 : A.eval (.tmp 106) = _ := Eq.trans (hf 106) (by conv => lhs; simp [go_sem])
  have y107 : A.eval (.tmp 107) = _ := Eq.trans (hf 107) (by conv => lhs; simp [go_sem])
  have y108 : A.eval (.tmp 108) = _ := Eq.trans (hf 108) (by conv => lhs; simp [go_sem])
  have y109 : A.eval (.tmp 109) = _ := Eq.trans (hf 109) (by conv => lhs; simp [go_sem])
  have y110 : A.eval (.tmp 110) = _ := Eq.trans (hf 110) (by conv => lhs; simp [go_sem])
  have y111 : A.eval (.tmp 111) = _ := Eq.trans (hf 111) (by conv => lhs; simp [go_sem])
  have y112 : A.eval (.tmp 112) = _ := Eq.trans (hf 112) (by conv => lhs; simp [go_sem])
  have y113 : A.eval (.tmp 113) = _ := Eq.trans (hf 113) (by conv => lhs; simp [go_sem])
  clear hf
  have hA := frame_eq hn
  rw [show List.range 114 = [0, 1, 2, 3, 4, 5, 6, 7, 8, 9, 10, 11, 12, 13, 14, 15, 16, 17, 18, 19, 20, 21, 22, 23, 24, 25, 26, 27, 28, 29, 30, 31, 32, 33, 34, 35, 36, 37, 38, 39, 40, 41, 42, 43, 44, 45, 46, 47, 48, 49, 50, 51, 52, 53, 54, 55, 56, 57, 58, 59, 60, 61, 62, 63, 64, 65, 66, 67, 68, 69, 70, 71, 72, 73, 74, 75, 76, 77, 78, 79, 80, 81, 82, 83, 84, 85, 86, 87, 88, 89, 90, 91, 92, 93, 94, 95, 96, 97, 98, 99, 100, 101, 102, 103, 104, 105, 106, 107, 108, 109, 110, 111, 112, 113] from rfl, hd] at hA
  simp only [List.map_cons, List.map_nil, y0, y1, y2, y3, y4, y5, y6, y7, y8, y9, y10, y11, y12, y13, y14, y15, y16, y17, y18, y19, y20, y21, y22, y23, y24, y25, y26, y27, y28, y29, y30, y31, y32, y33, y34, y35, y36, y37, y38, y39, y40, y41, y42, y43, y44, y45, y46, y47, y48, y49, y50, y51, y52, y53, y54, y55, y56, y57, y58, y59, y60, y61, y62, y63, y64, y65, y66, y67, y68, y69, y70, y71, y72, y73, y74, y75, y76, y77, y78, y79, y80, y81, y82, y83, y84, y85, y86, y87, y88, y89, y90, y91, y92, y93, y94, y95, y96, y97, y98, y99, y100, y101, y102, y103, y104, y105, y106, y107, y108, y109, y110, y111, y112, y113] at hA
  clear y0 y1 y2 y3 y4 y5 y6 y7 y8 y9 y10 y11 y12 y13 y14 y15 y16 y17 y18 y19 y20 y21 y22 y23 y24 y25 y26 y27 y28 y29 y30 y31 y32 y33 y34 y35 y36 y37 y38 y39 y40 y41 y42 y43 y44 y45 y46 y47 y48 y49 y50 y51 y52 y53 y54 y55 y56 y57 y58 y59 y60 y61 y62 y63 y64 y65 y66 y67 y68 y69 y70 y71 y72 y73 y74 y75 y76 y77 y78 y79 y80 y81 y82 y83 y84 y85 y86 y87 y88 y89 y90 y91 y92 y93 y94 y95 y96 y97 y98 y99 y100 y101 y102 y103 y104 y105 y106 y107 y108 y109 y110 y111 y112 y113
  clear hn hd
  subst hA
  clear q0 q1; replace KA := Lib.hid (KA.out.below hC); replace RF := Lib.hid (Bs_below RF.out hC); replace RM := Lib.hid (Bs_below RM.out hC); replace OZ := Lib.hid (OZ.out.below hC); replace HB := Lib.hid (HB.out.trans (hC.mono HB.out.size)); clear hC; obtain ⟨q0, q1⟩ := KA.out.1
  go_wp2_with fail
  refine (pbytes_any b0 _ z0 _ OZ.out (by omega)).mono ?_
  rintro e V4 ⟨r4, rfl, hr, hb⟩
  rw [hck]
  rw [hbs] at hr
  obtain ⟨c4, p4, rfl⟩ := Bs_shape hr
  have RY := Lib.hid hr
  clear hr
  clear q0 q1; replace KA := Lib.hid (KA.out.below hb); replace RF := Lib.hid (Bs_below RF.out hb); replace RM := Lib.hid (Bs_below RM.out hb); replace OZ := Lib.hid (OZ.out.below hb); replace HB := Lib.hid (HB.out.trans (hb.mono HB.out.size)); clear hb; obtain ⟨q0, q1⟩ := KA.out.1
  go_wp2_with fail
  refine (both3_big RF.out RY.out RM.out _ (by omega)).mono ?_
  rintro e V5 ⟨r5, rfl, ho, hx, hb⟩
  have RZ := Lib.hid (Bs_of_own ho hx (by simp only [List.length_append]; omega))
  clear ho hx
  replace hb := (((Below.refl _ _).alloc (Nat.le_refl _) _) : Below V4.heap.size V4 (V4.alloc _)).trans (hb.mono (by simp))
  clear q0 q1; replace KA := Lib.hid (KA.out.below hb); replace RF := Lib.hid (Bs_below RF.out hb); replace RM := Lib.hid (Bs_below RM.out hb); replace RY := Lib.hid (Bs_below RY.out hb); replace OZ := Lib.hid (OZ.out.below hb); replace HB := Lib.hid (HB.out.trans (hb.mono HB.out.size)); clear hb; obtain ⟨q0, q1⟩ := KA.out.1
  go_wp2_with fail
  refine (bparse_any _ f.length (f ++ (B ++ m)) _ RZ.out).mono ?_
  rw [hpf]
  rintro e V6 ⟨r6, rfl, hr6, hb⟩
  obtain ⟨c6, p6, rfl⟩ := hr6.form
  have OY := Lib.hid hr6
  clear hr6
  clear q0 q1; replace KA := Lib.hid (KA.out.below hb); replace RF := Lib.hid (Bs_below RF.out hb); replace RM := Lib.hid (Bs_below RM.out hb); replace RY := Lib.hid (Bs_below RY.out hb); replace OZ := Lib.hid (OZ.out.below hb); replace HB := Lib.hid (HB.out.trans (hb.mono HB.out.size)); clear hb; obtain ⟨q0, q1⟩ := KA.out.1
  have hB0 : (B.length : Int) = 0 := (by have := HB0.out; omega)
  have hb : Below V6.heap.size V6 (V6.alloc (.cells #[.int .i64 G0, .slice c6 GY.length p6] 24)) := (Below.refl _ V6).alloc (Nat.le_refl _) _
  have HB7 := Lib.hid (HB.out.trans (hb.mono HB.out.size))
  clear hb
  go_wp2_with fail
  refine (bawake_any _).mono ?_
  rintro e V7 ⟨rfl, hb⟩
  replace HB7 := Lib.hid (HB7.out.trans (hb.mono HB7.out.size))
  clear hb
  go_wp2_with fail
  go_ret
  exact ⟨rfl, HB7.out⟩
end Go.Proofs.Ytfdjaodnmjkpcaa.batchBack
