/- thalweglaw05.BatchDoes: for any batch the law answers true; no condition. -/
import Derived.Test.YtfdjaodnmjkpcaaBm3
import Derived.WalkLawsBesides
import Derived.WalkKit
import Derived.ProofKit
import Derived.OpenShut
import Derived.ShutString
import Derived.ChangeOld
import Derived.Below
namespace Go.Proofs.Ytfdjaodnmjkpcaa.batchDoes
open Go.ChangeShapes Go.WideShapes Go.ChangeAt Go.RowKit
open Go.ChangeMaps (open_string shut_string)
set_option linter.unusedVariables false
set_option maxRecDepth 100000
open Go.Sort

theorem own : ownKnob Try.prog.godebug = none := by kernel_rfl
theorem laidOut : laidOutB Try.prog = true := by kernel_rfl

/-- A slice of objects of the call's own. -/
def OwnS (ys : List Ob) : Ty := fun v w => ∃ a c, v = .slice a ys.length c ∧ (∃ S, w.ownsRow S 52 12 v ys.length (flat ys))
theorem OwnS.keeps (ys : List Ob) (k : Nat) : T3.Keeps (fun _ w w' => Below w.heap.size w w') k (OwnS ys) := fun _ _ _ _ _ ⟨a, c, h1, S, h2⟩ hb => ⟨a, c, h1, S, own_below h2 hb⟩
theorem owns_of {w : World} {S : Nat} {v : Value} {ys : List Ob} (h : w.ownsRow S 52 12 v ys.length (flat ys)) : OwnS ys v w := by
  obtain ⟨a, c, rfl⟩ := own_form h
  exact ⟨a, c, rfl, S, h⟩
/-- A batch whose objects lie in a row of the call's own. -/
def OwnB (b0 : Int) (ys : List Ob) : Ty := fun v w => ∃ a c, v = .agg #[.int .i64 b0, .slice a ys.length c] ∧ (∃ S, w.ownsRow S 52 12 (.slice a ys.length c) ys.length (flat ys))
theorem OwnB.keeps (b0 : Int) (ys : List Ob) (k : Nat) : T3.Keeps (fun _ w w' => Below w.heap.size w w') k (OwnB b0 ys) := fun _ _ _ _ _ ⟨a, c, h1, S, h2⟩ hb => ⟨a, c, h1, S, own_below h2 hb⟩
/-- A pointer to a new variable of a batch. -/
def NewB (V : World) : Ty := fun v w => ∃ b, v = .pointer (some ⟨b, 0, none⟩) ∧ V.heap.size ≤ b ∧ Own2 w b 0 (.slice none 0 0) ∧ ∃ cs fr, w.heap[b]? = some (.cells cs 24 fr)
theorem NewB.keeps (V : World) (k : Nat) : T3.Keeps (fun _ w w' => Below w.heap.size w w') k (NewB V) := fun _ _ _ _ _ ⟨b, h1, h2, h3, cs, fr, h4⟩ hb => ⟨b, h1, h2, h3.below hb, cs, fr, (hb.block b h3.lt).trans h4⟩
theorem own_onlT {w w' : World} {b S n : Nat} {v : Value} {xs : List Value} (h : w.ownsRow S 52 12 v n xs) (ho : Onl b w w') (hh : ∃ cs fr, w.heap[b]? = some (.cells cs 24 fr)) : w'.ownsRow S 52 12 v n xs := by
  refine ⟨h.1, ?_⟩
  obtain ⟨cs, fr, hh⟩ := hh
  rcases h.2 with h2 | ⟨g, cap, cur, rfl, h3, hg, rest⟩
  · exact .inl h2
  · refine .inr ⟨g, cap, cur, rfl, h3, ?_, rest⟩
    rw [ho.block g (Array.getElem?_eq_some_iff.1 hg).1 (fun e => by subst e; rw [hg] at hh; simp at hh)]; exact hg
theorem btBs_le' (N : Int) (ys : List Ob) : (btBs N ys).length ≤ 512 := by
  unfold btBs
  split
  · rename_i h
    have hl : (btB N ys).length = 3 + osz ys := by unfold btB; rw [List.length_append, bs_flat_len]; rfl
    have := h.2.2.2
    omega
  · simp

theorem early (b0 : Int) (a0 : Option Addr) (cap0 : Nat) (z0 : List Ob) (w : World) (h60 : (60 : Int) < (z0.length : Int)) :
    Calls Try.prog 3 #[.agg #[.int .i64 b0, .slice a0 z0.length cap0]] w fun e w' => e = .returned (.bool true) ∧ Below w.heap.size w w' := by
  go_enter Try.func3, Try.ntmps3
  go_wp2_with fail
  go_ret
  exact ⟨rfl, (Below.refl _ _).alloc (Nat.le_refl _) _⟩

set_option maxHeartbeats 16000000 in
theorem case_ok (b0 : Int) (a0 : Option Addr) (cap0 : Nat) (z0 : List Ob) (w : World) (w0 : Os w (.slice a0 z0.length cap0) z0) (h60 : ¬ (60 : Int) < (z0.length : Int)) (hq : BtOk b0 z0) :
    Calls Try.prog 3 #[.agg #[.int .i64 b0, .slice a0 z0.length cap0]] w fun e w' => e = .returned (.bool true) ∧ Below w.heap.size w w' := by
  have hl : z0.length ≤ 60 := by omega
  have cP := fun W v h => pbytes_any b0 v z0 W h (by omega)
  have cB := fun W v h => bytes5_any b0 v z0 W h (by omega)
  have cK := fun W v h => pcheck_any b0 v z0 W h (by omega)
  have cT := fun W v h => right5_any b0 v z0 W h (by omega)
  rw [show btc b0 z0 = 0 from if_pos hq] at cP cB cK
  rw [decide_eq_true hq] at cT
  have HBY : Hid ((btBs b0 z0).length ≤ 512) := btBs_le' b0 z0
  generalize btBs b0 z0 = bs at *
  have OZ := Lib.hid (w0.alloc (.cells #[.int .i64 b0, .slice a0 z0.length cap0] 24))
  have KA := Lib.hid (own2_alloc w b0 (.slice a0 z0.length cap0) 24 w.heap.size rfl)
  have HB : Hid (Below w.heap.size w (w.alloc (.cells #[.int .i64 b0, .slice a0 z0.length cap0] 24))) := (Below.refl _ w).alloc (Nat.le_refl _) _
  clear w0 hq
  go_enter Try.func3, Try.ntmps3
  go_wp2_with fail
  obtain ⟨V1, hV1⟩ : ∃ V1, w.alloc (.cells #[.int .i64 b0, .slice a0 z0.length cap0] 24) = V1 := ⟨_, rfl⟩
  rw [hV1] at OZ KA HB
  simp only [hV1]
  clear hV1
  have kc : ∀ w', Below V1.heap.size V1 w' → w'.cell? ⟨w.heap.size, 0, none⟩ = some (.int .i64 b0) ∧ w'.cell? ⟨w.heap.size, 1, none⟩ = some (.slice a0 z0.length cap0) := fun w' h => (KA.out.below h).1
  refine T3.wp_region_tail (C := fun w' => Below V1.heap.size V1 w') (X := fun _ w w' => Below w.heap.size w w') (n := 56) 7 (by kernel_rfl) (by kernel_rfl) (by kernel_rfl) (by kernel_rfl) rfl (fun _ w => Below.refl _ w) (Below.refl _ _).drew ?_
  simp only [List.take_succ_cons, List.take_zero, List.drop_succ_cons, List.drop_zero]
  refine T3.w_is (fun _ w => Below.refl _ w) rfl _ (.inl rfl) (fun ρ w hC hc hfn hf => by have e1 : ρ (.tmp 1) = _ := hf 1 (by decide); (conv => lhs; simp [execOp, go_sem, hc, e1])) ?_
  refine T3.w_is (fun _ w => Below.refl _ w) rfl _ (.inl rfl) (fun ρ w hC hc hfn hf => by have e12 : ρ (.tmp 12) = _ := hf 12 (by decide); (conv => lhs; simp [execOp, go_sem, hc, e12, kc w hC])) ?_
  refine T3.w_is (fun _ w => Below.refl _ w) rfl _ (.inl rfl) (fun ρ w hC hc hfn hf => by have e1 : ρ (.tmp 1) = _ := hf 1 (by decide); (conv => lhs; simp [execOp, go_sem, hc, e1])) ?_
  refine T3.w_is (fun _ w => Below.refl _ w) rfl _ (.inl rfl) (fun ρ w hC hc hfn hf => by have e14 : ρ (.tmp 14) = _ := hf 14 (by decide); (conv => lhs; simp [execOp, go_sem, hc, e14, kc w hC])) ?_
  refine T3.w_call rfl (OwnS z0) (OwnS.keeps z0 4) 8 (.inl rfl) (fun ρ w hC hc hfn hf => by have e15 : ρ (.tmp 15) = _ := hf 15 (by decide); exact ⟨_, by (conv => lhs; simp [execOp, resolve, invoke, go_sem, hc, hfn, e15]), (own_any _ z0 w (OZ.out.below hC) (by omega)).mono fun e w' ⟨r, h1, h2, h3⟩ => ⟨r, h1, hC.trans (h3.mono hC.size), h3, owns_of h2⟩⟩) ?_
  refine T3.w_make rfl (OwnB b0 z0) (OwnB.keeps b0 z0 5) (.inl rfl) (fun ρ w hC hc hfn hf => by have e13 : ρ (.tmp 13) = _ := hf 13 (by decide); obtain ⟨a', c', e16, hos⟩ := (show OwnS z0 (ρ (.tmp 16)) w from hf 16 (by decide)); rw [e16] at hos; exact ⟨_, w, by (conv => lhs; simp [execOp, go_sem, hc, e13, e16]), hC, Below.refl _ _, ⟨a', c', rfl, hos⟩⟩) ?_
  refine T3.w_make rfl (NewB V1) (NewB.keeps V1 6) (.inl rfl) (fun ρ w hC hc hfn hf => by exact ⟨_, _, by (conv => lhs; simp [execOp, go_sem]), hC.alloc hC.size _, (Below.refl _ w).alloc (Nat.le_refl _) _, ⟨_, rfl, hC.size, own2_alloc w 0 _ 24 _ rfl, _, _, heap_alloc_new w _⟩⟩) ?_
  intro A V2 hC hn hd hf
  obtain ⟨ga, y3, hg1, KW, KT⟩ := (show NewB V1 (A.eval (.tmp 3)) V2 from hf 3)
  obtain ⟨a16, c16, y16, -⟩ := (show OwnS z0 (A.eval (.tmp 16)) V2 from hf 16)
  obtain ⟨oa, oc, y17, OO⟩ := (show OwnB b0 z0 (A.eval (.tmp 17)) V2 from hf 17)
  have y0 : A.eval (.tmp 0) = _ := Eq.trans (hf 0) (by conv => lhs; simp [go_sem])
  have y1 : A.eval (.tmp 1) = _ := Eq.trans (hf 1) (by conv => lhs; simp [go_sem])
  have y2 : A.eval (.tmp 2) = _ := Eq.trans (hf 2) (by conv => lhs; simp [go_sem])
  have y4 : A.eval (.tmp 4) = _ := Eq.trans (hf 4) (by conv => lhs; simp [go_sem])
  have y5 : A.eval (.tmp 5) = _ := Eq.trans (hf 5) (by conv => lhs; simp [go_sem])
  have y6 : A.eval (.tmp 6) = _ := Eq.trans (hf 6) (by conv => lhs; simp [go_sem])
  have y7 : A.eval (.tmp 7) = _ := Eq.trans (hf 7) (by conv => lhs; simp [go_sem])
  have y8 : A.eval (.tmp 8) = _ := Eq.trans (hf 8) (by conv => lhs; simp [go_sem])
  have y9 : A.eval (.tmp 9) = _ := Eq.trans (hf 9) (by conv => lhs; simp [go_sem])
  have y10 : A.eval (.tmp 10) = _ := Eq.trans (hf 10) (by conv => lhs; simp [go_sem])
  have y11 : A.eval (.tmp 11) = _ := Eq.trans (hf 11) (by conv => lhs; simp [go_sem])
  have y12 : A.eval (.tmp 12) = _ := hf 12
  have y13 : A.eval (.tmp 13) = _ := hf 13
  have y14 : A.eval (.tmp 14) = _ := hf 14
  have y15 : A.eval (.tmp 15) = _ := hf 15
  have y18 : A.eval (.tmp 18) = _ := Eq.trans (hf 18) (by conv => lhs; simp [go_sem])
  have y19 : A.eval (.tmp 19) = _ := Eq.trans (hf 19) (by conv => lhs; simp [go_sem])
  have y20 : A.eval (.tmp 20) = _ := Eq.trans (hf 20) (by conv => lhs; simp [go_sem])
  have y21 : A.eval (.tmp 21) = _ := Eq.trans (hf 21) (by conv => lhs; simp [go_sem])
  have y22 : A.eval (.tmp 22) = _ := Eq.trans (hf 22) (by conv => lhs; simp [go_sem])
  have y23 : A.eval (.tmp 23) = _ := Eq.trans (hf 23) (by conv => lhs; simp [go_sem])
  have y24 : A.eval (.tmp 24) = _ := Eq.trans (hf 24) (by conv => lhs; simp [go_sem])
  have y25 : A.eval (.tmp 25) = _ := Eq.trans (hf 25) (by conv => lhs; simp [go_sem])
  have y26 : A.eval (.tmp 26) = _ := Eq.trans (hf 26) (by conv => lhs; simp [go_sem])
  have y27 : A.eval (.tmp 27) = _ := Eq.trans (hf 27) (by conv => lhs; simp [go_sem])
  have y28 : A.eval (.tmp 28) = _ := Eq.trans (hf 28) (by conv => lhs; simp [go_sem])
  have y29 : A.eval (.tmp 29) = _ := Eq.trans (hf 29) (by conv => lhs; simp [go_sem])
  have y30 : A.eval (.tmp 30) = _ := Eq.trans (hf 30) (by conv => lhs; simp [go_sem])
  have y31 : A.eval (.tmp 31) = _ := Eq.trans (hf 31) (by conv => lhs; simp [go_sem])
  have y32 : A.eval (.tmp 32) = _ := Eq.trans (hf 32) (by conv => lhs; simp [go_sem])
  have y33 : A.eval (.tmp 33) = _ := Eq.trans (hf 33) (by conv => lhs; simp [go_sem])
  have y34 : A.eval (.tmp 34) = _ := Eq.trans (hf 34) (by conv => lhs; simp [go_sem])
  have y35 : A.eval (.tmp 35) = _ := Eq.trans (hf 35) (by conv => lhs; simp [go_sem])
  have y36 : A.eval (.tmp 36) = _ := Eq.trans (hf 36) (by conv => lhs; simp [go_sem])
  have y37 : A.eval (.tmp 37) = _ := Eq.trans (hf 37) (by conv => lhs; simp [go_sem])
  have y38 : A.eval (.tmp 38) = _ := Eq.trans (hf 38) (by conv => lhs; simp [go_sem])
  have y39 : A.eval (.tmp 39) = _ := Eq.trans (hf 39) (by conv => lhs; simp [go_sem])
  have y40 : A.eval (.tmp 40) = _ := Eq.trans (hf 40) (by conv => lhs; simp [go_sem])
  have y41 : A.eval (.tmp 41) = _ := Eq.trans (hf 41) (by conv => lhs; simp [go_sem])
  have y42 : A.eval (.tmp 42) = _ := Eq.trans (hf 42) (by conv => lhs; simp [go_sem])
  have y43 : A.eval (.tmp 43) = _ := Eq.trans (hf 43) (by conv => lhs; simp [go_sem])
  have y44 : A.eval (.tmp 44) = _ := Eq.trans (hf 44) (by conv => lhs; simp [go_sem])
  have y45 : A.eval (.tmp 45) = _ := Eq.trans (hf 45) (by conv => lhs; simp [go_sem])
  have y46 : A.eval (.tmp 46) = _ := Eq.trans (hf 46) (by conv => lhs; simp [go_sem])
  have y47 : A.eval (.tmp 47) = _ := Eq.trans (hf 47) (by conv => lhs; simp [go_sem])
  have y48 : A.eval (.tmp 48) = _ := Eq.trans (hf 48) (by conv => lhs; simp [go_sem])
  have y49 : A.eval (.tmp 49) = _ := Eq.trans (hf 49) (by conv => lhs; simp [go_sem])
  have y50 : A.eval (.tmp 50) = _ := Eq.trans (hf 50) (by conv => lhs; simp [go_sem])
  have y51 : A.eval (.tmp 51) = _ := Eq.trans (hf 51) (by conv => lhs; simp [go_sem])
  have y52 : A.eval (.tmp 52) = _ := Eq.trans (hf 52) (by conv => lhs; simp [go_sem])
  have y53 : A.eval (.tmp 53) = _ := Eq.trans (hf 53) (by conv => lhs; simp [go_sem])
  have y54 : A.eval (.tmp 54) = _ := Eq.trans (hf 54) (by conv => lhs; simp [go_sem])
  have y55 : A.eval (.tmp 55) = _ := Eq.trans (hf 55) (by conv => lhs; simp [go_sem])
  clear hf
  have hA := frame_eq hn
  rw [show List.range 56 = [0, 1, 2, 3, 4, 5, 6, 7, 8, 9, 10, 11, 12, 13, 14, 15, 16, 17, 18, 19, 20, 21, 22, 23, 24, 25, 26, 27, 28, 29, 30, 31, 32, 33, 34, 35, 36, 37, 38, 39, 40, 41, 42, 43, 44, 45, 46, 47, 48, 49, 50, 51, 52, 53, 54, 55] from rfl, hd] at hA
  simp only [List.map_cons, List.map_nil, y0, y1, y2, y3, y4, y5, y6, y7, y8, y9, y10, y11, y12, y13, y14, y15, y16, y17, y18, y19, y20, y21, y22, y23, y24, y25, y26, y27, y28, y29, y30, y31, y32, y33, y34, y35, y36, y37, y38, y39, y40, y41, y42, y43, y44, y45, y46, y47, y48, y49, y50, y51, y52, y53, y54, y55] at hA
  clear y0 y1 y2 y3 y4 y5 y6 y7 y8 y9 y10 y11 y12 y13 y14 y15 y16 y17 y18 y19 y20 y21 y22 y23 y24 y25 y26 y27 y28 y29 y30 y31 y32 y33 y34 y35 y36 y37 y38 y39 y40 y41 y42 y43 y44 y45 y46 y47 y48 y49 y50 y51 y52 y53 y54 y55
  clear hn hd
  subst hA
  clear kc
  have HG : Hid (w.heap.size < V1.heap.size) := KA.out.lt
  have ho : Onl ga V2 ((V2.setCell ⟨ga, 0, none⟩ (.int .i64 b0)).setCell ⟨ga, 1, none⟩ (.slice oa z0.length oc)) := ((Onl.refl _ V2).set 0 _).set 1 _
  have KO := Lib.hid (KW.set b0 (.slice oa z0.length oc))
  replace KA := Lib.hid ((KA.out.below hC).onl ho (by have := HG.out; omega))
  have hb3 : Below V1.heap.size V1 ((V2.setCell ⟨ga, 0, none⟩ (.int .i64 b0)).setCell ⟨ga, 1, none⟩ (.slice oa z0.length oc)) := hC.trans (ho.below hg1 hC.size)
  replace OZ := Lib.hid (OZ.out.below hb3)
  obtain ⟨SO, onw⟩ := OO
  have OO2 := Lib.hid (Os_of_own (own_onlT onw ho KT)).1
  replace HB := Lib.hid (HB.out.trans (hb3.mono HB.out.size))
  obtain ⟨⟨u0, u1⟩, uf⟩ := KW
  clear hC hb3 onw KT
  go_wp2_with fail
  obtain ⟨V3, hV3⟩ : ∃ V3, (V2.setCell ⟨ga, 0, none⟩ (.int .i64 b0)).setCell ⟨ga, 1, none⟩ (.slice oa z0.length oc) = V3 := ⟨_, rfl⟩
  rw [hV3] at KO KA OZ OO2 HB ho
  simp only [hV3]
  clear hV3 ho u0 u1 uf
  refine (cP _ _ OO2.out).mono ?_
  rintro e V4 ⟨r4, rfl, hr, hb⟩
  obtain ⟨c4, p4, rfl⟩ := Bs_len hr
  have RA := Lib.hid hr
  replace KO := Lib.hid (KO.out.below hb)
  replace KA := Lib.hid (KA.out.below hb)
  replace OZ := Lib.hid (OZ.out.below hb)
  replace OO2 := Lib.hid (OO2.out.below hb)
  replace HB := Lib.hid (HB.out.trans (hb.mono HB.out.size))
  clear hr hb
  obtain ⟨q0, q1⟩ := KA.out.1
  go_wp2_with fail
  refine (cB _ _ OZ.out).mono ?_
  rintro e V5 ⟨r5, rfl, hr, hb⟩
  obtain ⟨c5, p5, rfl⟩ := Bs_len hr
  have RB := Lib.hid hr
  replace RA := Lib.hid (Bs_below RA.out hb)
  replace KO := Lib.hid (KO.out.below hb)
  replace KA := Lib.hid (KA.out.below hb)
  replace OZ := Lib.hid (OZ.out.below hb)
  replace OO2 := Lib.hid (OO2.out.below hb)
  replace HB := Lib.hid (HB.out.trans (hb.mono HB.out.size))
  clear hr hb q0 q1 cP cB
  have kc : ∀ w', Below V5.heap.size V5 w' → (w'.cell? ⟨w.heap.size, 0, none⟩ = some (.int .i64 b0) ∧ w'.cell? ⟨w.heap.size, 1, none⟩ = some (.slice a0 z0.length cap0)) ∧ w'.cell? ⟨ga, 0, none⟩ = some (.int .i64 b0) ∧ w'.cell? ⟨ga, 1, none⟩ = some (.slice oa z0.length oc) := fun w' h => ⟨(KA.out.below h).1, (KO.out.below h).1⟩
  have hcv1 : ∀ w', Below V5.heap.size V5 w' → (convert 26 9 (.slice c4 bs.length p4)).run Try.prog w' = .ok (.string (strOfNums bs)) w' := fun w' h => Bs_conv (Bs_below RA.out h)
  have hcv2 : ∀ w', Below V5.heap.size V5 w' → (convert 26 9 (.slice c5 bs.length p5)).run Try.prog w' = .ok (.string (strOfNums bs)) w' := fun w' h => Bs_conv (Bs_below RB.out h)
  have cC : ∀ w', Below V5.heap.size V5 w' → Calls Try.prog 12 #[.agg #[.int .i64 b0, .slice oa z0.length oc]] w' fun e w'' => e = .returned (.int .i64 0) ∧ Below w'.heap.size w' w'' := fun w' h => cK w' _ (OO2.out.below h)
  have cR : ∀ w', Below V5.heap.size V5 w' → Calls Try.prog 13 #[.agg #[.int .i64 b0, .slice a0 z0.length cap0]] w' fun e w'' => e = .returned (.bool true) ∧ Below w'.heap.size w' w'' := fun w' h => cT w' _ (OZ.out.below h)
  have cS : ∀ w', Below V5.heap.size V5 w' → Calls Try.prog 14 #[.slice oa z0.length oc, .slice a0 z0.length cap0] w' fun e w'' => e = .returned (.bool true) ∧ Below w'.heap.size w' w'' := fun w' h => same_true _ _ z0 w' (OO2.out.below h) (OZ.out.below h) (by omega)
  go_wp2_with fail
  refine wp_region_typed (C := fun w' => Below V5.heap.size V5 w') (X := fun w w' => Below w.heap.size w w') (n := 56) (by kernel_rfl) (by kernel_rfl) rfl (fun w => Below.refl _ w) (Below.refl _ _).drew ?_
  refine w_call (Is _) (fun _ _ _ h _ => h) 11 (.inl rfl) (fun ρ w hC hc hfn hf => by exact ⟨_, by (conv => lhs; simp [execOp, resolve, invoke, go_sem, hc, hfn]), tc_below hC (bawake_any w)⟩) ?_
  refine w_is (fun w => Below.refl _ w) _ (.inl rfl) (fun ρ w hC hc hfn hf => by have e28 : ρ (.tmp 28) = _ := hf 28 (by decide); (conv => lhs; simp [execOp, go_sem, hc, e28])) ?_
  refine w_is (fun w => Below.refl _ w) _ (.inr ⟨1, 29, true, rfl, rfl, known_is rfl⟩) (fun ρ w hC hc hfn hf => by have e3 : ρ (.tmp 3) = _ := hf 3 (by decide); (conv => lhs; simp [execOp, go_sem, hc, e3, kc w hC])) ?_
  refine w_call (Is _) (fun _ _ _ h _ => h) 12 (.inr ⟨1, 29, true, rfl, rfl, known_is rfl⟩) (fun ρ w hC hc hfn hf => by have e30 : ρ (.tmp 30) = _ := hf 30 (by decide); exact ⟨_, by (conv => lhs; simp [execOp, resolve, invoke, go_sem, hc, hfn, e30]), tc_below hC (cC w hC)⟩) ?_
  refine w_is (fun w => Below.refl _ w) _ (.inr ⟨1, 29, true, rfl, rfl, known_is rfl⟩) (fun ρ w hC hc hfn hf => by have e31 : ρ (.tmp 31) = _ := hf 31 (by decide); (conv => lhs; simp [execOp, go_sem, hc, e31])) ?_
  refine w_is (fun w => Below.refl _ w) _ (.inr ⟨1, 29, true, rfl, rfl, known_is rfl⟩) (fun ρ w hC hc hfn hf => by have e1 : ρ (.tmp 1) = _ := hf 1 (by decide); (conv => lhs; simp [execOp, go_sem, hc, e1, kc w hC])) ?_
  refine w_call (Is _) (fun _ _ _ h _ => h) 13 (.inr ⟨1, 29, true, rfl, rfl, known_is rfl⟩) (fun ρ w hC hc hfn hf => by have e33 : ρ (.tmp 33) = _ := hf 33 (by decide); exact ⟨_, by (conv => lhs; simp [execOp, resolve, invoke, go_sem, hc, hfn, e33]), tc_below hC (cR w hC)⟩) ?_
  refine w_is (fun w => Below.refl _ w) _ (.inr ⟨1, 29, true, rfl, rfl, known_is rfl⟩) (fun ρ w hC hc hfn hf => by have e32 : ρ (.tmp 32) = _ := hf 32 (by decide); have e34 : ρ (.tmp 34) = _ := hf 34 (by decide); (conv => lhs; simp [execOp, go_sem, hc, e32, e34])) ?_
  refine w_is (fun w => Below.refl _ w) _ (.inl rfl) (fun ρ w hC hc hfn hf => by have e29 : ρ (.tmp 29) = _ := hf 29 (by decide); have e35 : ρ (.tmp 35) = _ := hf 35 (by decide); (conv => lhs; simp [execOp, go_sem, hc, e29, e35])) ?_
  refine w_is (fun w => Below.refl _ w) _ (.inl rfl) (fun ρ w hC hc hfn hf => by have e36 : ρ (.tmp 36) = _ := hf 36 (by decide); (conv => lhs; simp [execOp, go_sem, hc, e36])) ?_
  refine w_is (fun w => Below.refl _ w) _ (.inr ⟨9, 37, true, rfl, rfl, known_is rfl⟩) (fun ρ w hC hc hfn hf => by have e4 : ρ (.tmp 4) = _ := hf 4 (by decide); (conv => lhs; simp [execOp, go_sem, hc, e4])) ?_
  refine w_is (fun w => Below.refl _ w) _ (.inr ⟨9, 37, true, rfl, rfl, known_is rfl⟩) (fun ρ w hC hc hfn hf => by have e38 : ρ (.tmp 38) = _ := hf 38 (by decide); (conv => lhs; simp [execOp, go_sem, hc, e38, hcv1 w hC])) ?_
  refine w_is (fun w => Below.refl _ w) _ (.inr ⟨9, 37, true, rfl, rfl, known_is rfl⟩) (fun ρ w hC hc hfn hf => by have e6 : ρ (.tmp 6) = _ := hf 6 (by decide); (conv => lhs; simp [execOp, go_sem, hc, e6])) ?_
  refine w_is (fun w => Below.refl _ w) _ (.inr ⟨9, 37, true, rfl, rfl, known_is rfl⟩) (fun ρ w hC hc hfn hf => by have e40 : ρ (.tmp 40) = _ := hf 40 (by decide); (conv => lhs; simp [execOp, go_sem, hc, e40, hcv2 w hC])) ?_
  refine w_is (fun w => Below.refl _ w) _ (.inr ⟨9, 37, true, rfl, rfl, known_is rfl⟩) (fun ρ w hC hc hfn hf => by have e39 : ρ (.tmp 39) = _ := hf 39 (by decide); have e41 : ρ (.tmp 41) = _ := hf 41 (by decide); (conv => lhs; simp [execOp, go_sem, hc, e39, e41])) ?_
  refine w_is (fun w => Below.refl _ w) _ (.inl rfl) (fun ρ w hC hc hfn hf => by have e37 : ρ (.tmp 37) = _ := hf 37 (by decide); have e42 : ρ (.tmp 42) = _ := hf 42 (by decide); (conv => lhs; simp [execOp, go_sem, hc, e37, e42])) ?_
  refine w_is (fun w => Below.refl _ w) _ (.inl rfl) (fun ρ w hC hc hfn hf => by have e43 : ρ (.tmp 43) = _ := hf 43 (by decide); (conv => lhs; simp [execOp, go_sem, hc, e43])) ?_
  refine w_is (fun w => Below.refl _ w) _ (.inr ⟨16, 44, true, rfl, rfl, known_is rfl⟩) (fun ρ w hC hc hfn hf => by have e5 : ρ (.tmp 5) = _ := hf 5 (by decide); (conv => lhs; simp [execOp, go_sem, hc, e5])) ?_
  refine w_is (fun w => Below.refl _ w) _ (.inr ⟨16, 44, true, rfl, rfl, known_is rfl⟩) (fun ρ w hC hc hfn hf => by have e7 : ρ (.tmp 7) = _ := hf 7 (by decide); (conv => lhs; simp [execOp, go_sem, hc, e7])) ?_
  refine w_is (fun w => Below.refl _ w) _ (.inr ⟨16, 44, true, rfl, rfl, known_is rfl⟩) (fun ρ w hC hc hfn hf => by have e45 : ρ (.tmp 45) = _ := hf 45 (by decide); have e46 : ρ (.tmp 46) = _ := hf 46 (by decide); (conv => lhs; simp [execOp, go_sem, hc, e45, e46])) ?_
  refine w_is (fun w => Below.refl _ w) _ (.inl rfl) (fun ρ w hC hc hfn hf => by have e44 : ρ (.tmp 44) = _ := hf 44 (by decide); have e47 : ρ (.tmp 47) = _ := hf 47 (by decide); (conv => lhs; simp [execOp, go_sem, hc, e44, e47])) ?_
  refine w_is (fun w => Below.refl _ w) _ (.inl rfl) (fun ρ w hC hc hfn hf => by have e48 : ρ (.tmp 48) = _ := hf 48 (by decide); (conv => lhs; simp [execOp, go_sem, hc, e48])) ?_
  refine w_is (fun w => Below.refl _ w) _ (.inr ⟨21, 49, true, rfl, rfl, known_is rfl⟩) (fun ρ w hC hc hfn hf => by have e3 : ρ (.tmp 3) = _ := hf 3 (by decide); (conv => lhs; simp [execOp, go_sem, hc, e3])) ?_
  refine w_is (fun w => Below.refl _ w) _ (.inr ⟨21, 49, true, rfl, rfl, known_is rfl⟩) (fun ρ w hC hc hfn hf => by have e50 : ρ (.tmp 50) = _ := hf 50 (by decide); (conv => lhs; simp [execOp, go_sem, hc, e50, kc w hC])) ?_
  refine w_is (fun w => Below.refl _ w) _ (.inr ⟨21, 49, true, rfl, rfl, known_is rfl⟩) (fun ρ w hC hc hfn hf => by have e1 : ρ (.tmp 1) = _ := hf 1 (by decide); (conv => lhs; simp [execOp, go_sem, hc, e1])) ?_
  refine w_is (fun w => Below.refl _ w) _ (.inr ⟨21, 49, true, rfl, rfl, known_is rfl⟩) (fun ρ w hC hc hfn hf => by have e52 : ρ (.tmp 52) = _ := hf 52 (by decide); (conv => lhs; simp [execOp, go_sem, hc, e52, kc w hC])) ?_
  refine w_call (Is _) (fun _ _ _ h _ => h) 14 (.inr ⟨21, 49, true, rfl, rfl, known_is rfl⟩) (fun ρ w hC hc hfn hf => by have e51 : ρ (.tmp 51) = _ := hf 51 (by decide); have e53 : ρ (.tmp 53) = _ := hf 53 (by decide); exact ⟨_, by (conv => lhs; simp [execOp, resolve, invoke, go_sem, hc, hfn, e51, e53]), tc_below hC (cS w hC)⟩) ?_
  refine w_is (fun w => Below.refl _ w) _ (.inl rfl) (fun ρ w hC hc hfn hf => by have e49 : ρ (.tmp 49) = _ := hf 49 (by decide); have e54 : ρ (.tmp 54) = _ := hf 54 (by decide); (conv => lhs; simp [execOp, go_sem, hc, e49, e54])) ?_
  refine w_is (fun w => Below.refl _ w) _ (.inl rfl) (fun ρ w hC hc hfn hf => by have e55 : ρ (.tmp 55) = _ := hf 55 (by decide); (conv => lhs; simp [execOp, go_sem, hc, e55])) ?_
  intro A V6 hC hn hd hf
  have y0 : A.eval (.tmp 0) = _ := Eq.trans (hf 0) (by conv => lhs; simp [go_sem])
  have y1 : A.eval (.tmp 1) = _ := Eq.trans (hf 1) (by conv => lhs; simp [go_sem])
  have y2 : A.eval (.tmp 2) = _ := hf 2
  have y3 : A.eval (.tmp 3) = _ := Eq.trans (hf 3) (by conv => lhs; simp [go_sem])
  have y4 : A.eval (.tmp 4) = _ := Eq.trans (hf 4) (by conv => lhs; simp [go_sem])
  have y5 : A.eval (.tmp 5) = _ := Eq.trans (hf 5) (by conv => lhs; simp [go_sem])
  have y6 : A.eval (.tmp 6) = _ := Eq.trans (hf 6) (by conv => lhs; simp [go_sem])
  have y7 : A.eval (.tmp 7) = _ := Eq.trans (hf 7) (by conv => lhs; simp [go_sem])
  have y8 : A.eval (.tmp 8) = _ := Eq.trans (hf 8) (by conv => lhs; simp [go_sem])
  have y9 : A.eval (.tmp 9) = _ := Eq.trans (hf 9) (by conv => lhs; simp [go_sem])
  have y10 : A.eval (.tmp 10) = _ := Eq.trans (hf 10) (by conv => lhs; simp [go_sem])
  have y11 : A.eval (.tmp 11) = _ := Eq.trans (hf 11) (by conv => lhs; simp [go_sem])
  have y12 : A.eval (.tmp 12) = _ := Eq.trans (hf 12) (by conv => lhs; simp [go_sem])
  have y13 : A.eval (.tmp 13) = _ := Eq.trans (hf 13) (by conv => lhs; simp [go_sem])
  have y14 : A.eval (.tmp 14) = _ := Eq.trans (hf 14) (by conv => lhs; simp [go_sem])
  have y15 : A.eval (.tmp 15) = _ := Eq.trans (hf 15) (by conv => lhs; simp [go_sem])
  have y16 : A.eval (.tmp 16) = _ := Eq.trans (hf 16) (by conv => lhs; simp [go_sem])
  have y17 : A.eval (.tmp 17) = _ := Eq.trans (hf 17) (by conv => lhs; simp [go_sem])
  have y18 : A.eval (.tmp 18) = _ := Eq.trans (hf 18) (by conv => lhs; simp [go_sem])
  have y19 : A.eval (.tmp 19) = _ := Eq.trans (hf 19) (by conv => lhs; simp [go_sem])
  have y20 : A.eval (.tmp 20) = _ := Eq.trans (hf 20) (by conv => lhs; simp [go_sem])
  have y21 : A.eval (.tmp 21) = _ := Eq.trans (hf 21) (by conv => lhs; simp [go_sem])
  have y22 : A.eval (.tmp 22) = _ := Eq.trans (hf 22) (by conv => lhs; simp [go_sem])
  have y23 : A.eval (.tmp 23) = _ := Eq.trans (hf 23) (by conv => lhs; simp [go_sem])
  have y24 : A.eval (.tmp 24) = _ := Eq.trans (hf 24) (by conv => lhs; simp [go_sem])
  have y25 : A.eval (.tmp 25) = _ := Eq.trans (hf 25) (by conv => lhs; simp [go_sem])
  have y26 : A.eval (.tmp 26) = _ := Eq.trans (hf 26) (by conv => lhs; simp [go_sem])
  have y27 : A.eval (.tmp 27) = _ := Eq.trans (hf 27) (by conv => lhs; simp [go_sem])
  have y28 : A.eval (.tmp 28) = _ := hf 28
  have y29 : A.eval (.tmp 29) = _ := hf 29
  have y30 : A.eval (.tmp 30) = _ := hf 30
  have y31 : A.eval (.tmp 31) = _ := hf 31
  have y32 : A.eval (.tmp 32) = _ := hf 32
  have y33 : A.eval (.tmp 33) = _ := hf 33
  have y34 : A.eval (.tmp 34) = _ := hf 34
  have y35 : A.eval (.tmp 35) = _ := hf 35
  have y36 : A.eval (.tmp 36) = _ := hf 36
  have y37 : A.eval (.tmp 37) = _ := hf 37
  have y38 : A.eval (.tmp 38) = _ := hf 38
  have y39 : A.eval (.tmp 39) = _ := hf 39
  have y40 : A.eval (.tmp 40) = _ := hf 40
  have y41 : A.eval (.tmp 41) = _ := hf 41
  have y42 : A.eval (.tmp 42) = _ := hf 42
  have y43 : A.eval (.tmp 43) = _ := hf 43
  have y44 : A.eval (.tmp 44) = _ := hf 44
  have y45 : A.eval (.tmp 45) = _ := hf 45
  have y46 : A.eval (.tmp 46) = _ := hf 46
  have y47 : A.eval (.tmp 47) = _ := hf 47
  have y48 : A.eval (.tmp 48) = _ := hf 48
  have y49 : A.eval (.tmp 49) = _ := hf 49
  have y50 : A.eval (.tmp 50) = _ := hf 50
  have y51 : A.eval (.tmp 51) = _ := hf 51
  have y52 : A.eval (.tmp 52) = _ := hf 52
  have y53 : A.eval (.tmp 53) = _ := hf 53
  have y54 : A.eval (.tmp 54) = _ := hf 54
  have y55 : A.eval (.tmp 55) = _ := hf 55
  clear hf
  have hA := frame_eq hn
  rw [show List.range 56 = [0, 1, 2, 3, 4, 5, 6, 7, 8, 9, 10, 11, 12, 13, 14, 15, 16, 17, 18, 19, 20, 21, 22, 23, 24, 25, 26, 27, 28, 29, 30, 31, 32, 33, 34, 35, 36, 37, 38, 39, 40, 41, 42, 43, 44, 45, 46, 47, 48, 49, 50, 51, 52, 53, 54, 55] from rfl, hd] at hA
  simp only [List.map_cons, List.map_nil, y0, y1, y2, y3, y4, y5, y6, y7, y8, y9, y10, y11, y12, y13, y14, y15, y16, y17, y18, y19, y20, y21, y22, y23, y24, y25, y26, y27, y28, y29, y30, y31, y32, y33, y34, y35, y36, y37, y38, y39, y40, y41, y42, y43, y44, y45, y46, y47, y48, y49, y50, y51, y52, y53, y54, y55] at hA
  clear y0 y1 y2 y3 y4 y5 y6 y7 y8 y9 y10 y11 y12 y13 y14 y15 y16 y17 y18 y19 y20 y21 y22 y23 y24 y25 y26 y27 y28 y29 y30 y31 y32 y33 y34 y35 y36 y37 y38 y39 y40 y41 y42 y43 y44 y45 y46 y47 y48 y49 y50 y51 y52 y53 y54 y55
  clear hn hd
  subst hA
  go_wp2_with fail
  go_ret
  exact ⟨rfl, HB.out.trans (hC.mono HB.out.size)⟩

set_option maxHeartbeats 16000000 in
theorem case_no (b0 : Int) (a0 : Option Addr) (cap0 : Nat) (z0 : List Ob) (w : World) (w0 : Os w (.slice a0 z0.length cap0) z0) (h60 : ¬ (60 : Int) < (z0.length : Int)) (hq : ¬ BtOk b0 z0) :
    Calls Try.prog 3 #[.agg #[.int .i64 b0, .slice a0 z0.length cap0]] w fun e w' => e = .returned (.bool true) ∧ Below w.heap.size w w' := by
  have hl : z0.length ≤ 60 := by omega
  have cP := fun W v h => pbytes_any b0 v z0 W h (by omega)
  have cB := fun W v h => bytes5_any b0 v z0 W h (by omega)
  have cK := fun W v h => pcheck_any b0 v z0 W h (by omega)
  have cT := fun W v h => right5_any b0 v z0 W h (by omega)
  rw [show btc b0 z0 = 1 from if_neg hq] at cP cB cK
  rw [decide_eq_false hq] at cT
  have HBY : Hid ((btBs b0 z0).length ≤ 512) := btBs_le' b0 z0
  generalize btBs b0 z0 = bs at *
  have OZ := Lib.hid (w0.alloc (.cells #[.int .i64 b0, .slice a0 z0.length cap0] 24))
  have KA := Lib.hid (own2_alloc w b0 (.slice a0 z0.length cap0) 24 w.heap.size rfl)
  have HB : Hid (Below w.heap.size w (w.alloc (.cells #[.int .i64 b0, .slice a0 z0.length cap0] 24))) := (Below.refl _ w).alloc (Nat.le_refl _) _
  clear w0 hq
  go_enter Try.func3, Try.ntmps3
  go_wp2_with fail
  obtain ⟨V1, hV1⟩ : ∃ V1, w.alloc (.cells #[.int .i64 b0, .slice a0 z0.length cap0] 24) = V1 := ⟨_, rfl⟩
  rw [hV1] at OZ KA HB
  simp only [hV1]
  clear hV1
  have kc : ∀ w', Below V1.heap.size V1 w' → w'.cell? ⟨w.heap.size, 0, none⟩ = some (.int .i64 b0) ∧ w'.cell? ⟨w.heap.size, 1, none⟩ = some (.slice a0 z0.length cap0) := fun w' h => (KA.out.below h).1
  refine T3.wp_region_tail (C := fun w' => Below V1.heap.size V1 w') (X := fun _ w w' => Below w.heap.size w w') (n := 56) 7 (by kernel_rfl) (by kernel_rfl) (by kernel_rfl) (by kernel_rfl) rfl (fun _ w => Below.refl _ w) (Below.refl _ _).drew ?_
  simp only [List.take_succ_cons, List.take_zero, List.drop_succ_cons, List.drop_zero]
  refine T3.w_is (fun _ w => Below.refl _ w) rfl _ (.inl rfl) (fun ρ w hC hc hfn hf => by have e1 : ρ (.tmp 1) = _ := hf 1 (by decide); (conv => lhs; simp [execOp, go_sem, hc, e1])) ?_
  refine T3.w_is (fun _ w => Below.refl _ w) rfl _ (.inl rfl) (fun ρ w hC hc hfn hf => by have e12 : ρ (.tmp 12) = _ := hf 12 (by decide); (conv => lhs; simp [execOp, go_sem, hc, e12, kc w hC])) ?_
  refine T3.w_is (fun _ w => Below.refl _ w) rfl _ (.inl rfl) (fun ρ w hC hc hfn hf => by have e1 : ρ (.tmp 1) = _ := hf 1 (by decide); (conv => lhs; simp [execOp, go_sem, hc, e1])) ?_
  refine T3.w_is (fun _ w => Below.refl _ w) rfl _ (.inl rfl) (fun ρ w hC hc hfn hf => by have e14 : ρ (.tmp 14) = _ := hf 14 (by decide); (conv => lhs; simp [execOp, go_sem, hc, e14, kc w hC])) ?_
  refine T3.w_call rfl (OwnS z0) (OwnS.keeps z0 4) 8 (.inl rfl) (fun ρ w hC hc hfn hf => by have e15 : ρ (.tmp 15) = _ := hf 15 (by decide); exact ⟨_, by (conv => lhs; simp [execOp, resolve, invoke, go_sem, hc, hfn, e15]), (own_any _ z0 w (OZ.out.below hC) (by omega)).mono fun e w' ⟨r, h1, h2, h3⟩ => ⟨r, h1, hC.trans (h3.mono hC.size), h3, owns_of h2⟩⟩) ?_
  refine T3.w_make rfl (OwnB b0 z0) (OwnB.keeps b0 z0 5) (.inl rfl) (fun ρ w hC hc hfn hf => by have e13 : ρ (.tmp 13) = _ := hf 13 (by decide); obtain ⟨a', c', e16, hos⟩ := (show OwnS z0 (ρ (.tmp 16)) w from hf 16 (by decide)); rw [e16] at hos; exact ⟨_, w, by (conv => lhs; simp [execOp, go_sem, hc, e13, e16]), hC, Below.refl _ _, ⟨a', c', rfl, hos⟩⟩) ?_
  refine T3.w_make rfl (NewB V1) (NewB.keeps V1 6) (.inl rfl) (fun ρ w hC hc hfn hf => by exact ⟨_, _, by (conv => lhs; simp [execOp, go_sem]), hC.alloc hC.size _, (Below.refl _ w).alloc (Nat.le_refl _) _, ⟨_, rfl, hC.size, own2_alloc w 0 _ 24 _ rfl, _, _, heap_alloc_new w _⟩⟩) ?_
  intro A V2 hC hn hd hf
  obtain ⟨ga, y3, hg1, KW, KT⟩ := (show NewB V1 (A.eval (.tmp 3)) V2 from hf 3)
  obtain ⟨a16, c16, y16, -⟩ := (show OwnS z0 (A.eval (.tmp 16)) V2 from hf 16)
  obtain ⟨oa, oc, y17, OO⟩ := (show OwnB b0 z0 (A.eval (.tmp 17)) V2 from hf 17)
  have y0 : A.eval (.tmp 0) = _ := Eq.trans (hf 0) (by conv => lhs; simp [go_sem])
  have y1 : A.eval (.tmp 1) = _ := Eq.trans (hf 1) (by conv => lhs; simp [go_sem])
  have y2 : A.eval (.tmp 2) = _ := Eq.trans (hf 2) (by conv => lhs; simp [go_sem])
  have y4 : A.eval (.tmp 4) = _ := Eq.trans (hf 4) (by conv => lhs; simp [go_sem])
  have y5 : A.eval (.tmp 5) = _ := Eq.trans (hf 5) (by conv => lhs; simp [go_sem])
  have y6 : A.eval (.tmp 6) = _ := Eq.trans (hf 6) (by conv => lhs; simp [go_sem])
  have y7 : A.eval (.tmp 7) = _ := Eq.trans (hf 7) (by conv => lhs; simp [go_sem])
  have y8 : A.eval (.tmp 8) = _ := Eq.trans (hf 8) (by conv => lhs; simp [go_sem])
  have y9 : A.eval (.tmp 9) = _ := Eq.trans (hf 9) (by conv => lhs; simp [go_sem])
  have y10 : A.eval (.tmp 10) = _ := Eq.trans (hf 10) (by conv => lhs; simp [go_sem])
  have y11 : A.eval (.tmp 11) = _ := Eq.trans (hf 11) (by conv => lhs; simp [go_sem])
  have y12 : A.eval (.tmp 12) = _ := hf 12
  have y13 : A.eval (.tmp 13) = _ := hf 13
  have y14 : A.eval (.tmp 14) = _ := hf 14
  have y15 : A.eval (.tmp 15) = _ := hf 15
  have y18 : A.eval (.tmp 18) = _ := Eq.trans (hf 18) (by conv => lhs; simp [go_sem])
  have y19 : A.eval (.tmp 19) = _ := Eq.trans (hf 19) (by conv => lhs; simp [go_sem])
  have y20 : A.eval (.tmp 20) = _ := Eq.trans (hf 20) (by conv => lhs; simp [go_sem])
  have y21 : A.eval (.tmp 21) = _ := Eq.trans (hf 21) (by conv => lhs; simp [go_sem])
  have y22 : A.eval (.tmp 22) = _ := Eq.trans (hf 22) (by conv => lhs; simp [go_sem])
  have y23 : A.eval (.tmp 23) = _ := Eq.trans (hf 23) (by conv => lhs; simp [go_sem])
  have y24 : A.eval (.tmp 24) = _ := Eq.trans (hf 24) (by conv => lhs; simp [go_sem])
  have y25 : A.eval (.tmp 25) = _ := Eq.trans (hf 25) (by conv => lhs; simp [go_sem])
  have y26 : A.eval (.tmp 26) = _ := Eq.trans (hf 26) (by conv => lhs; simp [go_sem])
  have y27 : A.eval (.tmp 27) = _ := Eq.trans (hf 27) (by conv => lhs; simp [go_sem])
  have y28 : A.eval (.tmp 28) = _ := Eq.trans (hf 28) (by conv => lhs; simp [go_sem])
  have y29 : A.eval (.tmp 29) = _ := Eq.trans (hf 29) (by conv => lhs; simp [go_sem])
  have y30 : A.eval (.tmp 30) = _ := Eq.trans (hf 30) (by conv => lhs; simp [go_sem])
  have y31 : A.eval (.tmp 31) = _ := Eq.trans (hf 31) (by conv => lhs; simp [go_sem])
  have y32 : A.eval (.tmp 32) = _ := Eq.trans (hf 32) (by conv => lhs; simp [go_sem])
  have y33 : A.eval (.tmp 33) = _ := Eq.trans (hf 33) (by conv => lhs; simp [go_sem])
  have y34 : A.eval (.tmp 34) = _ := Eq.trans (hf 34) (by conv => lhs; simp [go_sem])
  have y35 : A.eval (.tmp 35) = _ := Eq.trans (hf 35) (by conv => lhs; simp [go_sem])
  have y36 : A.eval (.tmp 36) = _ := Eq.trans (hf 36) (by conv => lhs; simp [go_sem])
  have y37 : A.eval (.tmp 37) = _ := Eq.trans (hf 37) (by conv => lhs; simp [go_sem])
  have y38 : A.eval (.tmp 38) = _ := Eq.trans (hf 38) (by conv => lhs; simp [go_sem])
  have y39 : A.eval (.tmp 39) = _ := Eq.trans (hf 39) (by conv => lhs; simp [go_sem])
  have y40 : A.eval (.tmp 40) = _ := Eq.trans (hf 40) (by conv => lhs; simp [go_sem])
  have y41 : A.eval (.tmp 41) = _ := Eq.trans (hf 41) (by conv => lhs; simp [go_sem])
  have y42 : A.eval (.tmp 42) = _ := Eq.trans (hf 42) (by conv => lhs; simp [go_sem])
  have y43 : A.eval (.tmp 43) = _ := Eq.trans (hf 43) (by conv => lhs; simp [go_sem])
  have y44 : A.eval (.tmp 44) = _ := Eq.trans (hf 44) (by conv => lhs; simp [go_sem])
  have y45 : A.eval (.tmp 45) = _ := Eq.trans (hf 45) (by conv => lhs; simp [go_sem])
  have y46 : A.eval (.tmp 46) = _ := Eq.trans (hf 46) (by conv => lhs; simp [go_sem])
  have y47 : A.eval (.tmp 47) = _ := Eq.trans (hf 47) (by conv => lhs; simp [go_sem])
  have y48 : A.eval (.tmp 48) = _ := Eq.trans (hf 48) (by conv => lhs; simp [go_sem])
  have y49 : A.eval (.tmp 49) = _ := Eq.trans (hf 49) (by conv => lhs; simp [go_sem])
  have y50 : A.eval (.tmp 50) = _ := Eq.trans (hf 50) (by conv => lhs; simp [go_sem])
  have y51 : A.eval (.tmp 51) = _ := Eq.trans (hf 51) (by conv => lhs; simp [go_sem])
  have y52 : A.eval (.tmp 52) = _ := Eq.trans (hf 52) (by conv => lhs; simp [go_sem])
  have y53 : A.eval (.tmp 53) = _ := Eq.trans (hf 53) (by conv => lhs; simp [go_sem])
  have y54 : A.eval (.tmp 54) = _ := Eq.trans (hf 54) (by conv => lhs; simp [go_sem])
  have y55 : A.eval (.tmp 55) = _ := Eq.trans (hf 55) (by conv => lhs; simp [go_sem])
  clear hf
  have hA := frame_eq hn
  rw [show List.range 56 = [0, 1, 2, 3, 4, 5, 6, 7, 8, 9, 10, 11, 12, 13, 14, 15, 16, 17, 18, 19, 20, 21, 22, 23, 24, 25, 26, 27, 28, 29, 30, 31, 32, 33, 34, 35, 36, 37, 38, 39, 40, 41, 42, 43, 44, 45, 46, 47, 48, 49, 50, 51, 52, 53, 54, 55] from rfl, hd] at hA
  simp only [List.map_cons, List.map_nil, y0, y1, y2, y3, y4, y5, y6, y7, y8, y9, y10, y11, y12, y13, y14, y15, y16, y17, y18, y19, y20, y21, y22, y23, y24, y25, y26, y27, y28, y29, y30, y31, y32, y33, y34, y35, y36, y37, y38, y39, y40, y41, y42, y43, y44, y45, y46, y47, y48, y49, y50, y51, y52, y53, y54, y55] at hA
  clear y0 y1 y2 y3 y4 y5 y6 y7 y8 y9 y10 y11 y12 y13 y14 y15 y16 y17 y18 y19 y20 y21 y22 y23 y24 y25 y26 y27 y28 y29 y30 y31 y32 y33 y34 y35 y36 y37 y38 y39 y40 y41 y42 y43 y44 y45 y46 y47 y48 y49 y50 y51 y52 y53 y54 y55
  clear hn hd
  subst hA
  clear kc
  have HG : Hid (w.heap.size < V1.heap.size) := KA.out.lt
  have ho : Onl ga V2 ((V2.setCell ⟨ga, 0, none⟩ (.int .i64 b0)).setCell ⟨ga, 1, none⟩ (.slice oa z0.length oc)) := ((Onl.refl _ V2).set 0 _).set 1 _
  have KO := Lib.hid (KW.set b0 (.slice oa z0.length oc))
  replace KA := Lib.hid ((KA.out.below hC).onl ho (by have := HG.out; omega))
  have hb3 : Below V1.heap.size V1 ((V2.setCell ⟨ga, 0, none⟩ (.int .i64 b0)).setCell ⟨ga, 1, none⟩ (.slice oa z0.length oc)) := hC.trans (ho.below hg1 hC.size)
  replace OZ := Lib.hid (OZ.out.below hb3)
  obtain ⟨SO, onw⟩ := OO
  have OO2 := Lib.hid (Os_of_own (own_onlT onw ho KT)).1
  replace HB := Lib.hid (HB.out.trans (hb3.mono HB.out.size))
  obtain ⟨⟨u0, u1⟩, uf⟩ := KW
  clear hC hb3 onw KT
  go_wp2_with fail
  obtain ⟨V3, hV3⟩ : ∃ V3, (V2.setCell ⟨ga, 0, none⟩ (.int .i64 b0)).setCell ⟨ga, 1, none⟩ (.slice oa z0.length oc) = V3 := ⟨_, rfl⟩
  rw [hV3] at KO KA OZ OO2 HB ho
  simp only [hV3]
  clear hV3 ho u0 u1 uf
  refine (cP _ _ OO2.out).mono ?_
  rintro e V4 ⟨r4, rfl, hr, hb⟩
  obtain ⟨c4, p4, rfl⟩ := Bs_len hr
  have RA := Lib.hid hr
  replace KO := Lib.hid (KO.out.below hb)
  replace KA := Lib.hid (KA.out.below hb)
  replace OZ := Lib.hid (OZ.out.below hb)
  replace OO2 := Lib.hid (OO2.out.below hb)
  replace HB := Lib.hid (HB.out.trans (hb.mono HB.out.size))
  clear hr hb
  obtain ⟨q0, q1⟩ := KA.out.1
  go_wp2_with fail
  refine (cB _ _ OZ.out).mono ?_
  rintro e V5 ⟨r5, rfl, hr, hb⟩
  obtain ⟨c5, p5, rfl⟩ := Bs_len hr
  have RB := Lib.hid hr
  replace RA := Lib.hid (Bs_below RA.out hb)
  replace KO := Lib.hid (KO.out.below hb)
  replace KA := Lib.hid (KA.out.below hb)
  replace OZ := Lib.hid (OZ.out.below hb)
  replace OO2 := Lib.hid (OO2.out.below hb)
  replace HB := Lib.hid (HB.out.trans (hb.mono HB.out.size))
  clear hr hb q0 q1 cP cB
  have kc : ∀ w', Below V5.heap.size V5 w' → (w'.cell? ⟨w.heap.size, 0, none⟩ = some (.int .i64 b0) ∧ w'.cell? ⟨w.heap.size, 1, none⟩ = some (.slice a0 z0.length cap0)) ∧ w'.cell? ⟨ga, 0, none⟩ = some (.int .i64 b0) ∧ w'.cell? ⟨ga, 1, none⟩ = some (.slice oa z0.length oc) := fun w' h => ⟨(KA.out.below h).1, (KO.out.below h).1⟩
  have hcv1 : ∀ w', Below V5.heap.size V5 w' → (convert 26 9 (.slice c4 bs.length p4)).run Try.prog w' = .ok (.string (strOfNums bs)) w' := fun w' h => Bs_conv (Bs_below RA.out h)
  have hcv2 : ∀ w', Below V5.heap.size V5 w' → (convert 26 9 (.slice c5 bs.length p5)).run Try.prog w' = .ok (.string (strOfNums bs)) w' := fun w' h => Bs_conv (Bs_below RB.out h)
  have cC : ∀ w', Below V5.heap.size V5 w' → Calls Try.prog 12 #[.agg #[.int .i64 b0, .slice oa z0.length oc]] w' fun e w'' => e = .returned (.int .i64 1) ∧ Below w'.heap.size w' w'' := fun w' h => cK w' _ (OO2.out.below h)
  have cR : ∀ w', Below V5.heap.size V5 w' → Calls Try.prog 13 #[.agg #[.int .i64 b0, .slice a0 z0.length cap0]] w' fun e w'' => e = .returned (.bool false) ∧ Below w'.heap.size w' w'' := fun w' h => cT w' _ (OZ.out.below h)
  have cS : ∀ w', Below V5.heap.size V5 w' → Calls Try.prog 14 #[.slice oa z0.length oc, .slice a0 z0.length cap0] w' fun e w'' => e = .returned (.bool true) ∧ Below w'.heap.size w' w'' := fun w' h => same_true _ _ z0 w' (OO2.out.below h) (OZ.out.below h) (by omega)
  go_wp2_with fail
  refine wp_region_typed (C := fun w' => Below V5.heap.size V5 w') (X := fun w w' => Below w.heap.size w w') (n := 56) (by kernel_rfl) (by kernel_rfl) rfl (fun w => Below.refl _ w) (Below.refl _ _).drew ?_
  refine w_call (Is _) (fun _ _ _ h _ => h) 11 (.inl rfl) (fun ρ w hC hc hfn hf => by exact ⟨_, by (conv => lhs; simp [execOp, resolve, invoke, go_sem, hc, hfn]), tc_below hC (bawake_any w)⟩) ?_
  refine w_is (fun w => Below.refl _ w) _ (.inl rfl) (fun ρ w hC hc hfn hf => by have e28 : ρ (.tmp 28) = _ := hf 28 (by decide); (conv => lhs; simp [execOp, go_sem, hc, e28])) ?_
  refine w_is (fun w => Below.refl _ w) _ (.inr ⟨1, 29, true, rfl, rfl, known_is rfl⟩) (fun ρ w hC hc hfn hf => by have e3 : ρ (.tmp 3) = _ := hf 3 (by decide); (conv => lhs; simp [execOp, go_sem, hc, e3, kc w hC])) ?_
  refine w_call (Is _) (fun _ _ _ h _ => h) 12 (.inr ⟨1, 29, true, rfl, rfl, known_is rfl⟩) (fun ρ w hC hc hfn hf => by have e30 : ρ (.tmp 30) = _ := hf 30 (by decide); exact ⟨_, by (conv => lhs; simp [execOp, resolve, invoke, go_sem, hc, hfn, e30]), tc_below hC (cC w hC)⟩) ?_
  refine w_is (fun w => Below.refl _ w) _ (.inr ⟨1, 29, true, rfl, rfl, known_is rfl⟩) (fun ρ w hC hc hfn hf => by have e31 : ρ (.tmp 31) = _ := hf 31 (by decide); (conv => lhs; simp [execOp, go_sem, hc, e31])) ?_
  refine w_is (fun w => Below.refl _ w) _ (.inr ⟨1, 29, true, rfl, rfl, known_is rfl⟩) (fun ρ w hC hc hfn hf => by have e1 : ρ (.tmp 1) = _ := hf 1 (by decide); (conv => lhs; simp [execOp, go_sem, hc, e1, kc w hC])) ?_
  refine w_call (Is _) (fun _ _ _ h _ => h) 13 (.inr ⟨1, 29, true, rfl, rfl, known_is rfl⟩) (fun ρ w hC hc hfn hf => by have e33 : ρ (.tmp 33) = _ := hf 33 (by decide); exact ⟨_, by (conv => lhs; simp [execOp, resolve, invoke, go_sem, hc, hfn, e33]), tc_below hC (cR w hC)⟩) ?_
  refine w_is (fun w => Below.refl _ w) _ (.inr ⟨1, 29, true, rfl, rfl, known_is rfl⟩) (fun ρ w hC hc hfn hf => by have e32 : ρ (.tmp 32) = _ := hf 32 (by decide); have e34 : ρ (.tmp 34) = _ := hf 34 (by decide); (conv => lhs; simp [execOp, go_sem, hc, e32, e34])) ?_
  refine w_is (fun w => Below.refl _ w) _ (.inl rfl) (fun ρ w hC hc hfn hf => by have e29 : ρ (.tmp 29) = _ := hf 29 (by decide); have e35 : ρ (.tmp 35) = _ := hf 35 (by decide); (conv => lhs; simp [execOp, go_sem, hc, e29, e35])) ?_
  refine w_is (fun w => Below.refl _ w) _ (.inl rfl) (fun ρ w hC hc hfn hf => by have e36 : ρ (.tmp 36) = _ := hf 36 (by decide); (conv => lhs; simp [execOp, go_sem, hc, e36])) ?_
  refine w_is (fun w => Below.refl _ w) _ (.inr ⟨9, 37, true, rfl, rfl, known_is rfl⟩) (fun ρ w hC hc hfn hf => by have e4 : ρ (.tmp 4) = _ := hf 4 (by decide); (conv => lhs; simp [execOp, go_sem, hc, e4])) ?_
  refine w_is (fun w => Below.refl _ w) _ (.inr ⟨9, 37, true, rfl, rfl, known_is rfl⟩) (fun ρ w hC hc hfn hf => by have e38 : ρ (.tmp 38) = _ := hf 38 (by decide); (conv => lhs; simp [execOp, go_sem, hc, e38, hcv1 w hC])) ?_
  refine w_is (fun w => Below.refl _ w) _ (.inr ⟨9, 37, true, rfl, rfl, known_is rfl⟩) (fun ρ w hC hc hfn hf => by have e6 : ρ (.tmp 6) = _ := hf 6 (by decide); (conv => lhs; simp [execOp, go_sem, hc, e6])) ?_
  refine w_is (fun w => Below.refl _ w) _ (.inr ⟨9, 37, true, rfl, rfl, known_is rfl⟩) (fun ρ w hC hc hfn hf => by have e40 : ρ (.tmp 40) = _ := hf 40 (by decide); (conv => lhs; simp [execOp, go_sem, hc, e40, hcv2 w hC])) ?_
  refine w_is (fun w => Below.refl _ w) _ (.inr ⟨9, 37, true, rfl, rfl, known_is rfl⟩) (fun ρ w hC hc hfn hf => by have e39 : ρ (.tmp 39) = _ := hf 39 (by decide); have e41 : ρ (.tmp 41) = _ := hf 41 (by decide); (conv => lhs; simp [execOp, go_sem, hc, e39, e41])) ?_
  refine w_is (fun w => Below.refl _ w) _ (.inl rfl) (fun ρ w hC hc hfn hf => by have e37 : ρ (.tmp 37) = _ := hf 37 (by decide); have e42 : ρ (.tmp 42) = _ := hf 42 (by decide); (conv => lhs; simp [execOp, go_sem, hc, e37, e42])) ?_
  refine w_is (fun w => Below.refl _ w) _ (.inl rfl) (fun ρ w hC hc hfn hf => by have e43 : ρ (.tmp 43) = _ := hf 43 (by decide); (conv => lhs; simp [execOp, go_sem, hc, e43])) ?_
  refine w_is (fun w => Below.refl _ w) _ (.inr ⟨16, 44, true, rfl, rfl, known_is rfl⟩) (fun ρ w hC hc hfn hf => by have e5 : ρ (.tmp 5) = _ := hf 5 (by decide); (conv => lhs; simp [execOp, go_sem, hc, e5])) ?_
  refine w_is (fun w => Below.refl _ w) _ (.inr ⟨16, 44, true, rfl, rfl, known_is rfl⟩) (fun ρ w hC hc hfn hf => by have e7 : ρ (.tmp 7) = _ := hf 7 (by decide); (conv => lhs; simp [execOp, go_sem, hc, e7])) ?_
  refine w_is (fun w => Below.refl _ w) _ (.inr ⟨16, 44, true, rfl, rfl, known_is rfl⟩) (fun ρ w hC hc hfn hf => by have e45 : ρ (.tmp 45) = _ := hf 45 (by decide); have e46 : ρ (.tmp 46) = _ := hf 46 (by decide); (conv => lhs; simp [execOp, go_sem, hc, e45, e46])) ?_
  refine w_is (fun w => Below.refl _ w) _ (.inl rfl) (fun ρ w hC hc hfn hf => by have e44 : ρ (.tmp 44) = _ := hf 44 (by decide); have e47 : ρ (.tmp 47) = _ := hf 47 (by decide); (conv => lhs; simp [execOp, go_sem, hc, e44, e47])) ?_
  refine w_is (fun w => Below.refl _ w) _ (.inl rfl) (fun ρ w hC hc hfn hf => by have e48 : ρ (.tmp 48) = _ := hf 48 (by decide); (conv => lhs; simp [execOp, go_sem, hc, e48])) ?_
  refine w_is (fun w => Below.refl _ w) _ (.inr ⟨21, 49, true, rfl, rfl, known_is rfl⟩) (fun ρ w hC hc hfn hf => by have e3 : ρ (.tmp 3) = _ := hf 3 (by decide); (conv => lhs; simp [execOp, go_sem, hc, e3])) ?_
  refine w_is (fun w => Below.refl _ w) _ (.inr ⟨21, 49, true, rfl, rfl, known_is rfl⟩) (fun ρ w hC hc hfn hf => by have e50 : ρ (.tmp 50) = _ := hf 50 (by decide); (conv => lhs; simp [execOp, go_sem, hc, e50, kc w hC])) ?_
  refine w_is (fun w => Below.refl _ w) _ (.inr ⟨21, 49, true, rfl, rfl, known_is rfl⟩) (fun ρ w hC hc hfn hf => by have e1 : ρ (.tmp 1) = _ := hf 1 (by decide); (conv => lhs; simp [execOp, go_sem, hc, e1])) ?_
  refine w_is (fun w => Below.refl _ w) _ (.inr ⟨21, 49, true, rfl, rfl, known_is rfl⟩) (fun ρ w hC hc hfn hf => by have e52 : ρ (.tmp 52) = _ := hf 52 (by decide); (conv => lhs; simp [execOp, go_sem, hc, e52, kc w hC])) ?_
  refine w_call (Is _) (fun _ _ _ h _ => h) 14 (.inr ⟨21, 49, true, rfl, rfl, known_is rfl⟩) (fun ρ w hC hc hfn hf => by have e51 : ρ (.tmp 51) = _ := hf 51 (by decide); have e53 : ρ (.tmp 53) = _ := hf 53 (by decide); exact ⟨_, by (conv => lhs; simp [execOp, resolve, invoke, go_sem, hc, hfn, e51, e53]), tc_below hC (cS w hC)⟩) ?_
  refine w_is (fun w => Below.refl _ w) _ (.inl rfl) (fun ρ w hC hc hfn hf => by have e49 : ρ (.tmp 49) = _ := hf 49 (by decide); have e54 : ρ (.tmp 54) = _ := hf 54 (by decide); (conv => lhs; simp [execOp, go_sem, hc, e49, e54])) ?_
  refine w_is (fun w => Below.refl _ w) _ (.inl rfl) (fun ρ w hC hc hfn hf => by have e55 : ρ (.tmp 55) = _ := hf 55 (by decide); (conv => lhs; simp [execOp, go_sem, hc, e55])) ?_
  intro A V6 hC hn hd hf
  have y0 : A.eval (.tmp 0) = _ := Eq.trans (hf 0) (by conv => lhs; simp [go_sem])
  have y1 : A.eval (.tmp 1) = _ := Eq.trans (hf 1) (by conv => lhs; simp [go_sem])
  have y2 : A.eval (.tmp 2) = _ := hf 2
  have y3 : A.eval (.tmp 3) = _ := Eq.trans (hf 3) (by conv => lhs; simp [go_sem])
  have y4 : A.eval (.tmp 4) = _ := Eq.trans (hf 4) (by conv => lhs; simp [go_sem])
  have y5 : A.eval (.tmp 5) = _ := Eq.trans (hf 5) (by conv => lhs; simp [go_sem])
  have y6 : A.eval (.tmp 6) = _ := Eq.trans (hf 6) (by conv => lhs; simp [go_sem])
  have y7 : A.eval (.tmp 7) = _ := Eq.trans (hf 7) (by conv => lhs; simp [go_sem])
  have y8 : A.eval (.tmp 8) = _ := Eq.trans (hf 8) (by conv => lhs; simp [go_sem])
  have y9 : A.eval (.tmp 9) = _ := Eq.trans (hf 9) (by conv => lhs; simp [go_sem])
  have y10 : A.eval (.tmp 10) = _ := Eq.trans (hf 10) (by conv => lhs; simp [go_sem])
  have y11 : A.eval (.tmp 11) = _ := Eq.trans (hf 11) (by conv => lhs; simp [go_sem])
  have y12 : A.eval (.tmp 12) = _ := Eq.trans (hf 12) (by conv => lhs; simp [go_sem])
  have y13 : A.eval (.tmp 13) = _ := Eq.trans (hf 13) (by conv => lhs; simp [go_sem])
  have y14 : A.eval (.tmp 14) = _ := Eq.trans (hf 14) (by conv => lhs; simp [go_sem])
  have y15 : A.eval (.tmp 15) = _ := Eq.trans (hf 15) (by conv => lhs; simp [go_sem])
  have y16 : A.eval (.tmp 16) = _ := Eq.trans (hf 16) (by conv => lhs; simp [go_sem])
  have y17 : A.eval (.tmp 17) = _ := Eq.trans (hf 17) (by conv => lhs; simp [go_sem])
  have y18 : A.eval (.tmp 18) = _ := Eq.trans (hf 18) (by conv => lhs; simp [go_sem])
  have y19 : A.eval (.tmp 19) = _ := Eq.trans (hf 19) (by conv => lhs; simp [go_sem])
  have y20 : A.eval (.tmp 20) = _ := Eq.trans (hf 20) (by conv => lhs; simp [go_sem])
  have y21 : A.eval (.tmp 21) = _ := Eq.trans (hf 21) (by conv => lhs; simp [go_sem])
  have y22 : A.eval (.tmp 22) = _ := Eq.trans (hf 22) (by conv => lhs; simp [go_sem])
  have y23 : A.eval (.tmp 23) = _ := Eq.trans (hf 23) (by conv => lhs; simp [go_sem])
  have y24 : A.eval (.tmp 24) = _ := Eq.trans (hf 24) (by conv => lhs; simp [go_sem])
  have y25 : A.eval (.tmp 25) = _ := Eq.trans (hf 25) (by conv => lhs; simp [go_sem])
  have y26 : A.eval (.tmp 26) = _ := Eq.trans (hf 26) (by conv => lhs; simp [go_sem])
  have y27 : A.eval (.tmp 27) = _ := Eq.trans (hf 27) (by conv => lhs; simp [go_sem])
  have y28 : A.eval (.tmp 28) = _ := hf 28
  have y29 : A.eval (.tmp 29) = _ := hf 29
  have y30 : A.eval (.tmp 30) = _ := hf 30
  have y31 : A.eval (.tmp 31) = _ := hf 31
  have y32 : A.eval (.tmp 32) = _ := hf 32
  have y33 : A.eval (.tmp 33) = _ := hf 33
  have y34 : A.eval (.tmp 34) = _ := hf 34
  have y35 : A.eval (.tmp 35) = _ := hf 35
  have y36 : A.eval (.tmp 36) = _ := hf 36
  have y37 : A.eval (.tmp 37) = _ := hf 37
  have y38 : A.eval (.tmp 38) = _ := hf 38
  have y39 : A.eval (.tmp 39) = _ := hf 39
  have y40 : A.eval (.tmp 40) = _ := hf 40
  have y41 : A.eval (.tmp 41) = _ := hf 41
  have y42 : A.eval (.tmp 42) = _ := hf 42
  have y43 : A.eval (.tmp 43) = _ := hf 43
  have y44 : A.eval (.tmp 44) = _ := hf 44
  have y45 : A.eval (.tmp 45) = _ := hf 45
  have y46 : A.eval (.tmp 46) = _ := hf 46
  have y47 : A.eval (.tmp 47) = _ := hf 47
  have y48 : A.eval (.tmp 48) = _ := hf 48
  have y49 : A.eval (.tmp 49) = _ := hf 49
  have y50 : A.eval (.tmp 50) = _ := hf 50
  have y51 : A.eval (.tmp 51) = _ := hf 51
  have y52 : A.eval (.tmp 52) = _ := hf 52
  have y53 : A.eval (.tmp 53) = _ := hf 53
  have y54 : A.eval (.tmp 54) = _ := hf 54
  have y55 : A.eval (.tmp 55) = _ := hf 55
  clear hf
  have hA := frame_eq hn
  rw [show List.range 56 = [0, 1, 2, 3, 4, 5, 6, 7, 8, 9, 10, 11, 12, 13, 14, 15, 16, 17, 18, 19, 20, 21, 22, 23, 24, 25, 26, 27, 28, 29, 30, 31, 32, 33, 34, 35, 36, 37, 38, 39, 40, 41, 42, 43, 44, 45, 46, 47, 48, 49, 50, 51, 52, 53, 54, 55] from rfl, hd] at hA
  simp only [List.map_cons, List.map_nil, y0, y1, y2, y3, y4, y5, y6, y7, y8, y9, y10, y11, y12, y13, y14, y15, y16, y17, y18, y19, y20, y21, y22, y23, y24, y25, y26, y27, y28, y29, y30, y31, y32, y33, y34, y35, y36, y37, y38, y39, y40, y41, y42, y43, y44, y45, y46, y47, y48, y49, y50, y51, y52, y53, y54, y55] at hA
  clear y0 y1 y2 y3 y4 y5 y6 y7 y8 y9 y10 y11 y12 y13 y14 y15 y16 y17 y18 y19 y20 y21 y22 y23 y24 y25 y26 y27 y28 y29 y30 y31 y32 y33 y34 y35 y36 y37 y38 y39 y40 y41 y42 y43 y44 y45 y46 y47 y48 y49 y50 y51 y52 y53 y54 y55
  clear hn hd
  subst hA
  go_wp2_with fail
  go_ret
  exact ⟨rfl, HB.out.trans (hC.mono HB.out.size)⟩

theorem walk (b0 : Int) (a0 : Option Addr) (cap0 : Nat) (z0 : List Ob) (w : World) (w0 : Os w (.slice a0 z0.length cap0) z0) :
    Calls Try.prog 3 #[.agg #[.int .i64 b0, .slice a0 z0.length cap0]] w fun e w' => e = .returned (.bool true) ∧ Below w.heap.size w w' := by
  by_cases h60 : (60 : Int) < (z0.length : Int)
  · exact early b0 a0 cap0 z0 w h60
  · by_cases hq : BtOk b0 z0
    · exact case_ok b0 a0 cap0 z0 w w0 h60 hq
    · exact case_no b0 a0 cap0 z0 w w0 h60 hq

set_option maxRecDepth 100000 in
theorem lifted (os : _root_.Go.Os) (started : os.Started) (H : Type) (enc : TypeId × Value → H) :
    ReturnsInHanded {} Try.checked os 3 .any (Rows.batchDoesSpec.pre6 enc Try.prog Try.f3 Rows.batchDoesRow.domain false) (Rows.batchDoesSpec.post enc Try.prog Try.f3 false true false false) := by
  refine returnsInHanded_of_change (C := Try.checked) own started (by kernel_rfl) Try.func3
    (ChangeSpec.witness6 (enc := enc) (C := Try.checked) false ⟨#[], #[.agg #[.int .i64 0, .slice none 0 0]], []⟩ 16 (by kernel_rfl) (by kernel_rfl) (by kernel_rfl) (by kernel_rfl)) ?_
  intro W base args ds gs before hval0 hW hcnd _
  have hval : ∀ (j : Nat) t v, Try.f3.params[j]? = some t → args[j]? = some v → Value.okWide Try.prog W .any base t v := hval0
  have hW' := hW
  obtain ⟨p, q, hA0, hV, rfl, hfz, hnd⟩ := hW
  have hA : DataW.TrodAll enc Try.prog W 0 (fun _ => true) true Try.f3.params.toList args.toList ds p := hA0
  rw [Try.params3] at hA hval
  obtain ⟨v0, vs0, e0, ds0, p0, q0, hargs, rfl, rfl, h0, x0⟩ := trodAll_cons hA
  obtain ⟨rfl, rfl, rfl⟩ := trodAll_nil x0
  obtain rfl : args = #[v0] := by cases args; simp_all
  obtain ⟨rfl, rfl⟩ := trodVars_none hV
  have k0 := h0
  have lt0 : ∀ x ∈ p0, x.block < W.heap.size := by obtain ⟨m, hm⟩ := k0; exact DataW.trod_lt m _ _ _ hm
  obtain ⟨b0, a0, cap0, z0, rfl, _, w0⟩ := bat_form (hval 0 24 _ rfl rfl) h0
  clear hA0 hval0
  refine (walk b0 a0 cap0 z0 W w0).mono fun e W' ⟨he, bel⟩ => ?_
  subst he
  exact ⟨_, rfl, _, _, _, [], _, [], hW', trodAll_mk1 (shut_bool Try.underlying4 _), (trodAll_cons_mk (Below.trod laidOut (by kernel_rfl) (of_decide_eq_true (by kernel_rfl)) k0 bel lt0) trodAll_mk0), rfl, bel.frame _, fun h => by cases h⟩

theorem over : Rows.batchDoesRow.holds Try.pinned (OpenSpec.ofChange Rows.batchDoesSpec) :=
  OpenClaim.holds_of_wide 3 Try.f3 rfl rfl rfl rfl rfl rfl rfl ⟨rfl, rfl, rfl, rfl, rfl⟩ rfl rfl rfl rfl rfl (by kernel_rfl) Try.func3 (by kernel_rfl)
    (of_decide_eq_true (by kernel_rfl)) (by unfold Func.isWrapper; first | (rw [if_pos (by decide +kernel)]; kernel_rfl) | (rw [if_neg (by decide +kernel)]; exact ⟨rfl, rfl⟩))
    (fun os started H enc _ => lifted os started H enc)

theorem proved : Rows.BatchDoesSaid := over
#print axioms proved
end Go.Proofs.Ytfdjaodnmjkpcaa.batchDoes
