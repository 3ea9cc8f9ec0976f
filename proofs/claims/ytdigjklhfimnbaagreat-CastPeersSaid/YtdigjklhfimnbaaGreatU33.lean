/- Texts Pq13 of this proof, in one. No conditions but on lengths. -/
import Derived.Test.YtdigjklhfimnbaaGreatU51
import Derived.Test.YtdigjklhfimnbaaGreatRows
import Derived.Test.YtdigjklhfimnbaaGreatU27
import Derived.Test.YtdigjklhfimnbaaGreatU29
import Derived.Test.YtdigjklhfimnbaaGreatU31
import Derived.ArgAppend
import Derived.Below
import Derived.BigQuiet
import Derived.Calls
import Derived.ChangeArms
import Derived.ChangeMade
import Derived.ChangeOld
import Derived.Deep.Cut
import Derived.Deep.CutBlock
import Derived.Deep.LoopGhost
import Derived.Deep.QuietTactic
import Derived.Deep.RegionHeld
import Derived.Deep.RegionLaw
import Derived.Deep.RegionWith
import Derived.Deep.Slices
import Derived.Laws.AppendOwnNone
import Derived.Laws.BitsLemmas
import Derived.Laws.BytesArg
import Derived.Laws.LoneSync
import Derived.Laws.OwnMore
import Derived.Laws.StructEq
import Derived.Lib.Hide
import Derived.Lib.QuietBelow
import Derived.Lib.SliceRun
import Derived.LoopIn
import Derived.LoopTactic
import Derived.Maps.AppendAt
import Derived.OpenShut
import Derived.Orders
import Derived.Outline
import Derived.OwnWalkIn
import Derived.ProofKit
import Derived.RangeFuncBox
import Derived.RangeFuncCalls
import Derived.RangeFuncLeaves
import Derived.RangeFuncNested
import Derived.Shelf.RegionOpen
import Derived.Shelf.RegionOpenPlain
import Derived.ShutString
import Derived.StillTail
import Derived.TacticsInMore
import Derived.WalkKit
import Derived.WalkLawsBesides
import Derived.WalkSpells
import Derived.WideShapes
namespace Go.Proofs.YtdigjklhfimnbaaGreat
set_option maxRecDepth 100000
set_option linter.unusedVariables false
open Go.RowKit

theorem RowB.mono0 {w : World} {S S' : Nat} {v : Value} {bs : List Bt} (h : RowB w S v bs) (hS : S' ≤ S) : RowB w S' v bs := by
  obtain ⟨vs, k1, k2, k3⟩ := h
  exact ⟨vs, k1, gown_mono k2 hS, fun i hi => ⟨(k3 i hi).1, gown_mono (k3 i hi).2 hS⟩⟩
theorem ppack2 (v : Value) (ys : List Ob) (first : Int) (w : World) (hy : Os w v ys) (hok : AllOk ys) (hl : ys.length ≤ 1024) :
    Calls Tryz.prog 79 #[v, .int .i64 first, .int .i64 512] w fun e w' => ∃ a c, e = .returned (.tuple #[.slice a (packL 512 ys first).length c, .int .i64 0]) ∧ RowB w' w.heap.size (.slice a (packL 512 ys first).length c) (packL 512 ys first) ∧ Below w.heap.size w w' := by
  have hE : packE ys 512 = 0 := by unfold packE; rw [if_pos ⟨by decide, by decide, hok⟩, if_neg (by omega)]
  have hB : packB ys first 512 = packL 512 ys first := by unfold packB; rw [if_pos hE]
  refine (ppack_any v ys first 512 w hy (by omega)).mono ?_
  rintro e w' ⟨r, rfl, h1, h2⟩
  rw [hB] at h1
  rw [hE]
  obtain ⟨a, c, rfl⟩ := h1.form'
  exact ⟨a, c, rfl, h1, h2⟩
def NewPk (V : World) (l : List Bt) : Ty := fun v w => ∃ a c, v = .tuple #[.slice a l.length c, .int .i64 0] ∧ RowB w V.heap.size (.slice a l.length c) l
theorem NewPk.keeps (V : World) (l : List Bt) (k : Nat) : T3.Keeps (fun _ w w' => Below w.heap.size w w') k (NewPk V l) := fun _ _ _ _ _ ⟨a, c, h1, h2⟩ hb => ⟨a, c, h1, h2.below hb⟩
def NewRb (V : World) (l : List Bt) : Ty := fun v w => ∃ a c, v = .slice a l.length c ∧ RowB w V.heap.size (.slice a l.length c) l
theorem NewRb.keeps (V : World) (l : List Bt) (k : Nat) : T3.Keeps (fun _ w w' => Below w.heap.size w w') k (NewRb V l) := fun _ _ _ _ _ ⟨a, c, h1, h2⟩ hb => ⟨a, c, h1, h2.below hb⟩
theorem RowB.chg {G : Nat → Prop} {w w' : World} {S : Nat} {v : Value} {bs : List Bt} (h : RowB w S v bs) (hc : Chg G w w') (hG : ∀ k, S ≤ k → (BlkT w k 41 ∨ BlkT w k 143) → ¬ G k) : RowB w' S v bs := by
  obtain ⟨vs, k1, k2, k3⟩ := h
  exact ⟨vs, k1, own_chg k2 hc (fun g hg => hG g (k2.lt g hg).1 (.inr (own_blk k2 hg))), fun i hi => ⟨(k3 i hi).1, own_chg (k3 i hi).2 hc (fun g hg => hG g ((k3 i hi).2.lt g hg).1 (.inl (own_blk (k3 i hi).2 hg)))⟩⟩
/-- One batch of a row of one's own. -/
theorem RowB.at {w : World} {S : Nat} {a : Option Addr} {c : Nat} {bs : List Bt} (h : RowB w S (.slice a bs.length c) bs) {k : Nat} (hk : k < bs.length) : ∃ g u, a = some ⟨g, 0, none⟩ ∧ w.cell? ⟨g, k * 2, none⟩ = some (.int .i64 (bs.getD k zb).1) ∧ w.cell? ⟨g, k * 2 + 1, none⟩ = some u ∧ OwO w S u (bs.getD k zb).2 := by
  obtain ⟨vs, k1, k2, k3⟩ := h
  rcases k2.2 with ⟨_, h2⟩ | ⟨g, cap, cur, h2, _, hg, hnc, _, _, htake⟩
  · omega
  · simp only [Value.slice.injEq, true_and] at h2
    obtain ⟨rfl, rfl⟩ := h2
    obtain ⟨h3, h4⟩ := k3 k hk
    have hc : ∀ j, j < 2 → w.cell? ⟨g, k * 2 + j, none⟩ = (c2 (vs.getD k zv))[j]? := fun j hj => by
      rw [cell_of_row w g _ cur 143 (0, 0) hg, ← flat2_at vs k j (by omega) hj, ← htake, List.getElem?_take, if_pos (by omega)]
      simp
    refine ⟨g, (vs.getD k zv).2, rfl, ?_, hc 1 (by decide), h4⟩
    rw [← h3]
    exact hc 0 (by decide)
theorem own_zero {w : World} {S n size c : Nat} {e : TypeId} {a : Addr} {xs : List Value} (h : w.ownsRow S e size (.slice (some a) n c) n xs) : ∃ g, a = ⟨g, 0, none⟩ := by
  rcases h.2 with ⟨h1, _⟩ | ⟨g, cap, cur, hv, _⟩
  · cases h1
  · simp only [Value.slice.injEq, Option.some.injEq] at hv
    exact ⟨g, hv.1⟩
theorem gs_tail {w : World} {g N cap n : Nat} {ps : List Nat} (h : OwP w (.slice (some ⟨g, 0, none⟩) N cap) ps) (hN : N = ps.length) (hn : n ≤ N) : ∃ A0, (if cap = n then (some ⟨g, 0, none⟩ : Option Addr) else some ⟨g, n, none⟩) = some A0 ∧ Gs RPT w (.slice (some A0) (ps.drop n).length (cap - n)) (ps.drop n) := by
  have hcap : N ≤ cap ∧ g < w.heap.size := by
    rcases h.2 with ⟨h1, _⟩ | ⟨g', cap', cur, hv, hb, hg, hnc, hcm, hcs, htake⟩
    · cases h1
    · simp only [Value.slice.injEq, Option.some.injEq, Addr.mk.injEq, and_true] at hv
      obtain ⟨rfl, h2, rfl⟩ := hv
      have hnc' : ps.length ≤ cap := hnc
      exact ⟨by rw [hN]; exact hnc', some_lt hg⟩
  have hdl : (ps.drop n).length = ps.length - n := List.length_drop ..
  by_cases hc : cap = n
  · refine ⟨⟨g, 0, none⟩, if_pos hc, .inl ⟨some ⟨g, 0, none⟩, cap - n, ?_, (fun e => nomatch e), List.drop_of_length_le (show ps.length ≤ n by omega)⟩⟩
    rw [hdl, show ps.length - n = 0 by omega]
  · refine ⟨⟨g, n, none⟩, if_neg hc, .inr ⟨g, n, cap - n, rfl, (by show (ps.drop n).length ≤ cap - n; omega), hcap.2, fun i hi j hj => ?_⟩⟩
    have hi9 : i < (ps.drop n).length := hi
    have hi' : i < ps.length - n := by omega
    have hj' : j < 1 := hj
    obtain rfl : j = 0 := by omega
    have hp : ps[n + i]? = some (ps[n + i]'(by omega)) := List.getElem?_eq_getElem _
    obtain ⟨h1, _⟩ := row_pt (hN ▸ h : OwP w (.slice (some ⟨g, 0, none⟩) ps.length cap) ps) hp
    have e1 : (ps.drop n).getD i 0 = ps[n + i]'(by omega) := by simp [List.getD, show n + i < ps.length by omega]
    have e2 : n + i * RPT.K + 0 = n + i := congrArg (n + ·) (Nat.mul_one i)
    rw [e2, h1]
    show some (ptr _) = some (ptr ((ps.drop n).getD i 0))
    rw [e1]
/-- What Send answers at its end: what is new among what is out. -/
theorem sfin_any {w : World} {F : Nat → Prop} {b : Nat} {s : Sd} {Z : Zs1} {vW : Value} {g c n : Nat} (h : PZ w F b (sdS s) Z vW (.slice (some ⟨g, 0, none⟩) Z.length c)) (hok : SdOk s) (hn : n = s.L.length) :
    ∃ A0, (if c = n then (some ⟨g, 0, none⟩ : Option Addr) else some ⟨g, n, none⟩) = some A0 ∧ Calls Tryz.prog 82 #[.slice (some A0) (Z.length - n) (c - n)] w fun e w' => ∃ r, e = .returned r ∧ RowB w' w.heap.size r (sdT s) ∧ Below w.heap.size w w' := by
  have hok2 := sdok_send hok
  obtain ⟨k1, k2⟩ := h.outs
  obtain ⟨k3, k4⟩ := h.olen hok2
  have hzl : Z.length = n + (sdT s).length := by
    rw [← h.llen, hn]
    show (s.L ++ (sdT s).map fun p => (p, (1 : Int))).length = _
    rw [List.length_append, List.length_map]
  have hout : (Z.map fun z => z.2.1).drop n = sdT s := by
    rw [← h.sout]
    unfold Sd.out sdS
    rw [List.map_append, List.map_map, hn]
    have e : (s.L.map Prod.fst).length = s.L.length := List.length_map ..
    rw [← e, List.drop_left]
    exact List.map_id _
  obtain ⟨ps, hps⟩ : ∃ ps, Z.map Prod.fst = ps := ⟨_, rfl⟩
  have hot := h.ot
  rw [hps] at hot k1 k2 k4
  have hpl : ps.length = Z.length := by rw [← hps, List.length_map]
  obtain ⟨A0, hA, hg⟩ := gs_tail hot hpl.symm (n := n) (by omega)
  refine ⟨A0, hA, ?_⟩
  have hdl : (ps.drop n).length = Z.length - n := by rw [List.length_drop, hpl]
  rw [← hdl]
  have hg2 : ∀ i, i < (ps.drop n).length → (ps.drop n).getD i 0 = ps.getD (n + i) 0 := fun i hi => by simp [List.getD]
  have hb2 : ∀ i, (sdT s).getD i zb = (Z.map fun z => z.2.1).getD (n + i) zb := fun i => by rw [← hout]; simp [List.getD]
  exact bof_any (some A0) (c - n) (ps.drop n) (sdT s) w hg (by rw [hdl]; omega) (fun i hi => by rw [hg2 i hi, hb2 i]; exact k2 (n + i) (by omega)) (by omega) (fun i hi => by rw [hb2 i]; exact k4 (n + i) (by omega))
set_option maxHeartbeats 16000000 in
theorem psend_any {w0 : World} {F : Nat → Prop} {b : Nat} {s : Sd} {Z : Zs1} {vW vO : Value} (h : PZ w0 F b s Z vW vO) (hok : SdOk s) : Calls Tryz.prog 50 #[.pointer (some ⟨b, 0, none⟩)] w0 fun e w' => ∃ r S, e = .returned r ∧ Chg F w0 w' ∧ w0.heap.size ≤ S ∧ RowB w' S r (sdT s) ∧ ∃ F' Z' vW' vO', PZ w' F' b (sdS s) Z' vW' vO' ∧ (∀ k, F' k → F k ∨ w0.heap.size ≤ k) ∧ ∀ k, F' k → k < S := by
  obtain ⟨aO, cO, rfl⟩ := h.oform
  have hzl : Z.length ≤ 16 := (h.olen hok).1
  obtain ⟨P, hP⟩ : ∃ P, packL 512 s.W s.nx = P := ⟨_, rfl⟩
  have hm16 : (sdT s).length ≤ 16 := by
    have h1 := (sdT_top hok).2
    have h2 := hok.win
    have h3 := far_bd (fstN s) s.nx
    omega
  have hpl : P.length ≤ 1024 := by rw [← hP]; exact Nat.le_trans (packL_le 512 s.W s.nx) hok.wl
  have HPZ := Lib.hid h
  have HOK := Lib.hid hok
  have HPK := Lib.hid hP
  have HWL : Hid (s.W.length ≤ 3000) := Nat.le_trans hok.wl (by decide)
  have HWT : Hid (s.W.length ≤ 1024) := hok.wl
  have HAW : Hid (AllOk s.W) := hok.wok
  obtain ⟨c0, c1, c2, c3, c4, cf⟩ := h.cells
  have hbl := h.lt b h.fb
  have kc : ∀ w', Below w0.heap.size w0 w' → w'.cell? ⟨b, 2, none⟩ = some (.int .i64 s.nx) := fun w' hb => (hb.cell (p := ⟨b, 2, none⟩) hbl).trans c2
  clear h hok hP c0 c1 c2 c3 cf hbl
  go_enter Tryz.func50, Tryz.ntmps50
  go_wp2_with fail
  go_step3
  go_upto_region 4 with (fail)
  clear c4
  refine T3.wp_region_tail (C := fun w' => Below w0.heap.size w0 w') (X := fun _ w w' => Below w.heap.size w w') (n := 67) 11 (by kernel_rfl) (by kernel_rfl) (by kernel_rfl) (by kernel_rfl) rfl (fun _ w => Below.refl _ w) (Below.refl _ _).drew ?_
  simp only [List.take_succ_cons, List.take_zero, List.drop_succ_cons, List.drop_zero]
  refine T3.w_is (fun _ w => Below.refl _ w) rfl _ (.inl rfl) (fun ρ w hC hc hfn hf => by have e0 : ρ (.tmp 0) = _ := hf 0 (by decide); (conv => lhs; simp [execOp, go_sem, hc, e0])) ?_
  refine T3.w_call rfl (NewCl w0 s.W) (NewCl.keeps w0 _ 1) 54 (.inl rfl) (fun ρ w hC hc hfn hf => by have e18 : ρ (.tmp 18) = _ := hf 18 (by decide); exact ⟨_, by (conv => lhs; simp [execOp, resolve, invoke, go_sem, hc, hfn, e18]), (pwait_any (HPZ.out.below hC) HWL.out).mono fun e w' h => by obtain ⟨⟨a, c, h1, h2⟩, h3⟩ := h; exact ⟨_, h1, hC.trans (h3.mono hC.size), h3, ⟨a, c, rfl, h2.mono0 hC.size⟩⟩⟩) ?_
  refine T3.w_is (fun _ w => Below.refl _ w) rfl _ (.inl rfl) (fun ρ w hC hc hfn hf => by have e0 : ρ (.tmp 0) = _ := hf 0 (by decide); (conv => lhs; simp [execOp, go_sem, hc, e0])) ?_
  refine T3.w_is (fun _ w => Below.refl _ w) rfl _ (.inl rfl) (fun ρ w hC hc hfn hf => by have e20 : ρ (.tmp 20) = _ := hf 20 (by decide); (conv => lhs; simp [execOp, go_sem, hc, e20])) ?_
  refine T3.w_is (fun _ w => Below.refl _ w) rfl _ (.inl rfl) (fun ρ w hC hc hfn hf => by have e21 : ρ (.tmp 21) = _ := hf 21 (by decide); (conv => lhs; simp [execOp, go_sem, hc, e21])) ?_
  refine T3.w_is (fun _ w => Below.refl _ w) rfl _ (.inl rfl) (fun ρ w hC hc hfn hf => by have e22 : ρ (.tmp 22) = _ := hf 22 (by decide); (conv => lhs; simp [execOp, go_sem, hc, e22, kc w hC])) ?_
  refine T3.w_call rfl (NewPk w0 P) (NewPk.keeps w0 _ 6) 79 (.inl rfl) (fun ρ w hC hc hfn hf => by obtain ⟨a2, c2, e19, ho⟩ := (show (NewCl w0 s.W) (ρ (.tmp 19)) w from hf 19 (by decide)); have e23 : ρ (.tmp 23) = _ := hf 23 (by decide); exact ⟨_, by (conv => lhs; simp [execOp, resolve, invoke, go_sem, hc, hfn, e19, e23]), (ppack2 (.slice a2 s.W.length c2) s.W s.nx w ho.os HAW.out HWT.out).mono fun e w' h => by obtain ⟨a, c, h1, h2, h3⟩ := h; rw [HPK.out] at h1 h2; exact ⟨_, h1, hC.trans (h3.mono hC.size), h3, ⟨a, c, rfl, h2.mono0 hC.size⟩⟩⟩) ?_
  refine T3.w_make rfl (NewPk w0 P) (NewPk.keeps w0 _ 7) (.inl rfl) (fun ρ w hC hc hfn hf => by obtain ⟨a3, c3, e24, hr⟩ := (show (NewPk w0 P) (ρ (.tmp 24)) w from hf 24 (by decide)); exact ⟨_, _, by (conv => lhs; simp [execOp, go_sem, hc, e24]), hC, Below.refl _ _, ⟨a3, c3, rfl, hr⟩⟩) ?_
  refine T3.w_make rfl (NewRb w0 P) (NewRb.keeps w0 _ 8) (.inl rfl) (fun ρ w hC hc hfn hf => by obtain ⟨a4, c4, e17, hr⟩ := (show (NewPk w0 P) (ρ (.tmp 17)) w from hf 17 (by decide)); exact ⟨_, _, by (conv => lhs; simp [execOp, go_sem, hc, e17]), hC, Below.refl _ _, ⟨a4, c4, rfl, hr⟩⟩) ?_
  refine T3.w_is (fun _ w => Below.refl _ w) rfl _ (.inl rfl) (fun ρ w hC hc hfn hf => by obtain ⟨a4, c4, e17, hr⟩ := (show (NewPk w0 P) (ρ (.tmp 17)) w from hf 17 (by decide)); (conv => lhs; simp [execOp, go_sem, hc, e17])) ?_
  refine T3.w_make rfl (NewRb w0 P) (NewRb.keeps w0 _ 10) (.inl rfl) (fun ρ w hC hc hfn hf => by obtain ⟨a5, c5, e25, hr⟩ := (show (NewRb w0 P) (ρ (.tmp 25)) w from hf 25 (by decide)); exact ⟨_, _, by (conv => lhs; simp [execOp, go_sem, hc, e25]), hC, Below.refl _ _, ⟨a5, c5, rfl, hr⟩⟩) ?_
  intro A V5 hC hn hd hf
  obtain ⟨a2, c2, y19, -⟩ := (show (NewCl w0 s.W) (A.eval (.tmp 19)) V5 from hf 19)
  obtain ⟨a3, c3, y24, -⟩ := (show (NewPk w0 P) (A.eval (.tmp 24)) V5 from hf 24)
  obtain ⟨a4, c4, y17, -⟩ := (show (NewPk w0 P) (A.eval (.tmp 17)) V5 from hf 17)
  obtain ⟨a6, c6, y25, -⟩ := (show (NewRb w0 P) (A.eval (.tmp 25)) V5 from hf 25)
  obtain ⟨a5, c5, y4, hrow⟩ := (show (NewRb w0 P) (A.eval (.tmp 4)) V5 from hf 4)
  have y0 : A.eval (.tmp 0) = _ := Eq.trans (hf 0) (by conv => lhs; simp [go_sem])
  have y1 : A.eval (.tmp 1) = _ := Eq.trans (hf 1) (by conv => lhs; simp [go_sem])
  have y2 : A.eval (.tmp 2) = _ := Eq.trans (hf 2) (by conv => lhs; simp [go_sem])
  have y3 : A.eval (.tmp 3) = _ := Eq.trans (hf 3) (by conv => lhs; simp [go_sem])
  have y5 : A.eval (.tmp 5) = _ := Eq.trans (hf 5) (by conv => lhs; simp [go_sem])
  have y6 : A.eval (.tmp 6) = _ := Eq.trans (hf 6) (by conv => lhs; simp [go_sem])
  have y7 : A.eval (.tmp 7) = _ := Eq.trans (hf 7) (by conv => lhs; simp [go_sem])
  have y8 : A.eval (.tmp 8) = _ := Eq.trans (hf 8) (by conv => lhs; simp [go_sem])
  have y9 : A.eval (.tmp 9) = _ := Eq.trans (hf 9) (by conv => lhs; simp [go_sem])
  have y10 : A.eval (.tmp 10) = _ := Eq.trans (hf 10) (by conv => lhs; simp [go_sem])
  have y11 : A.eval (.tmp 11) = _ := Eq.trans (hf 11) (by conv => lhs; simp [go_sem])
  have y12 : A.eval (.tmp 12) = _ := Eq.trans (hf 12) (by conv => lhs; simp [go_sem])
  have y13 : A.eval (.tmp 13) = _ := Eq.trans (hf 13) (by conv => lhs; simp [go_sem])
  have y14 : A.eval (.tmp 14) = _ := Eq.trans (hf 14) (by conv => lhs; simp [go_sem])
  have y15 : A.eval (.tmp 15) = _ := Eq.trans (hf 15) (by conv => lhs; simp [go_sem])
  have y16 : A.eval (.tmp 16) = _ := Eq.trans (hf 16) (by conv => lhs; simp [go_sem])
  have y18 : A.eval (.tmp 18) = _ := hf 18
  have y20 : A.eval (.tmp 20) = _ := hf 20
  have y21 : A.eval (.tmp 21) = _ := hf 21
  have y22 : A.eval (.tmp 22) = _ := hf 22
  have y23 : A.eval (.tmp 23) = _ := hf 23
  have y26 : A.eval (.tmp 26) = _ := hf 26
  have y27 : A.eval (.tmp 27) = _ := Eq.trans (hf 27) (by conv => lhs; simp [go_sem])
  have y28 : A.eval (.tmp 28) = _ := Eq.trans (hf 28) (by conv => lhs; simp [go_sem])
  have y29 : A.eval (.tmp 29) = _ := Eq.trans (hf 29) (by conv => lhs; simp [go_sem])
  have y30 : A.eval (.tmp 30) = _ := Eq.trans (hf 30) (by conv => lhs; simp [go_sem])
  have y31 : A.eval (.tmp 31) = _ := Eq.trans (hf 31) (by conv => lhs; simp [go_sem])
  have y32 : A.eval (.tmp 32) = _ := Eq.trans (hf 32) (by conv => lhs; simp [go_sem])
  have y33 : A.eval (.tmp 33) = _ := Eq.trans (hf 33) (by conv => lhs; simp [go_sem])
  have y34 : A.eval (.tmp 34) = _ := Eq.trans (hf 34) (by conv => lhs; simp [go_sem])
  have y35 : A.eval (.tmp 35) = _ := Eq.trans (hf 35) (by conv => lhs; simp [go_sem])
  have y36 : A.eval (.tmp 36) = _ := Eq.trans (hf 36) (by conv => lhs; simp [go_sem])
  have y37 : A.eval (.tmp 37) = _ := Eq.trans (hf 37) (by conv => lhs; simp [go_sem])
  have y38 : A.eval (.tmp 38) = _ := Eq.trans (hf 38) (by conv => lhs; simp [go_sem])
  have y39 : A.eval (.tmp 39) = _ := Eq.trans (hf 39) (by conv => lhs; simp [go_sem])
  have y40 : A.eval (.tmp 40) = _ := Eq.trans (hf 40) (by conv => lhs; simp [go_sem])
  have y41 : A.eval (.tmp 41) = _ := Eq.trans (hf 41) (by conv => lhs; simp [go_sem])
  have y42 : A.eval (.tmp 42) = _ := Eq.trans (hf 42) (by conv => lhs; simp [go_sem])
  have y43 : A.eval (.tmp 43) = _ := Eq.trans (hf 43) (by conv => lhs; simp [go_sem])
  have y44 : A.eval (.tmp 44) = _ := Eq.trans (hf 44) (by conv => lhs; simp [go_sem])
  have y45 : A.eval (.tmp 45) = _ := Eq.trans (hf 45) (by conv => lhs; simp [go_sem])
  have y46 : A.eval (.tmp 46) = _ := Eq.trans (hf 46) (by conv => lhs; simp [go_sem])
  have y47 : A.eval (.tmp 47) = _ := Eq.trans (hf 47) (by conv => lhs; simp [go_sem])
  have y48 : A.eval (.tmp 48) = _ := Eq.trans (hf 48) (by conv => lhs; simp [go_sem])
  have y49 : A.eval (.tmp 49) = _ := Eq.trans (hf 49) (by conv => lhs; simp [go_sem])
  have y50 : A.eval (.tmp 50) = _ := Eq.trans (hf 50) (by conv => lhs; simp [go_sem])
  have y51 : A.eval (.tmp 51) = _ := Eq.trans (hf 51) (by conv => lhs; simp [go_sem])
  have y52 : A.eval (.tmp 52) = _ := Eq.trans (hf 52) (by conv => lhs; simp [go_sem])
  have y53 : A.eval (.tmp 53) = _ := Eq.trans (hf 53) (by conv => lhs; simp [go_sem])
  have y54 : A.eval (.tmp 54) = _ := Eq.trans (hf 54) (by conv => lhs; simp [go_sem])
  have y55 : A.eval (.tmp 55) = _ := Eq.trans (hf 55) (by conv => lhs; simp [go_sem])
  have y56 : A.eval (.tmp 56) = _ := Eq.trans (hf 56) (by conv => lhs; simp [go_sem])
  have y57 : A.eval (.tmp 57) = _ := Eq.trans (hf 57) (by conv => lhs; simp [go_sem])
  have y58 : A.eval (.tmp 58) = _ := Eq.trans (hf 58) (by conv => lhs; simp [go_sem])
  have y59 : A.eval (.tmp 59) = _ := Eq.trans (hf 59) (by conv => lhs; simp [go_sem])
  have y60 : A.eval (.tmp 60) = _ := Eq.trans (hf 60) (by conv => lhs; simp [go_sem])
  have y61 : A.eval (.tmp 61) = _ := Eq.trans (hf 61) (by conv => lhs; simp [go_sem])
  have y62 : A.eval (.tmp 62) = _ := Eq.trans (hf 62) (by conv => lhs; simp [go_sem])
  have y63 : A.eval (.tmp 63) = _ := Eq.trans (hf 63) (by conv => lhs; simp [go_sem])
  have y64 : A.eval (.tmp 64) = _ := Eq.trans (hf 64) (by conv => lhs; simp [go_sem])
  have y65 : A.eval (.tmp 65) = _ := Eq.trans (hf 65) (by conv => lhs; simp [go_sem])
  have y66 : A.eval (.tmp 66) = _ := Eq.trans (hf 66) (by conv => lhs; simp [go_sem])
  clear hf
  have hA := frame_eq hn
  rw [show List.range 67 = [0, 1, 2, 3, 4, 5, 6, 7, 8, 9, 10, 11, 12, 13, 14, 15, 16, 17, 18, 19, 20, 21, 22, 23, 24, 25, 26, 27, 28, 29, 30, 31, 32, 33, 34, 35, 36, 37, 38, 39, 40, 41, 42, 43, 44, 45, 46, 47, 48, 49, 50, 51, 52, 53, 54, 55, 56, 57, 58, 59, 60, 61, 62, 63, 64, 65, 66] from rfl, hd] at hA
  simp only [List.map_cons, List.map_nil, y0, y1, y2, y3, y4, y5, y6, y7, y8, y9, y10, y11, y12, y13, y14, y15, y16, y17, y18, y19, y20, y21, y22, y23, y24, y25, y26, y27, y28, y29, y30, y31, y32, y33, y34, y35, y36, y37, y38, y39, y40, y41, y42, y43, y44, y45, y46, y47, y48, y49, y50, y51, y52, y53, y54, y55, y56, y57, y58, y59, y60, y61, y62, y63, y64, y65, y66] at hA
  clear y0 y1 y2 y3 y4 y5 y6 y7 y8 y9 y10 y11 y12 y13 y14 y15 y16 y17 y18 y19 y20 y21 y22 y23 y24 y25 y26 y27 y28 y29 y30 y31 y32 y33 y34 y35 y36 y37 y38 y39 y40 y41 y42 y43 y44 y45 y46 y47 y48 y49 y50 y51 y52 y53 y54 y55 y56 y57 y58 y59 y60 y61 y62 y63 y64 y65 y66
  clear hn hd
  subst hA
  have HC5 := Lib.hid hC
  have HROW := Lib.hid hrow
  clear kc hC hrow
  go_wp2_with fail
  go_step3
  go_wp2_with fail
  go_loopw [29] (fun iv wr => ∃ (k : Nat) (Zk : Zs1) (vWk : Value) (aK : Option Addr) (cK : Nat), k ≤ (sdT s).length ∧ k ≤ P.length ∧ iv = .int .i64 k ∧ Hid (Zk.length = Z.length + k) ∧ Zk.length ≤ 100 ∧ Hid (PZ wr (FN F w0 wr) b (stk s k) Zk vWk (.slice aK Zk.length cK)) ∧ Hid (∀ g, vWk.ownBlock = some g → vW.ownBlock = some g) ∧ Hid (RowB wr w0.heap.size (.slice a5 P.length c5) P) ∧ Hid (Chg F w0 wr)) (fun i _ => P.length - (intOf i).toNat)
  case atStart =>
    refine ⟨0, Z, vW, aO, cO, Nat.zero_le _, Nat.zero_le _, rfl, rfl, by omega, ?_, fun g hg => hg, HROW.out, chg0 HC5.out⟩
    show PZ _ _ _ _ _ _ _
    rw [stk_zero]
    exact (HPZ.out.below HC5.out).mono (fun k hk => .inl hk) (FN.lt HPZ.out.lt HC5.out.size)
  case round =>
    obtain ⟨k, Zk, vWk, aK, cK, hkm, hkp, rfl, HZK, hzk, HP, HV, HR, HC⟩ := hrel
    clear HROW HC5
    by_cases hlt : k < P.length
    · obtain ⟨g2, u, hg2, q0, q1, q2⟩ := HR.out.at hlt
      obtain ⟨x, hx⟩ : ∃ x, P.getD k zb = x := ⟨_, rfl⟩
      rw [hx] at q0 q2
      obtain ⟨N, ys⟩ := x
      simp only at q0 q2
      obtain ⟨au, cu, rfl⟩ := own_form q2
      obtain ⟨g9, hg9⟩ : ∃ g9, wr.heap.size = g9 := ⟨_, rfl⟩
      obtain ⟨V, hV⟩ : ∃ V, wr.alloc (.cells #[.int .i64 N, .slice au ys.length cu] 143) = V := ⟨_, rfl⟩
      have hbv : Below wr.heap.size wr V := hV ▸ (Below.refl _ wr).alloc (Nat.le_refl _) _
      have hvg : V.heap[g9]? = some (.cells #[.int .i64 N, .slice au ys.length cu] 143) := by rw [← hV, ← hg9]; exact heap_alloc_new wr _
      have hPV := (HP.out.below hbv).mono (F' := FN F w0 V) (fun y hy => hy.imp (fun e => e) (fun e => ⟨e.1, Nat.lt_of_lt_of_le e.2 hbv.size⟩)) (FN.lt HPZ.out.lt (Nat.le_trans HC.out.size hbv.size))
      have HRV := Lib.hid (HR.out.below hbv)
      have HUV := Lib.hid (q2.below hbv)
      have HCV : Hid (Chg F w0 V) := HC.out.trans (G := fun _ => False) (chg0 hbv) (fun _ _ e => e.elim)
      have HX := Lib.hid hx
      have HG9 := Lib.hid hg9
      have HVV := Lib.hid hV
      have HVG := Lib.hid hvg
      obtain ⟨d0, d1, d2, d3, d4, df⟩ := hPV.cells
      have HPV := Lib.hid hPV
      have HG2 := Lib.hid hg2
      have hltz : (k : Int) < P.length := by omega
      clear d0 d1 d2 d3 df hx q2 hV hbv hvg hPV hg9
      subst hg2
      go_upto_region 8 with (fail)
      rw [HVV.out]
      try simp only [HG9.out]
      clear q0 q1
      go_wp2_with fail
      clear d4
      obtain ⟨wo, hwo⟩ : ∃ wo, wo = wr := ⟨_, rfl⟩
      subst hwo
      go_loopw [38] (fun jv wi => ∃ j : Nat, j ≤ Zk.length ∧ jv = .int .i64 j ∧ Hid (Below V.heap.size V wi) ∧ Hid (∀ (i : Nat) (y : Nat × Bt × Int), i < j → Zk[i]? = some y → withB N y.2.1.1 s.win = true)) (fun j _ => Zk.length - (intOf j).toNat)
      case atStart => exact ⟨0, Nat.zero_le _, rfl, Below.refl _ _, fun i y hi => absurd hi (Nat.not_lt_zero i)⟩
      case round =>
        obtain ⟨j, hj, rfl, HB, HN⟩ := hrel
        by_cases hlj : j < Zk.length
        · obtain ⟨z, hz⟩ : ∃ z, Zk[j]? = some z := ⟨_, List.getElem?_eq_getElem hlj⟩
          have hpi := HPV.out.below HB.out
          obtain ⟨gz, oz, hgz, p0, hs, -, -, pn⟩ := hpi.pt rfl hz
          obtain ⟨rw9, h9⟩ : ∃ r9, wr.ownsRow 0 170 1 (.slice aK Zk.length cK) Zk.length r9 := by
            have h9 := hpi.ot
            unfold OwP at h9
            rw [List.length_map] at h9
            exact ⟨_, h9⟩
          rw [hgz] at h9
          obtain ⟨gz2, hoz⟩ := own_zero h9
          clear h9
          simp only [Addr.mk.injEq, and_true] at hoz
          obtain ⟨rfl, rfl⟩ := hoz
          rw [Nat.zero_add] at p0
          obtain ⟨d0, d1, d2, d3, d4, df⟩ := hpi.cells
          have d0' : wr.cell? ⟨b, 0, none⟩ = some (.int .i64 s.win) := d0
          obtain ⟨p, ⟨⟨m, zs⟩, t⟩⟩ := z
          simp only at p0 pn
          have hg9b : V.heap[g9]? = some (.cells #[.int .i64 N, .slice au ys.length cu] 143) := HVG.out
          have v0 : wr.cell? ⟨g9, 0, none⟩ = some (.int .i64 N) := by
            rw [HB.out.cell (p := ⟨g9, 0, none⟩) (some_lt hg9b)]
            simp [World.cell?, hg9b]
          have l1 := World.block_lt_of_cell? wr _ d0'
          have l2 := World.block_lt_of_cell? wr _ pn
          have l3 := World.block_lt_of_cell? wr _ v0
          have kc : ∀ w', Below wr.heap.size wr w' → w'.cell? ⟨b, 0, none⟩ = some (.int .i64 s.win) ∧ w'.cell? ⟨p, 0, none⟩ = some (.int .i64 m) ∧ w'.cell? ⟨g9, 0, none⟩ = some (.int .i64 N) := fun w' h => ⟨(h.cell (p := ⟨b, 0, none⟩) l1).trans d0', (h.cell (p := ⟨p, 0, none⟩) l2).trans pn, (h.cell (p := ⟨g9, 0, none⟩) l3).trans v0⟩
          have HZ := Lib.hid hz
          have hltj : (j : Int) < Zk.length := by omega
          have HGZ := Lib.hid hgz
          clear hz hpi hs d0 d0' d1 d2 d3 d4 df pn hg9b v0 l1 l2 l3
          subst hgz
          go_upto_region 11 with (fail)
          clear p0
          refine T3.wp_region_tail (C := fun w' => Below wr.heap.size wr w') (X := fun _ w w' => Below w.heap.size w w') (n := 67) 12 (by kernel_rfl) (by kernel_rfl) (by kernel_rfl) (by kernel_rfl) rfl (fun _ w => Below.refl _ w) (Below.refl _ _).drew ?_
          simp only [List.take_succ_cons, List.take_zero, List.drop_succ_cons, List.drop_zero]
          refine T3.w_is (fun _ w => Below.refl _ w) rfl _ (.inl rfl) (fun ρ w hC hc hfn hf => by have e7 : ρ (.tmp 7) = _ := hf 7 (by decide); (conv => lhs; simp [execOp, go_sem, hc, e7])) ?_
          refine T3.w_is (fun _ w => Below.refl _ w) rfl _ (.inl rfl) (fun ρ w hC hc hfn hf => by have e42 : ρ (.tmp 42) = _ := hf 42 (by decide); (conv => lhs; simp [execOp, go_sem, hc, e42, kc w hC])) ?_
          refine T3.w_is (fun _ w => Below.refl _ w) rfl _ (.inl rfl) (fun ρ w hC hc hfn hf => by have e9 : ρ (.tmp 9) = _ := hf 9 (by decide); (conv => lhs; simp [execOp, go_sem, hc, e9])) ?_
          refine T3.w_is (fun _ w => Below.refl _ w) rfl _ (.inl rfl) (fun ρ w hC hc hfn hf => by have e44 : ρ (.tmp 44) = _ := hf 44 (by decide); (conv => lhs; simp [execOp, go_sem, hc, e44])) ?_
          refine T3.w_is (fun _ w => Below.refl _ w) rfl _ (.inl rfl) (fun ρ w hC hc hfn hf => by have e45 : ρ (.tmp 45) = _ := hf 45 (by decide); (conv => lhs; simp [execOp, go_sem, hc, e45])) ?_
          refine T3.w_is (fun _ w => Below.refl _ w) rfl _ (.inl rfl) (fun ρ w hC hc hfn hf => by have e46 : ρ (.tmp 46) = _ := hf 46 (by decide); (conv => lhs; simp [execOp, go_sem, hc, e46])) ?_
          refine T3.w_is (fun _ w => Below.refl _ w) rfl _ (.inl rfl) (fun ρ w hC hc hfn hf => by have e47 : ρ (.tmp 47) = _ := hf 47 (by decide); (conv => lhs; simp [execOp, go_sem, hc, e47, kc w hC])) ?_
          refine T3.w_is (fun _ w => Below.refl _ w) rfl _ (.inl rfl) (fun ρ w hC hc hfn hf => by have e0 : ρ (.tmp 0) = _ := hf 0 (by decide); (conv => lhs; simp [execOp, go_sem, hc, e0])) ?_
          refine T3.w_is (fun _ w => Below.refl _ w) rfl _ (.inl rfl) (fun ρ w hC hc hfn hf => by have e49 : ρ (.tmp 49) = _ := hf 49 (by decide); (conv => lhs; simp [execOp, go_sem, hc, e49])) ?_
          refine T3.w_is (fun _ w => Below.refl _ w) rfl _ (.inl rfl) (fun ρ w hC hc hfn hf => by have e50 : ρ (.tmp 50) = _ := hf 50 (by decide); (conv => lhs; simp [execOp, go_sem, hc, e50])) ?_
          refine T3.w_is (fun _ w => Below.refl _ w) rfl _ (.inl rfl) (fun ρ w hC hc hfn hf => by have e51 : ρ (.tmp 51) = _ := hf 51 (by decide); (conv => lhs; simp [execOp, go_sem, hc, e51, kc w hC])) ?_
          refine T3.w_call rfl (Is _) (fun _ _ _ _ _ h _ => h) 80 (.inl rfl) (fun ρ w hC hc hfn hf => by have e43 : ρ (.tmp 43) = _ := hf 43 (by decide); have e48 : ρ (.tmp 48) = _ := hf 48 (by decide); have e52 : ρ (.tmp 52) = _ := hf 52 (by decide); exact ⟨_, by (conv => lhs; simp [execOp, resolve, invoke, go_sem, hc, hfn, e43, e48, e52]), (within_any N m s.win w).mono fun e w' h => ⟨_, h.1, hC.trans (h.2.mono hC.size), h.2, rfl⟩⟩) ?_
          intro A V7 hC hn hd hf
          have y0 : A.eval (.tmp 0) = _ := Eq.trans (hf 0) (by conv => lhs; simp [go_sem])
          have y1 : A.eval (.tmp 1) = _ := Eq.trans (hf 1) (by conv => lhs; simp [go_sem])
          have y2 : A.eval (.tmp 2) = _ := Eq.trans (hf 2) (by conv => lhs; simp [go_sem])
          have y3 : A.eval (.tmp 3) = _ := Eq.trans (hf 3) (by conv => lhs; simp [go_sem])
          have y4 : A.eval (.tmp 4) = _ := Eq.trans (hf 4) (by conv => lhs; simp [go_sem])
          have y5 : A.eval (.tmp 5) = _ := Eq.trans (hf 5) (by conv => lhs; simp [go_sem])
          have y6 : A.eval (.tmp 6) = _ := Eq.trans (hf 6) (by conv => lhs; simp [go_sem])
          have y7 : A.eval (.tmp 7) = _ := Eq.trans (hf 7) (by conv => lhs; simp [go_sem])
          have y8 : A.eval (.tmp 8) = _ := Eq.trans (hf 8) (by conv => lhs; simp [go_sem])
          have y9 : A.eval (.tmp 9) = _ := Eq.trans (hf 9) (by conv => lhs; simp [go_sem])
          have y10 : A.eval (.tmp 10) = _ := Eq.trans (hf 10) (by conv => lhs; simp [go_sem])
          have y11 : A.eval (.tmp 11) = _ := Eq.trans (hf 11) (by conv => lhs; simp [go_sem])
          have y12 : A.eval (.tmp 12) = _ := Eq.trans (hf 12) (by conv => lhs; simp [go_sem])
          have y13 : A.eval (.tmp 13) = _ := Eq.trans (hf 13) (by conv => lhs; simp [go_sem])
          have y14 : A.eval (.tmp 14) = _ := Eq.trans (hf 14) (by conv => lhs; simp [go_sem])
          have y15 : A.eval (.tmp 15) = _ := Eq.trans (hf 15) (by conv => lhs; simp [go_sem])
          have y16 : A.eval (.tmp 16) = _ := Eq.trans (hf 16) (by conv => lhs; simp [go_sem])
          have y17 : A.eval (.tmp 17) = _ := Eq.trans (hf 17) (by conv => lhs; simp [go_sem])
          have y18 : A.eval (.tmp 18) = _ := Eq.trans (hf 18) (by conv => lhs; simp [go_sem])
          have y19 : A.eval (.tmp 19) = _ := Eq.trans (hf 19) (by conv => lhs; simp [go_sem])
          have y20 : A.eval (.tmp 20) = _ := Eq.trans (hf 20) (by conv => lhs; simp [go_sem])
          have y21 : A.eval (.tmp 21) = _ := Eq.trans (hf 21) (by conv => lhs; simp [go_sem])
          have y22 : A.eval (.tmp 22) = _ := Eq.trans (hf 22) (by conv => lhs; simp [go_sem])
          have y23 : A.eval (.tmp 23) = _ := Eq.trans (hf 23) (by conv => lhs; simp [go_sem])
          have y24 : A.eval (.tmp 24) = _ := Eq.trans (hf 24) (by conv => lhs; simp [go_sem])
          have y25 : A.eval (.tmp 25) = _ := Eq.trans (hf 25) (by conv => lhs; simp [go_sem])
          have y26 : A.eval (.tmp 26) = _ := Eq.trans (hf 26) (by conv => lhs; simp [go_sem])
          have y27 : A.eval (.tmp 27) = _ := Eq.trans (hf 27) (by conv => lhs; simp [go_sem])
          have y28 : A.eval (.tmp 28) = _ := Eq.trans (hf 28) (by conv => lhs; simp [go_sem])
          have y29 : A.eval (.tmp 29) = _ := Eq.trans (hf 29) (by conv => lhs; simp [go_sem])
          have y30 : A.eval (.tmp 30) = _ := Eq.trans (hf 30) (by conv => lhs; simp [go_sem])
          have y31 : A.eval (.tmp 31) = _ := Eq.trans (hf 31) (by conv => lhs; simp [go_sem])
          have y32 : A.eval (.tmp 32) = _ := Eq.trans (hf 32) (by conv => lhs; simp [go_sem])
          have y33 : A.eval (.tmp 33) = _ := Eq.trans (hf 33) (by conv => lhs; simp [go_sem])
          have y34 : A.eval (.tmp 34) = _ := Eq.trans (hf 34) (by conv => lhs; simp [go_sem])
          have y35 : A.eval (.tmp 35) = _ := Eq.trans (hf 35) (by conv => lhs; simp [go_sem])
          have y36 : A.eval (.tmp 36) = _ := Eq.trans (hf 36) (by conv => lhs; simp [go_sem])
          have y37 : A.eval (.tmp 37) = _ := Eq.trans (hf 37) (by conv => lhs; simp [go_sem])
          have y38 : A.eval (.tmp 38) = _ := Eq.trans (hf 38) (by conv => lhs; simp [go_sem])
          have y39 : A.eval (.tmp 39) = _ := Eq.trans (hf 39) (by conv => lhs; simp [go_sem])
          have y40 : A.eval (.tmp 40) = _ := Eq.trans (hf 40) (by conv => lhs; simp [go_sem])
          have y41 : A.eval (.tmp 41) = _ := Eq.trans (hf 41) (by conv => lhs; simp [go_sem])
          have y42 : A.eval (.tmp 42) = _ := hf 42
          have y43 : A.eval (.tmp 43) = _ := hf 43
          have y44 : A.eval (.tmp 44) = _ := hf 44
          have y45 : A.eval (.tmp 45) = _ := hf 45
          have y46 : A.eval (.tmp 46) = _ := hf 46
          have y47 : A.eval (.tmp 47) = _ := hf 47
          have y48 : A.eval (.tmp 48) = _ := hf 48
          have y49 : A.eval (.tmp 49) = _ := hf 49
          have y50 : A.eval (.tmp 50) = _ := hf 50
          have y51 : A.eval (.tmp 51) = _ := hf 51
          have y52 : A.eval (.tmp 52) = _ := hf 52
          have y53 : A.eval (.tmp 53) = _ := hf 53
          have y54 : A.eval (.tmp 54) = _ := Eq.trans (hf 54) (by conv => lhs; simp [go_sem])
          have y55 : A.eval (.tmp 55) = _ := Eq.trans (hf 55) (by conv => lhs; simp [go_sem])
          have y56 : A.eval (.tmp 56) = _ := Eq.trans (hf 56) (by conv => lhs; simp [go_sem])
          have y57 : A.eval (.tmp 57) = _ := Eq.trans (hf 57) (by conv => lhs; simp [go_sem])
          have y58 : A.eval (.tmp 58) = _ := Eq.trans (hf 58) (by conv => lhs; simp [go_sem])
          have y59 : A.eval (.tmp 59) = _ := Eq.trans (hf 59) (by conv => lhs; simp [go_sem])
          have y60 : A.eval (.tmp 60) = _ := Eq.trans (hf 60) (by conv => lhs; simp [go_sem])
          have y61 : A.eval (.tmp 61) = _ := Eq.trans (hf 61) (by conv => lhs; simp [go_sem])
          have y62 : A.eval (.tmp 62) = _ := Eq.trans (hf 62) (by conv => lhs; simp [go_sem])
          have y63 : A.eval (.tmp 63) = _ := Eq.trans (hf 63) (by conv => lhs; simp [go_sem])
          have y64 : A.eval (.tmp 64) = _ := Eq.trans (hf 64) (by conv => lhs; simp [go_sem])
          have y65 : A.eval (.tmp 65) = _ := Eq.trans (hf 65) (by conv => lhs; simp [go_sem])
          have y66 : A.eval (.tmp 66) = _ := Eq.trans (hf 66) (by conv => lhs; simp [go_sem])
          clear hf
          have hA := frame_eq hn
          rw [show List.range 67 = [0, 1, 2, 3, 4, 5, 6, 7, 8, 9, 10, 11, 12, 13, 14, 15, 16, 17, 18, 19, 20, 21, 22, 23, 24, 25, 26, 27, 28, 29, 30, 31, 32, 33, 34, 35, 36, 37, 38, 39, 40, 41, 42, 43, 44, 45, 46, 47, 48, 49, 50, 51, 52, 53, 54, 55, 56, 57, 58, 59, 60, 61, 62, 63, 64, 65, 66] from rfl, hd] at hA
          simp only [List.map_cons, List.map_nil, y0, y1, y2, y3, y4, y5, y6, y7, y8, y9, y10, y11, y12, y13, y14, y15, y16, y17, y18, y19, y20, y21, y22, y23, y24, y25, y26, y27, y28, y29, y30, y31, y32, y33, y34, y35, y36, y37, y38, y39, y40, y41, y42, y43, y44, y45, y46, y47, y48, y49, y50, y51, y52, y53, y54, y55, y56, y57, y58, y59, y60, y61, y62, y63, y64, y65, y66] at hA
          clear y0 y1 y2 y3 y4 y5 y6 y7 y8 y9 y10 y11 y12 y13 y14 y15 y16 y17 y18 y19 y20 y21 y22 y23 y24 y25 y26 y27 y28 y29 y30 y31 y32 y33 y34 y35 y36 y37 y38 y39 y40 y41 y42 y43 y44 y45 y46 y47 y48 y49 y50 y51 y52 y53 y54 y55 y56 y57 y58 y59 y60 y61 y62 y63 y64 y65 y66
          clear hn hd
          subst hA
          have HB7 := Lib.hid (HB.out.trans (hC.mono HB.out.size))
          clear kc hC
          cases hw : withB N m s.win with
          | false =>
            have hke : k = (sdT s).length := by
              rcases Nat.lt_or_ge k (sdT s).length with h9 | h9
              · have hx9 := HX.out
                obtain ⟨R, hR, _⟩ := sdT_split s
                have hpe : P = sdT s ++ R := HPK.out.symm.trans hR
                rw [hpe, getD_app h9] at hx9
                have hm9 : ((m, zs), t) ∈ (stk s k).L := by
                  rw [HPV.out.zl]
                  exact List.mem_map.2 ⟨_, List.mem_of_getElem? HZ.out, rfl⟩
                have h8 := near_all HOK.out h9 _ hm9
                rw [hx9] at h8
                have h8' : withB N m s.win = true := h8
                rw [hw] at h8'
                cases h8'
              · omega
            have HFS : Hid (stk s k = sdS s) := by rw [hke]; exact stk_end s
            have hpx := HPV.out.below HB7.out
            rw [HFS.out] at hpx
            obtain ⟨A0, hA, hcall⟩ := sfin_any hpx HOK.out (n := Z.length) HPZ.out.llen.symm
            obtain ⟨d0, d1, d2, d3, d4, df⟩ := hpx.cells
            have hle : Z.length ≤ Zk.length := by have := HZK.out; omega
            have HCALL := Lib.hid hcall
            have HPX := Lib.hid hpx
            have HCX : Hid (Chg F w0 V7) := HCV.out.trans (G := fun _ => False) (chg0 HB7.out) (fun _ _ e => e.elim)
            have HVS : Hid (V.heap.size ≤ V7.heap.size) := HB7.out.size
            have hcap : Zk.length ≤ cK := by
              have h9 := hpx.ot
              rcases h9.2 with ⟨h1, _⟩ | ⟨g', cap', cur, hv, hb, hg, hnc, hcm, hcs, htake⟩
              · cases h1
              · simp only [Value.slice.injEq] at hv
                rw [List.length_map] at hnc
                omega
            clear HN HB HB7 HZ HRV HUV HVG HVV HR HP hpx hke d0 d1 d2 d3 df hcall
            go_wp2_with fail
            refine HCALL.out.mono ?_
            rintro e w9 ⟨r, rfl, hr, hb9⟩
            obtain ⟨a9, c9, rfl⟩ := hr.form'
            have HRR := Lib.hid hr
            have HB9 := Lib.hid hb9
            clear hr hb9 d4
            go_wp2_with fail
            try rw [Exit.noGoto_ret]
            try show bodyPost _ _ _ _ _ _
            go_ret
            refine ⟨_, V7.heap.size, rfl, HCX.out.trans (G := fun _ => False) (chg0 HB9.out) (fun _ _ e => e.elim), HCX.out.size, HRR.out, _, _, _, _, HPX.out.below HB9.out, FN.new, fun k hk => Nat.lt_of_lt_of_le (FN.lt HPZ.out.lt HCV.out.size k hk) HVS.out⟩
          | true =>
            have HW := Lib.hid hw
            go_wp2_with fail
            go_roundw
            case rel => exact ⟨j + 1, by omega, by go_num, HB7.out, fun i y hi hy => by
              by_cases h9 : i = j
              · subst h9
                have e := hy.symm.trans HZ.out
                cases e
                exact HW.out
              · exact HN.out i y (by omega) hy⟩
            case measure => simp [intOf]; omega
        · obtain rfl : j = Zk.length := by omega
          have hks : k < (sdT s).length := by
            rcases Nat.lt_or_ge k (sdT s).length with h9 | h9
            · exact h9
            · exfalso
              have hke : k = (sdT s).length := by omega
              obtain ⟨R, hR, _⟩ := sdT_split s
              have hpe : P = sdT s ++ R := HPK.out.symm.trans hR
              cases R with
              | nil => rw [hpe, List.append_nil] at hlt; omega
              | cons p R =>
                have hx9 := HX.out
                rw [hpe, hke] at hx9
                have hx8 : (sdT s ++ p :: R).getD (sdT s).length zb = p := by simp [List.getD]
                rw [hx8] at hx9
                obtain ⟨e, he, hw⟩ := far_stop HOK.out hR
                rw [← stk_end s, ← hke, HPV.out.zl, List.getElem?_map] at he
                cases hz0 : Zk[0]? with
                | none => rw [hz0] at he; cases he
                | some z0 =>
                  rw [hz0] at he
                  have he' : z0.2 = e := by cases he; rfl
                  have h8 := HN.out 0 z0 (List.getElem?_eq_some_iff.1 hz0).1 hz0
                  rw [he', ] at h8
                  rw [hx9] at hw
                  have hw' : withB N e.1.1 s.win = false := hw
                  rw [h8] at hw'
                  cases hw'
          obtain ⟨R, hR, _⟩ := sdT_split s
          have hx9 := HX.out
          rw [HPK.out.symm.trans hR, getD_app hks] at hx9
          obtain ⟨hbt, hyl⟩ := stk_len HOK.out hks
          have hsucc := stk_succ HOK.out hks
          rw [hx9] at hbt hyl hsucc
          have hpi := (HPV.out.below HB.out).mono (F' := FN F w0 wr) (fun y hy => hy.imp (fun e => e) (fun e => ⟨e.1, Nat.lt_of_lt_of_le e.2 HB.out.size⟩)) (FN.lt HPZ.out.lt (Nat.le_trans HCV.out.size HB.out.size))
          have hu := HUV.out.below HB.out
          have hvk : ∀ g, vWk.ownBlock = some g → g < w0.heap.size := fun g hg => HPZ.out.lt g (HPZ.out.wf g (HV.out g hg))
          have ho : ObI wr (FN F w0 wr) vWk (.slice au ys.length cu) ys := ⟨hu.os, rfl, fun a n c e hn => by
            have hob : (Value.slice au ys.length cu).ownBlock = some a.block := by rw [e]; rfl
            obtain ⟨l1, l2⟩ := World.ownsRow.lt hu a.block hob
            exact ⟨.inr ⟨l1, l2⟩, own_blk hu hob, fun e2 => by have := hvk a.block e2; omega⟩⟩
          have CLO := Lib.hid (letout_any N ys (.slice au ys.length cu) hpi ho (show 0 < ys.length from hbt.2.1.1) hyl (by omega))
          have hg9b : V.heap[g9]? = some (.cells #[.int .i64 N, .slice au ys.length cu] 143) := HVG.out
          have v0 : wr.cell? ⟨g9, 0, none⟩ = some (.int .i64 N) := by
            rw [HB.out.cell (p := ⟨g9, 0, none⟩) (some_lt hg9b)]
            simp [World.cell?, hg9b]
          have v1 : wr.cell? ⟨g9, 1, none⟩ = some (.slice au ys.length cu) := by
            rw [HB.out.cell (p := ⟨g9, 1, none⟩) (some_lt hg9b)]
            simp [World.cell?, hg9b]
          have hkm1 : k + 1 ≤ (sdT s).length := hks
          have HSU := Lib.hid hsucc
          have HPI := Lib.hid hpi
          have HVK := Lib.hid hvk
          have HCR : Hid (Chg F w0 wr) := HCV.out.trans (G := fun _ => False) (chg0 HB.out) (fun _ _ e => e.elim)
          have HRR := Lib.hid (HRV.out.below HB.out)
          clear hks hR hx9 hbt hyl hsucc hpi hu hvk ho hg9b HN HVV HVG HUV HRV HPV HCV
          go_wp2_with fail
          refine CLO.out.mono ?_
          rintro e w9 ⟨rfl, hc9, Z9, vW9, vO9, hp9, ⟨p9, rfl⟩, hv9⟩
          obtain ⟨a9, c9, rfl⟩ := hp9.oform
          have hl9 : (Zk ++ [(p9, (N, ys), 1)]).length = Zk.length + 1 := by rw [List.length_append]; rfl
          have hob : ∀ g, (Value.slice aK Zk.length cK).ownBlock = some g → BlkT wr g 170 := fun g hg => own_blk HPI.out.ot hg
          have hr9 := HRR.out.chg hc9 (fun y hy ht hL => by
            rcases hL with rfl | hL | hL
            · have := HPZ.out.lt y HPZ.out.fb; omega
            · have := HVK.out y hL; omega
            · exact ht.elim (fun h => h.ne (hob y hL) (by decide) rfl) (fun h => h.ne (hob y hL) (by decide) rfl))
          have hcc : Chg F w0 w9 := HCR.out.trans hc9 (fun y hy hL => by
            rcases hL with rfl | hL | hL
            · exact HPZ.out.fb
            · exact HPZ.out.wf y (HV.out y hL)
            · exact (HPI.out.of y hL).elim (fun h => h) (fun h => by omega))
          have hp9' : PZ w9 (FN F w0 w9) b (stk s (k + 1)) (Zk ++ [(p9, (N, ys), 1)]) vW9 (.slice a9 (Zk ++ [(p9, (N, ys), 1)]).length c9) := by
            rw [← HSU.out]
            exact hp9.mono (fun y hy => (FN.up HCR.out.size hc9.size y).1 hy) (FN.lt HPZ.out.lt hcc.size)
          have HR9 := Lib.hid hr9
          have HC9 := Lib.hid hcc
          have HP9 := Lib.hid hp9'
          have HV9 : Hid (∀ g, vW9.ownBlock = some g → vW.ownBlock = some g) := fun g hg => HV.out g (hv9 g hg)
          have HZ9 : Hid ((Zk ++ [(p9, (N, ys), (1 : Int))]).length = Z.length + (k + 1)) := by show _ = _; rw [hl9, HZK.out]; omega
          have hz9 : (Zk ++ [(p9, (N, ys), (1 : Int))]).length ≤ 100 := by rw [HZ9.out]; omega
          clear hc9 hp9 hob hr9 hcc hp9' hv9 v0 v1
          go_wp2_with fail
          go_roundw
          case rel => exact ⟨k + 1, _, vW9, a9, c9, hkm1, by omega, by go_num, HZ9.out, hz9, HP9.out, HV9.out, HR9.out, HC9.out⟩
          case measure => simp [intOf]; omega
    · have hke : k = (sdT s).length := by
        obtain ⟨R, hR, _⟩ := sdT_split s
        have h9 : P.length = (sdT s).length + R.length := by rw [← HPK.out, hR, List.length_append]
        omega
      have HFS : Hid (stk s k = sdS s) := by rw [hke]; exact stk_end s
      have hpx := HP.out
      rw [HFS.out] at hpx
      have hfin : Hid (∀ r S w9, Chg F w0 wr → RowB w9 wr.heap.size r (sdT s) → Below wr.heap.size wr w9 → S = wr.heap.size → Chg F w0 w9 ∧ w0.heap.size ≤ S ∧ RowB w9 S r (sdT s) ∧ ∃ F' Z' vW' vO', PZ w9 F' b (sdS s) Z' vW' vO' ∧ (∀ k, F' k → F k ∨ w0.heap.size ≤ k) ∧ ∀ k, F' k → k < S) := fun r S w9 hc hr hb e => by
        subst e
        exact ⟨hc.trans (G := fun _ => False) (chg0 hb) (fun _ _ e => e.elim), hc.size, hr, _, _, _, _, hpx.below hb, FN.new, FN.lt HPZ.out.lt hc.size⟩
      obtain ⟨d0, d1, d2, d3, d4, df⟩ := hpx.cells
      have hle : Z.length ≤ Zk.length := by have := HZK.out; omega
      have hdec : decide ((k : Int) < (P.length : Int)) = false := decide_eq_false (by omega)
      clear hke d0 d1 d2 d3 df HR
      cases aK with
      | none =>
        have hn0 : Zk.length = 0 ∧ cK = 0 := by
          rcases hpx.ot.2 with ⟨h1, h2⟩ | ⟨g', cap', cur, hv, _⟩
          · rw [List.length_map] at h2
            simp only [Value.slice.injEq] at h1
            exact ⟨h2, h1.2.2⟩
          · cases hv
        have hz0 : Z.length = 0 := by omega
        have hs0 : sdT s = [] := by
          have h1 := HZK.out
          have h2 := hpx.llen
          have h3 : (sdS s).L.length = s.L.length + (sdT s).length := by
            show (s.L ++ (sdT s).map fun p => (p, (1 : Int))).length = _
            rw [List.length_append, List.length_map]
          exact List.eq_nil_of_length_eq_zero (by omega)
        obtain ⟨h1, h2⟩ := hn0
        have CB := Lib.hid (bof_any none 0 [] [] wr (Gs_nil (R := RPT) wr) rfl (fun i hi => absurd hi (Nat.not_lt_zero i)) (Nat.zero_le _) (fun i hi => absurd hi (Nat.not_lt_zero i)))
        have HS0 := Lib.hid hs0
        rw [h1] at d4
        subst h2
        rw [hz0]
        clear hpx hz0 hs0 h1 hle
        go_wp2_with fail
        refine CB.out.mono ?_
        rintro e w9 ⟨r, rfl, hr, hb9⟩
        have hr2 : RowB w9 wr.heap.size r (sdT s) := by rw [HS0.out]; exact hr
        obtain ⟨a9, c9, rfl⟩ := hr.form'
        have HRR := Lib.hid hr2
        have HB9 := Lib.hid hb9
        clear hr hb9 d4 hr2
        go_wp2_with fail
        try rw [Exit.noGoto_ret]
        try show bodyPost _ _ _ _ _ _
        go_ret
        exact ⟨_, wr.heap.size, rfl, hfin.out _ _ _ HC.out HRR.out HB9.out rfl⟩
      | some ad =>
        obtain ⟨rw9, h9⟩ : ∃ r9, wr.ownsRow 0 170 1 (.slice (some ad) Zk.length cK) Zk.length r9 := by
          have h9 := hpx.ot
          unfold OwP at h9
          rw [List.length_map] at h9
          exact ⟨_, h9⟩
        obtain ⟨gz, rfl⟩ := own_zero h9
        obtain ⟨A0, hA, hcall⟩ := sfin_any hpx HOK.out (n := Z.length) HPZ.out.llen.symm
        have HCALL := Lib.hid hcall
        have hcap : Zk.length ≤ cK := by
          rcases h9.2 with ⟨h1, _⟩ | ⟨g', cap', cur, hv, hb, hg, hnc, hcm, hcs, htake⟩
          · cases h1
          · simp only [Value.slice.injEq] at hv
            omega
        clear h9 hpx hcall
        go_wp2_with fail
        refine HCALL.out.mono ?_
        rintro e w9 ⟨r, rfl, hr, hb9⟩
        obtain ⟨a9, c9, rfl⟩ := hr.form'
        have HRR := Lib.hid hr
        have HB9 := Lib.hid hb9
        clear hr hb9 d4
        go_wp2_with fail
        try rw [Exit.noGoto_ret]
        try show bodyPost _ _ _ _ _ _
        go_ret
        exact ⟨_, wr.heap.size, rfl, hfin.out _ _ _ HC.out HRR.out HB9.out rfl⟩
end Go.Proofs.YtdigjklhfimnbaaGreat
