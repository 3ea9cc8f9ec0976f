/- Texts Pq12, Pq8, Psq, Tp1, Tk3, Tk4 of this proof, in one. No conditions but on lengths. -/
import Derived.Test.YthnajpckhoomgaaGreatRows
import Derived.Test.YthnajpckhoomgaaGreatU55
import Derived.Test.YthnajpckhoomgaaGreatU32
import Derived.Test.YthnajpckhoomgaaGreatU34
import Derived.ArgAppend
import Derived.Below
import Derived.BigQuiet
import Derived.Calls
import Derived.ChangeAlike
import Derived.ChangeArms
import Derived.ChangeMade
import Derived.ChangeOld
import Derived.Deep.Cut
import Derived.Deep.CutBlock
import Derived.Deep.QuietTactic
import Derived.Deep.RegionHeld
import Derived.Deep.RegionLaw
import Derived.Deep.RegionWith
import Derived.Deep.Slices
import Derived.Defers
import Derived.Ground.GgzProg
import Derived.Ground.Names2Prog
import Derived.Laws.AppendOwnNone
import Derived.Laws.BytesArg
import Derived.Laws.LoneSync
import Derived.Laws.OwnMore
import Derived.Laws.Pointers
import Derived.Laws.StructEq
import Derived.Lib.Hide
import Derived.Lib.OwnBridge
import Derived.Lib.QuietBelow
import Derived.Lib.SliceRun
import Derived.Lib.SlicesCompact
import Derived.LoopIn
import Derived.LoopTactic
import Derived.Maps.AppendAt
import Derived.Maps.Own
import Derived.Maps.OwnOps
import Derived.Maps.OwnSet
import Derived.Maps.RangeWalk
import Derived.Maps.Views
import Derived.OpenShut
import Derived.Orders
import Derived.Outline
import Derived.OwnWalkIn
import Derived.ProofKit
import Derived.RangeFuncBox
import Derived.RangeFuncCalls
import Derived.RangeFuncLeaves
import Derived.RangeFuncNested
import Derived.RegionCalls
import Derived.RegionTactic
import Derived.Shelf.RegionOpen
import Derived.Shelf.RegionOpenPlain
import Derived.Shelf.SlIterI.Nil
import Derived.Shelf.Slices.CompactI
import Derived.Shelf.Slices.In.SortNone
import Derived.Shelf.Sort.Plain
import Derived.ShutString
import Derived.Sort.Grow
import Derived.StillTail
import Derived.TacticsInMore
import Derived.WalkKit
import Derived.WalkLawsBesides
import Derived.WalkSpells
import Derived.WideShapes
namespace Go.Proofs.YthnajpckhoomgaaGreat
set_option maxRecDepth 100000
set_option linter.unusedVariables false
open Go.RowKit

def stk (s : Sd) (k : Nat) : Sd := { s with W := s.W.drop (cnt ((sdT s).take k)), L := s.L ++ ((sdT s).take k).map fun p => (p, 1), nx := numAt s.nx k }
theorem stk_zero (s : Sd) : stk s 0 = s := by
  unfold stk
  show ({ s with W := s.W, L := s.L ++ [], nx := s.nx } : Sd) = s
  rw [List.append_nil]
theorem stk_end (s : Sd) : stk s (sdT s).length = sdS s := by
  unfold stk sdS nxA
  rw [List.take_of_length_le (Nat.le_refl _)]
theorem cnt_app (a b : List Bt) : cnt (a ++ b) = cnt a + cnt b := by unfold cnt; rw [List.map_append, List.sum_append]
theorem sdT_one {s : Sd} {k : Nat} (hk : k < (sdT s).length) : (sdT s).take (k + 1) = (sdT s).take k ++ [(sdT s).getD k zb] := by
  rw [List.take_succ_eq_append_getElem hk]
  simp [List.getD, hk]
theorem stk_succ {s : Sd} (h : SdOk s) {k : Nat} (hk : k < (sdT s).length) : loS (stk s k) ((sdT s).getD k zb) = stk s (k + 1) := by
  unfold loS stk
  rw [sdT_one hk, cnt_app, List.map_append, List.drop_drop, List.append_assoc, numAt_succ, sdT_num h k hk]
  rfl
theorem cnt_le {s : Sd} (k : Nat) : cnt ((sdT s).take k) ≤ s.W.length := by
  have h1 := congrArg List.length (send_all s)
  rw [List.length_append, List.length_flatten, List.map_map] at h1
  have h2 : cnt (sdT s) = (List.map (List.length ∘ Prod.snd) (sdT s)).sum := rfl
  have h3 := cnt_app ((sdT s).take k) ((sdT s).drop k)
  rw [List.take_append_drop] at h3
  omega
theorem stk_len {s : Sd} (h : SdOk s) {k : Nat} (hk : k < (sdT s).length) : BtOk ((sdT s).getD k zb).1 ((sdT s).getD k zb).2 ∧ ((sdT s).getD k zb).2.length ≤ (stk s k).W.length := by
  obtain ⟨R, hR, _⟩ := sdT_split s
  have hl : k < (packL 512 s.W s.nx).length := by rw [hR, List.length_append]; omega
  have hb := packL_ok h.wok (most := 512) ⟨by decide, by decide⟩ s.nx k hl
  rw [hR, getD_app hk] at hb
  refine ⟨hb.1, ?_⟩
  have h1 := cnt_le (s := s) (k + 1)
  rw [sdT_one hk, cnt_app] at h1
  have h2 : cnt [(sdT s).getD k zb] = ((sdT s).getD k zb).2.length := Nat.add_zero _
  show _ ≤ (s.W.drop (cnt ((sdT s).take k))).length
  rw [List.length_drop]
  omega
theorem near_all {s : Sd} (h : SdOk s) {k : Nat} (hk : k < (sdT s).length) : ∀ e ∈ (stk s k).L, withB ((sdT s).getD k zb).1 e.1.1 s.win = true := fun e he => by
  have hx := sdT_in (getD_mem (d := zb) hk)
  have hn := sdT_num h k hk
  have hf := sdT_far h k hk
  rw [← hn] at hf
  have hle : far (fstN s) e.1.1 ≤ far (fstN s) ((sdT s).getD k zb).1 := by
    rcases List.mem_append.1 he with h1 | h1
    · have := h.below e h1; omega
    · obtain ⟨p, hp, rfl⟩ := List.mem_map.1 h1
      obtain ⟨i, hi, rfl⟩ := List.mem_iff_getElem.1 hp
      rw [List.length_take] at hi
      have hi' : i < (sdT s).length := by omega
      have e1 : ((sdT s).take k)[i] = (sdT s).getD i zb := by rw [List.getElem_take]; simp [List.getD, hi']
      have e2 := sdT_far h i hi'
      rw [← sdT_num h i hi'] at e2
      show far (fstN s) (((sdT s).take k)[i]).1 ≤ _
      rw [e1, e2, hf]
      omega
  have h3 := far_shift hle
  have h4 := far_bd (fstN s) e.1.1
  exact decide_eq_true (by rw [h3]; omega)
theorem far_stop {s : Sd} (h : SdOk s) {p : Bt} {R : List Bt} (hR : packL 512 s.W s.nx = sdT s ++ p :: R) : ∃ e, (sdS s).L[0]? = some e ∧ withB p.1 e.1.1 s.win = false := by
  obtain ⟨R2, hR2, hno⟩ := sdT_split s
  have e2 : R2 = p :: R := List.append_cancel_left (hR2.symm.trans hR)
  have hno2 := hno p R e2
  cases hL : (sdS s).L with
  | nil =>
    have hL' : s.L ++ (sdT s).map (fun p => (p, (1 : Int))) = [] := hL
    obtain ⟨h1, h2⟩ := List.append_eq_nil_iff.1 hL'
    have h3 : sdT s = [] := List.map_eq_nil_iff.1 h2
    have hl : 0 < (packL 512 s.W s.nx).length := by rw [hR, List.length_append, List.length_cons]; omega
    have hn := packL_num 512 s.W s.nx 0 hl
    rw [lft_nx h, hR, h3] at hn
    have hn' : p.1 = s.nx := hn
    have hf : fstN s = s.nx := by unfold fstN; rw [h1]
    rw [hn', hf, far_self] at hno2
    exact absurd (by have := h.win; omega) hno2
  | cons e l =>
    refine ⟨e, rfl, ?_⟩
    have hf : fstN (sdS s) = e.1.1 := by unfold fstN; rw [hL]
    rw [fst_send h] at hf
    rw [hf] at hno2
    exact decide_eq_false hno2
end Go.Proofs.YthnajpckhoomgaaGreat
namespace Go.Proofs.YthnajpckhoomgaaGreat
set_option maxRecDepth 100000
set_option linter.unusedVariables false
open Go.RowKit

theorem PZ.pt {w : World} {F : Nat → Prop} {b : Nat} {s : Sd} {Z : Zs1} {vW : Value} {a : Option Addr} {c n : Nat} (h : PZ w F b s Z vW (.slice a n c)) (hn : n = Z.length) {k : Nat} {z : Nat × Bt × Int} (hz : Z[k]? = some z) : ∃ g off, a = some ⟨g, off, none⟩ ∧ w.cell? ⟨g, off + k, none⟩ = some (ptr z.1) ∧ SndAt w F vW z.1 z.2 ∧ w.cell? ⟨z.1, 2, none⟩ = some (.int .i64 z.2.2) ∧ w.frozen? ⟨z.1, 2, none⟩ = false ∧ w.cell? ⟨z.1, 0, none⟩ = some (.int .i64 z.2.1.1) := by
  subst hn
  obtain ⟨hk, rfl⟩ := List.getElem?_eq_some_iff.1 hz
  obtain ⟨ps, hps⟩ : ∃ ps, Z.map Prod.fst = ps := ⟨_, rfl⟩
  have hpl : ps.length = Z.length := by rw [← hps, List.length_map]
  have hot : OwP w (.slice a ps.length c) ps := by rw [hpl, ← hps]; exact h.ot
  obtain ⟨g, off, h1, h2, h3⟩ := pt_at (Gs_of_own (R := RPT) hot).1 (i := k) (by omega)
  have e : ps.getD k 0 = Z[k].1 := by rw [← hps]; simp [List.getD, hk]
  rw [e] at h3
  have hs := h.snd _ (List.getElem_mem hk)
  obtain ⟨u, h4, h5⟩ := hs.cell
  exact ⟨g, off, h1, h3, hs, by simp [World.cell?, h4], by simp [World.frozen?, h4], by simp [World.cell?, h4]⟩
def incZ (z : Nat × Bt × Int) : Nat × Bt × Int := (z.1, z.2.1, z.2.2 + 1)
theorem agB_no {s : Sd} {Z : Zs1} (hz : s.L = Z.map Prod.snd) {k : Nat} {z : Nat × Bt × Int} (hk : Z[k]? = some z) (h : z.2.2 = s.tries) : agB s = false := by
  obtain ⟨hk', rfl⟩ := List.getElem?_eq_some_iff.1 hk
  unfold agB
  rw [List.all_eq_false]
  exact ⟨Z[k].2, by rw [hz]; exact List.mem_map.2 ⟨_, List.getElem_mem hk', rfl⟩, by simp; omega⟩
theorem agB_yes {s : Sd} {Z : Zs1} (hok : SdOk s) (hz : s.L = Z.map Prod.snd) (h : ∀ (k : Nat) (z : Nat × Bt × Int), Z[k]? = some z → z.2.2 ≠ s.tries) : agB s = true := by
  unfold agB
  rw [List.all_eq_true]
  intro e he
  have h1 := hok.sent e he
  rw [hz] at he
  obtain ⟨z, hz2, rfl⟩ := List.mem_map.1 he
  obtain ⟨k, hk, rfl⟩ := List.mem_iff_getElem.1 hz2
  have := h k Z[k] (List.getElem?_eq_getElem hk)
  exact decide_eq_true (by omega)
theorem agS_map {s : Sd} {Z : Zs1} (hb : agB s = true) (hz : s.L = Z.map Prod.snd) : { s with L := (Z.map incZ).map Prod.snd } = agS s := by
  unfold agS
  rw [if_pos hb, hz, List.map_map, List.map_map]
  rfl
theorem inc_step {Z : Zs1} {k : Nat} {z : Nat × Bt × Int} (hz : Z[k]? = some z) : (Z.take k).map incZ ++ Z.drop k = (Z.take k).map incZ ++ z :: Z.drop (k + 1) ∧ (Z.take (k + 1)).map incZ ++ Z.drop (k + 1) = (Z.take k).map incZ ++ incZ z :: Z.drop (k + 1) := by
  obtain ⟨hk, rfl⟩ := List.getElem?_eq_some_iff.1 hz
  constructor
  · rw [List.drop_eq_getElem_cons hk]
  · rw [List.take_succ_eq_append_getElem hk, List.map_append, List.append_assoc]
    rfl
theorem inc_at {Z : Zs1} {k : Nat} {z : Nat × Bt × Int} (hz : Z[k]? = some z) : ((Z.take k).map incZ ++ Z.drop k)[k]? = some z ∧ ((Z.take k).map incZ ++ Z.drop k).length = Z.length := by
  obtain ⟨hk, rfl⟩ := List.getElem?_eq_some_iff.1 hz
  have hl : ((Z.take k).map incZ).length = k := by rw [List.length_map, List.length_take]; omega
  refine ⟨?_, by rw [List.length_append, hl, List.length_drop]; omega⟩
  rw [List.getElem?_append_right (by omega), hl, Nat.sub_self, List.getElem?_drop, Nat.add_zero, List.getElem?_eq_getElem hk]
section
variable {w : World} {F : Nat → Prop} {b : Nat} {s : Sd} {Z : Zs1} {vW vO : Value}
set_option maxHeartbeats 8000000 in
theorem pagain_any (h : PZ w F b s Z vW vO) (hok : SdOk s) : Calls Tryz.prog 39 #[.pointer (some ⟨b, 0, none⟩)] w fun e w' => ∃ r, e = .returned (.tuple #[r, .bool (agB s)]) ∧ Chg F w w' ∧ (∃ Z', PZ w' F b (agS s) Z' vW vO) ∧ RowB w' w.heap.size r (agL s) := by
  obtain ⟨aO, cO, rfl⟩ := h.oform
  have HPZ := Lib.hid h
  have HOK := Lib.hid hok
  have hzl : Z.length ≤ 16 := (h.olen hok).1
  obtain ⟨c0, c1, c2, c3, c4, cf⟩ := h.cells
  clear h hok c0 c1 c2 c3 cf
  go_enter Tryz.func39, Tryz.ntmps39
  go_wp2_with fail
  clear c4
  go_loopw [15] (fun iv wr => ∃ k : Nat, k ≤ Z.length ∧ iv = .int .i64 k ∧ Hid (Below w.heap.size w wr) ∧ Hid (∀ (i : Nat) (z : Nat × Bt × Int), i < k → Z[i]? = some z → z.2.2 ≠ s.tries)) (fun i _ => Z.length - (intOf i).toNat)
  case atStart => exact ⟨0, Nat.zero_le _, rfl, Below.refl _ _, fun i z hi => absurd hi (Nat.not_lt_zero i)⟩
  case round =>
    obtain ⟨k, hk, rfl, HB, HN⟩ := hrel
    by_cases hlt : k < Z.length
    · have hr := HPZ.out.below HB.out
      obtain ⟨z, hz⟩ : ∃ z, Z[k]? = some z := ⟨_, List.getElem?_eq_getElem hlt⟩
      obtain ⟨g, off, rfl, p0, hs, p2, pf, -⟩ := hr.pt rfl hz
      obtain ⟨c0, c1, c2, c3, c4, cf⟩ := hr.cells
      obtain ⟨p, ⟨n, ys⟩, t⟩ := z
      simp only at p0 p2 pf
      have HR := Lib.hid hr
      have HZ := Lib.hid hz
      have CL := Lib.hid (fun W h => sload_any p 2 t W h)
      have hltz : (k : Int) < Z.length := by omega
      have hbl := hr.lt b hr.fb
      have hpl := hr.lt p hs.f
      have kc : ∀ w', Below wr.heap.size wr w' → w'.cell? ⟨b, 1, none⟩ = some (.int .i64 s.tries) ∧ w'.cell? ⟨p, 2, none⟩ = some (.int .i64 t) := fun w' h => ⟨(h.cell (p := ⟨b, 1, none⟩) hbl).trans c1, (h.cell (p := ⟨p, 2, none⟩) hpl).trans p2⟩
      clear c0 c1 c2 c3 c4 cf hs hr hz pf p2
      go_upto_region 6 with (fail)
      clear p0
      refine T3.wp_region_tail (C := fun w' => Below wr.heap.size wr w') (X := fun _ w w' => Below w.heap.size w w') (n := 45) 8 (by kernel_rfl) (by kernel_rfl) (by kernel_rfl) (by kernel_rfl) rfl (fun _ w => Below.refl _ w) (Below.refl _ _).drew ?_
      simp only [List.take_succ_cons, List.take_zero, List.drop_succ_cons, List.drop_zero]
      refine T3.w_is (fun _ w => Below.refl _ w) rfl _ (.inl rfl) (fun ρ w hC hc hfn hf => by have e5 : ρ (.tmp 5) = _ := hf 5 (by decide); (conv => lhs; simp [execOp, go_sem, hc, e5])) ?_
      refine T3.w_is (fun _ w => Below.refl _ w) rfl _ (.inl rfl) (fun ρ w hC hc hfn hf => by have e19 : ρ (.tmp 19) = _ := hf 19 (by decide); (conv => lhs; simp [execOp, go_sem, hc, e19])) ?_
      refine T3.w_is (fun _ w => Below.refl _ w) rfl _ (.inl rfl) (fun ρ w hC hc hfn hf => by have e20 : ρ (.tmp 20) = _ := hf 20 (by decide); (conv => lhs; simp [execOp, go_sem, hc, e20])) ?_
      refine T3.w_call rfl (Is _) (fun _ _ _ _ _ h _ => h) 70 (.inl rfl) (fun ρ w hC hc hfn hf => by have e21 : ρ (.tmp 21) = _ := hf 21 (by decide); exact ⟨_, by (conv => lhs; simp [execOp, resolve, invoke, go_sem, hc, hfn, e21]), (sload_any p 2 t w (kc w hC).2).mono fun e w' h => by obtain ⟨rfl, rfl⟩ := h; exact ⟨_, rfl, hC, Below.refl _ _, rfl⟩⟩) ?_
      refine T3.w_is (fun _ w => Below.refl _ w) rfl _ (.inl rfl) (fun ρ w hC hc hfn hf => by have e0 : ρ (.tmp 0) = _ := hf 0 (by decide); (conv => lhs; simp [execOp, go_sem, hc, e0])) ?_
      refine T3.w_is (fun _ w => Below.refl _ w) rfl _ (.inl rfl) (fun ρ w hC hc hfn hf => by have e23 : ρ (.tmp 23) = _ := hf 23 (by decide); (conv => lhs; simp [execOp, go_sem, hc, e23])) ?_
      refine T3.w_is (fun _ w => Below.refl _ w) rfl _ (.inl rfl) (fun ρ w hC hc hfn hf => by have e24 : ρ (.tmp 24) = _ := hf 24 (by decide); (conv => lhs; simp [execOp, go_sem, hc, e24])) ?_
      refine T3.w_is (fun _ w => Below.refl _ w) rfl _ (.inl rfl) (fun ρ w hC hc hfn hf => by have e25 : ρ (.tmp 25) = _ := hf 25 (by decide); (conv => lhs; simp [execOp, go_sem, hc, e25, kc w hC])) ?_
      intro A V5 hC hn hd hf
      have y0 : A.eval (.tmp 0) = _ := Eq.trans (hf 0) (by conv => lhs; simp [go_sem])
      have y1 : A.eval (.tmp 1) = _ := Eq.trans (hf 1) (by conv => lhs; simp [go_sem])
      have y2 : A.eval (.tmp 2) = _ := Eq.trans (hf 2) (by conv => lhs; simp [go_sem])
      have y3 : A.eval (.tmp 3) = _ := Eq.trans (hf 3) (by conv => lhs; simp [go_sem])
      have y4 : A.eval (.tmp 4) = _ := Eq.trans (hf 4) (by conv => lhs; simp [go_sem])
      have y5 : A.eval (.tmp 5) = _ := Eq.trans (hf 5) (by conv => lhs; simp [go_sem])
      have y6 : A.eval (.tmp 6) = _ := Eq.trans (hf 6) (by conv => lhs; simp [go_sem])
      have y7 : A.eval (.tmp 7) = _ := Eq.trans (hf 7) (by conv => lhs; simp [go_sem])
      have y8 : A.eval (.tmp 8) = _ := Eq.trans (hf 8) (by conv => lhs; simp [go_sem])
      have y9 : A.eval (.tmp 9) = _ := Eq.trans (hf 9) (by conv => lhs; simp [go_sem])
      have y10 : A.eval (.tmp 10) = _ := Eq.trans (hf 10) (by conv => lhs; simp [go_sem])
      have y11 : A.eval (.tmp 11) = _ := Eq.trans (hf 11) (by conv => lhs; simp [go_sem])
      have y12 : A.eval (.tmp 12) = _ := Eq.trans (hf 12) (by conv => lhs; simp [go_sem])
      have y13 : A.eval (.tmp 13) = _ := Eq.trans (hf 13) (by conv => lhs; simp [go_sem])
      have y14 : A.eval (.tmp 14) = _ := Eq.trans (hf 14) (by conv => lhs; simp [go_sem])
      have y15 : A.eval (.tmp 15) = _ := Eq.trans (hf 15) (by conv => lhs; simp [go_sem])
      have y16 : A.eval (.tmp 16) = _ := Eq.trans (hf 16) (by conv => lhs; simp [go_sem])
      have y17 : A.eval (.tmp 17) = _ := Eq.trans (hf 17) (by conv => lhs; simp [go_sem])
      have y18 : A.eval (.tmp 18) = _ := Eq.trans (hf 18) (by conv => lhs; simp [go_sem])
      have y19 : A.eval (.tmp 19) = _ := hf 19
      have y20 : A.eval (.tmp 20) = _ := hf 20
      have y21 : A.eval (.tmp 21) = _ := hf 21
      have y22 : A.eval (.tmp 22) = _ := hf 22
      have y23 : A.eval (.tmp 23) = _ := hf 23
      have y24 : A.eval (.tmp 24) = _ := hf 24
      have y25 : A.eval (.tmp 25) = _ := hf 25
      have y26 : A.eval (.tmp 26) = _ := hf 26
      have y27 : A.eval (.tmp 27) = _ := Eq.trans (hf 27) (by conv => lhs; simp [go_sem])
      have y28 : A.eval (.tmp 28) = _ := Eq.trans (hf 28) (by conv => lhs; simp [go_sem])
      have y29 : A.eval (.tmp 29) = _ := Eq.trans (hf 29) (by conv => lhs; simp [go_sem])
      have y30 : A.eval (.tmp 30) = _ := Eq.trans (hf 30) (by conv => lhs; simp [go_sem])
      have y31 : A.eval (.tmp 31) = _ := Eq.trans (hf 31) (by conv => lhs; simp [go_sem])
      have y32 : A.eval (.tmp 32) = _ := Eq.trans (hf 32) (by conv => lhs; simp [go_sem])
      have y33 : A.eval (.tmp 33) = _ := Eq.trans (hf 33) (by conv => lhs; simp [go_sem])
      have y34 : A.eval (.tmp 34) = _ := Eq.trans (hf 34) (by conv => lhs; simp [go_sem])
      have y35 : A.eval (.tmp 35) = _ := Eq.trans (hf 35) (by conv => lhs; simp [go_sem])
      have y36 : A.eval (.tmp 36) = _ := Eq.trans (hf 36) (by conv => lhs; simp [go_sem])
      have y37 : A.eval (.tmp 37) = _ := Eq.trans (hf 37) (by conv => lhs; simp [go_sem])
      have y38 : A.eval (.tmp 38) = _ := Eq.trans (hf 38) (by conv => lhs; simp [go_sem])
      have y39 : A.eval (.tmp 39) = _ := Eq.trans (hf 39) (by conv => lhs; simp [go_sem])
      have y40 : A.eval (.tmp 40) = _ := Eq.trans (hf 40) (by conv => lhs; simp [go_sem])
      have y41 : A.eval (.tmp 41) = _ := Eq.trans (hf 41) (by conv => lhs; simp [go_sem])
      have y42 : A.eval (.tmp 42) = _ := Eq.trans (hf 42) (by conv => lhs; simp [go_sem])
      have y43 : A.eval (.tmp 43) = _ := Eq.trans (hf 43) (by conv => lhs; simp [go_sem])
      have y44 : A.eval (.tmp 44) = _ := Eq.trans (hf 44) (by conv => lhs; simp [go_sem])
      clear hf
      have hA := frame_eq hn
      rw [show List.range 45 = [0, 1, 2, 3, 4, 5, 6, 7, 8, 9, 10, 11, 12, 13, 14, 15, 16, 17, 18, 19, 20, 21, 22, 23, 24, 25, 26, 27, 28, 29, 30, 31, 32, 33, 34, 35, 36, 37, 38, 39, 40, 41, 42, 43, 44] from rfl, hd] at hA
      simp only [List.map_cons, List.map_nil, y0, y1, y2, y3, y4, y5, y6, y7, y8, y9, y10, y11, y12, y13, y14, y15, y16, y17, y18, y19, y20, y21, y22, y23, y24, y25, y26, y27, y28, y29, y30, y31, y32, y33, y34, y35, y36, y37, y38, y39, y40, y41, y42, y43, y44] at hA
      clear y0 y1 y2 y3 y4 y5 y6 y7 y8 y9 y10 y11 y12 y13 y14 y15 y16 y17 y18 y19 y20 y21 y22 y23 y24 y25 y26 y27 y28 y29 y30 y31 y32 y33 y34 y35 y36 y37 y38 y39 y40 y41 y42 y43 y44
      clear hn hd
      subst hA
      have HB5 := Lib.hid (HB.out.trans (hC.mono HB.out.size))
      clear kc hC
      by_cases ht : t = s.tries
      · have hag : Hid (agB s = false) := agB_no HPZ.out.zl HZ.out ht
        have hb9 : (t == s.tries) = true := by rw [ht]; exact beq_self_eq_true _
        clear ht
        go_wp2_with fail
        go_ret2
        have hal : agL s = [] := by unfold agL; rw [hag.out]; rfl
        have has : agS s = s := by unfold agS; rw [hag.out]; rfl
        rw [hag.out, hal, has]
        exact ⟨_, rfl, chg0 HB5.out, ⟨Z, HPZ.out.below HB5.out⟩, RowB_nil _ _⟩
      · have hb9 : (t == s.tries) = false := beq_false_of_ne ht
        have HT := Lib.hid ht
        clear ht
        go_wp2_with fail
        go_roundw
        case rel => exact ⟨k + 1, by omega, by go_num, HB5.out, fun i z hi hz => by
          by_cases h9 : i = k
          · subst h9
            have e := hz.symm.trans HZ.out
            cases e
            exact HT.out
          · exact HN.out i z (by omega) hz⟩
        case measure => simp [intOf]; omega
    · obtain rfl : k = Z.length := by omega
      have hag : Hid (agB s = true) := agB_yes HOK.out HPZ.out.zl (fun i z hz => HN.out i z (List.getElem?_eq_some_iff.1 hz).1 hz)
      have hr := HPZ.out.below HB.out
      obtain ⟨c0, c1, c2, c3, c4, cf⟩ := hr.cells
      have HR := Lib.hid hr
      clear hr HN c0 c1 c2 c3 cf
      go_wp2_with fail
      clear c4
      obtain ⟨wo, hwo⟩ : ∃ wo, wo = wr := ⟨_, rfl⟩
      subst hwo
      go_loopw [34] (fun iv wr => ∃ (k : Nat), k ≤ Z.length ∧ iv = .int .i64 k ∧ Hid (Chg F w wr) ∧ Hid (wr.heap.size = wo.heap.size) ∧ Hid (PZ wr F b { s with L := ((Z.take k).map incZ ++ Z.drop k).map Prod.snd } ((Z.take k).map incZ ++ Z.drop k) vW (.slice aO Z.length cO))) (fun i _ => Z.length - (intOf i).toNat)
      case atStart =>
        refine ⟨0, Nat.zero_le _, rfl, ((chg0 HB.out) : Chg F w wo), rfl, ?_⟩
        have e : ({ s with L := ((Z.take 0).map incZ ++ Z.drop 0).map Prod.snd } : Sd) = s := by
          have e2 : ((Z.take 0).map incZ ++ Z.drop 0).map Prod.snd = s.L := HPZ.out.zl.symm
          rw [e2]
        rw [e]
        exact HR.out
      case round =>
        obtain ⟨k, hk, rfl, HC, HS, HP⟩ := hrel
        by_cases hlt : k < Z.length
        · obtain ⟨z, hz⟩ : ∃ z, Z[k]? = some z := ⟨_, List.getElem?_eq_getElem hlt⟩
          obtain ⟨q1, q2⟩ := inc_at hz
          obtain ⟨q3, q4⟩ := inc_step hz
          obtain ⟨g, off, rfl, p0, hs, p2, pf, -⟩ := HP.out.pt q2.symm q1
          have ht := HOK.out.sent z.2 (by rw [HPZ.out.zl]; exact List.mem_map.2 ⟨z, List.mem_of_getElem? hz, rfl⟩)
          have ht2 := HOK.out.tries
          have hP := HP.out
          rw [q3] at hP
          obtain ⟨p, ⟨n, ys⟩, t⟩ := z
          have hts := hP.tset (t + 1)
          simp only at p0 p2 pf ht
          have hw : IntKind.i64.wrap (t + 1) = t + 1 := by rw [IntKind.wrap_i64]; omega
          have CA := Lib.hid (sadd_any p 2 t 1 wr p2 pf hw)
          have HTS := Lib.hid hts
          have HFP := Lib.hid hs.f
          have HQ4 := Lib.hid q4
          have hltz : (k : Int) < Z.length := by omega
          clear q1 q2 q3 q4 p2 pf hs hP hts ht ht2 hw hz
          go_wp2_with fail
          refine CA.out.mono ?_
          rintro e w9 ⟨rfl, hw9⟩
          have HC9 : Hid (Chg F w w9) := hw9 ▸ HC.out.setCell (.inl HFP.out) _
          have HS9 : Hid (w9.heap.size = wo.heap.size) := by show _ = _; rw [hw9, ← HS.out]; simp [World.setCell]
          have HP9 : Hid (PZ w9 F b { s with L := ((Z.take (k + 1)).map incZ ++ Z.drop (k + 1)).map Prod.snd } ((Z.take (k + 1)).map incZ ++ Z.drop (k + 1)) vW (.slice (some ⟨g, off, none⟩) Z.length cO)) := by
            show PZ _ _ _ _ _ _ _
            rw [HQ4.out, hw9]
            exact HTS.out
          clear p0 hw9
          go_wp2_with fail
          go_roundw
          case rel => exact ⟨k + 1, by omega, by go_num, HC9.out, HS9.out, HP9.out⟩
          case measure => simp [intOf]; omega
        · obtain rfl : k = Z.length := by omega
          have e1 : (Z.take Z.length).map incZ ++ Z.drop Z.length = Z.map incZ := by simp
          have hP := HP.out
          rw [e1, agS_map hag.out HPZ.out.zl] at hP
          have CO := Lib.hid (pout_any hP (sdok_again HOK.out))
          have HPF := Lib.hid hP
          have hao : agL s = (agS s).out := by unfold agL; rw [if_pos hag.out, out_again]
          have HAO := Lib.hid hao
          clear e1 hP HP hao
          go_wp2_with fail
          refine CO.out.mono ?_
          rintro e w9 ⟨⟨a1, c1, rfl, ho⟩, hb⟩
          have HO := Lib.hid ho
          have HB9 := Lib.hid hb
          clear ho hb
          go_wp2_with fail
          go_ret2
          rw [hag.out, HAO.out]
          refine ⟨_, rfl, HC.out.trans (G := fun _ => False) (chg0 HB9.out) (fun _ _ e => e.elim), ⟨_, HPF.out.below HB9.out⟩, ?_⟩
          obtain ⟨vs, k1, k2, k3⟩ := HO.out
          have hsz : w.heap.size ≤ wr.heap.size := HC.out.size
          exact ⟨vs, k1, gown_mono k2 hsz, fun i hi => ⟨(k3 i hi).1, gown_mono (k3 i hi).2 hsz⟩⟩
end
end Go.Proofs.YthnajpckhoomgaaGreat
namespace Go.Proofs.YthnajpckhoomgaaGreat
set_option maxRecDepth 100000
open Go.RowKit Go.Sort Go.Shelf

theorem infoI3 : (Tryz.prog.info? 3).map (fun i => (i.zero, i.size, i.bytes)) = some (some (.int .i64 0), 1, 8) := by kernel_rfl
theorem underI3 : Tryz.prog.underlying 94 = some (.slice 3) := by kernel_rfl
theorem Zs_of_own {w : World} {base n : Nat} {v : Value} {xs : List Int} (h : w.ownsRow base 3 1 v n (xs.map (Value.int .i64))) (hn : xs.length ≤ 9223372036854775807) : Zs w v xs := by
  have hl : n = xs.length := by simpa using h.1.symm
  refine ⟨hn, ?_⟩
  rcases h.2 with ⟨hnil, he⟩ | ⟨g, cap, cur, hv, hbase, hb, h1, h2, h3, h4⟩
  · have : xs = [] := List.length_eq_zero_iff.1 (by omega)
    subst this
    exact .inl ⟨none, 0, by simpa using hnil, fun _ => rfl, rfl⟩
  · refine .inr ⟨g, 0, cap, by rw [← hl]; exact hv, by omega, fun i hi => ?_⟩
    have e1 : (cur.toList.take (n * 1))[i]? = (xs.map (Value.int .i64))[i]? := by rw [h4]
    rw [List.getElem?_take, if_pos (by omega), Array.getElem?_toList] at e1
    simp only [World.cell?, hb, Nat.zero_add]
    simp only [Option.isSome_none, Bool.false_eq_true, if_false]
    rw [e1]
    simp [List.getD, hi]
theorem newsI_of {w : World} {b off : Nat} {xs : List Int} (hc : ∀ i, i < xs.length → w.cell? ⟨b, off + i, none⟩ = some (.int .i64 (xs.getD i 0))) : ∀ j u, (xs.map (Value.int .i64))[j]? = some u → w.cell? ((⟨b, off, none⟩ : Addr).add j) = some u := by
  intro j u h
  have hj : j < xs.length := by
    rcases Nat.lt_or_ge j xs.length with h' | h'
    · exact h'
    · rw [List.getElem?_eq_none (by simpa using h')] at h; cases h
  have hadd : (⟨b, off, none⟩ : Addr).add j = ⟨b, off + j, none⟩ := by unfold Addr.add; split <;> simp_all
  rw [hadd, hc j hj]
  simp [hj] at h
  simp [List.getD, hj, h]
theorem onesI (xs : List Int) : ∀ u ∈ xs.map (Value.int .i64), u.oneCell' = true := by
  intro u hu
  obtain ⟨x, _, rfl⟩ := List.mem_map.1 hu
  rfl
/-- append of numbers to a row of the call's own. -/
theorem appI_any {ops : Array Oper} {rest : List Oper} {o : Oper} {a : Act} {Q : Exit → Act → World → Prop} {w : World} (hgd : o.guard = none) (s x : Operand)
    (ho : o.op = .call { callee := .builtin .append, args := #[s, x], argTypes := #[94, 94] }) (base : Nat) (xs ys : List Int)
    (hown : w.ownsRow base 3 1 (a.eval s) xs.length (xs.map (Value.int .i64))) (hx : Zs w (a.eval x) ys) (h63 : xs.length + ys.length ≤ 1000) (hbase : base ≤ w.heap.size)
    (h : ∀ v' w', w'.ownsRow base 3 1 v' (xs ++ ys).length ((xs ++ ys).map (Value.int .i64)) → Below base w w' → w.heap.size ≤ w'.heap.size → (v' = .slice none 0 0 → a.eval s = .slice none 0 0) → wpList Tryz.prog ops Q rest (a.put o.dst v') w') : wpList Tryz.prog ops Q (o :: rest) a w := by
  obtain ⟨i0, hi, hz0, hz1, hz2⟩ := info_parts infoI3
  obtain ⟨_, ⟨ad, cap, hv, hz, rfl⟩ | ⟨b, off, cap, hv, hcap, hcs⟩⟩ := hx
  · cases ad with
    | none =>
      obtain rfl : cap = 0 := hz rfl
      refine wpList_append_own_none hgd s x 94 ho base 3 i0 1 underI3 hi _ _ _ rfl hown hv ?_
      rw [List.append_nil] at h
      exact h _ _ hown (Below.refl _ _) (Nat.le_refl _) id
    | some ad =>
      refine wpList_append_own w hgd s x 94 ho base 3 i0 (.int .i64 0) 1 8 underI3 hi hz0 hz1 hz2 rfl (by decide) _ _ _ rfl hown ad 0 cap [] hv (by simp) (by simp) (by simp) (by unfold maxLen; omega) (by omega) hbase fun v' w1 hown1 hgrow hnil => ?_
      exact h v' w1 (by simpa using hown1) ((Below.refl _ w).grown hgrow hbase (fun k hk => (hown.lt k hk).1)) hgrow.size fun hn => (hnil.1 hn).1
  · refine wpList_append_own w hgd s x 94 ho base 3 i0 (.int .i64 0) 1 8 underI3 hi hz0 hz1 hz2 rfl (by decide) _ _ _ rfl hown ⟨b, off, none⟩ ys.length cap (ys.map (Value.int .i64)) hv (by simp) (newsI_of hcs) (onesI ys) (by unfold maxLen; omega) (by omega) hbase fun v' w1 hown1 hgrow hnil => ?_
    refine h v' w1 ?_ ((Below.refl _ w).grown hgrow hbase (fun k hk => (hown.lt k hk).1)) hgrow.size fun hn => (hnil.1 hn).1
    rw [List.length_append, List.map_append]; exact hown1
theorem sorted_unique : ∀ (xs ys : List Int), xs.Pairwise (· < ·) → ys.Pairwise (· < ·) → (∀ x, x ∈ xs ↔ x ∈ ys) → xs = ys := by
  intro xs
  induction xs with
  | nil =>
    intro ys _ _ h
    cases ys with
    | nil => rfl
    | cons y ys => have := (h y).2 (by simp); simp at this
  | cons x xs ih =>
    intro ys hx hy h
    cases ys with
    | nil => have := (h x).1 (by simp); simp at this
    | cons y ys =>
      rw [List.pairwise_cons] at hx hy
      have hxy : x = y := by
        have h1 := (h x).1 (by simp)
        have h2 := (h y).2 (by simp)
        rcases List.mem_cons.1 h1 with h1 | h1
        · exact h1
        · rcases List.mem_cons.1 h2 with h2 | h2
          · exact h2.symm
          · have := hx.1 _ h2; have := hy.1 _ h1; omega
      subst hxy
      rw [ih ys hx.2 hy.2 fun z => ?_]
      constructor
      · intro hz
        rcases List.mem_cons.1 ((h z).1 (List.mem_cons_of_mem _ hz)) with e | e
        · have := hx.1 _ hz; omega
        · exact e
      · intro hz
        rcases List.mem_cons.1 ((h z).2 (List.mem_cons_of_mem _ hz)) with e | e
        · have := hy.1 _ hz; omega
        · exact e
theorem getBang (zs : List Int) (i : Nat) (h : i < zs.length) : zs.toArray[i]! = zs[i] := by simp [h]
theorem compact_lt (zs : List Int) (h : zs.Pairwise (· ≤ ·)) : (Lib.compact zs).Pairwise (· < ·) := by
  unfold Lib.compact Lib.compactUpTo
  rw [List.pairwise_map]
  have hr : (List.range zs.length).Pairwise (· < ·) := List.pairwise_lt_range
  have hf := List.Pairwise.filter (Lib.keeps zs.toArray) hr
  refine List.Pairwise.imp_of_mem ?_ hf
  intro i j hi hj hij
  obtain ⟨hi1, -⟩ := List.mem_filter.1 hi
  obtain ⟨hj1, hj2⟩ := List.mem_filter.1 hj
  have hi' : i < zs.length := List.mem_range.1 hi1
  have hj' : j < zs.length := List.mem_range.1 hj1
  simp only [Lib.keeps, decide_eq_true_eq] at hj2
  have h2 : zs.toArray[j]! ≠ zs.toArray[j - 1]! := by
    rcases hj2 with h | h
    · omega
    · exact h
  rw [getBang _ _ hi', getBang _ _ hj'] at *
  rw [getBang _ _ (by omega)] at h2
  have h3 : zs[j - 1]'(by omega) ≤ zs[j] := List.pairwise_iff_getElem.1 h _ _ (by omega) hj' (by omega)
  have h4 : zs[i] ≤ zs[j - 1]'(by omega) := by
    rcases Nat.lt_or_ge i (j - 1) with h | h
    · exact List.pairwise_iff_getElem.1 ‹_› _ _ hi' (by omega) h
    · have : i = j - 1 := by omega
      subst this; exact Int.le_refl _
  omega
theorem compact_mem (zs : List Int) (x : Int) : x ∈ Lib.compact zs ↔ x ∈ zs := by
  unfold Lib.compact Lib.compactUpTo
  simp only [List.mem_map, List.mem_filter, List.mem_range]
  constructor
  · rintro ⟨i, ⟨hi, -⟩, rfl⟩
    rw [getBang _ _ hi]; exact List.getElem_mem hi
  · intro hx
    obtain ⟨j, hj, rfl⟩ := List.getElem_of_mem hx
    have key : ∀ (j : Nat) (hj : j < zs.length), ∃ i, (i < zs.length ∧ Lib.keeps zs.toArray i = true) ∧ zs.toArray[i]! = zs[j] := by
      intro j
      induction j with
      | zero => intro hj; exact ⟨0, ⟨hj, by simp [Lib.keeps]⟩, getBang _ _ hj⟩
      | succ j ih =>
        intro hj
        by_cases he : zs.toArray[j + 1]! = zs.toArray[j]!
        · obtain ⟨i, h1, h2⟩ := ih (by omega)
          refine ⟨i, h1, ?_⟩
          rw [getBang _ _ hj, getBang _ _ (by omega)] at he
          rw [h2, he]
        · exact ⟨j + 1, ⟨hj, Lib.keeps_pos he⟩, getBang _ _ hj⟩
    exact key j hj
theorem far_left (f a : Int) : (f + far f a) % 65536 = left a := by unfold far left; omega
theorem far_back (f d : Int) (h0 : 0 ≤ d) (h1 : d < 65536) : far f ((f + d) % 65536) = d := by unfold far; omega
theorem far_left' (f a : Int) : far f (left a) = far f a := by unfold far left; omega
/-- What the program's Sort answers. -/
def dists (f : Int) (xs : List Int) : List Int := Lib.compact ((xs.map (far f)).mergeSort fun x y => decide (x ≤ y))
def srt (f : Int) (xs : List Int) : List Int := (dists f xs).map fun d => (f + d) % 65536
theorem merge_sorted (zs : List Int) : (zs.mergeSort fun x y => decide (x ≤ y)).Pairwise (· ≤ ·) := by
  have := List.pairwise_mergeSort (le := fun (x y : Int) => decide (x ≤ y)) (by intro a b c; simp; omega) (by intro a b; simp; omega) zs
  exact this.imp (by intro a b h; simpa using h)
theorem dists_lt (f : Int) (xs : List Int) : (dists f xs).Pairwise (· < ·) := compact_lt _ (merge_sorted _)
theorem dists_mem (f : Int) (xs : List Int) (d : Int) : d ∈ dists f xs ↔ ∃ a ∈ xs, far f a = d := by
  unfold dists
  rw [compact_mem, List.mem_mergeSort, List.mem_map]
theorem dists_bd (f : Int) (xs : List Int) (d : Int) (h : d ∈ dists f xs) : 0 ≤ d ∧ d < 65536 := by
  obtain ⟨a, _, rfl⟩ := (dists_mem f xs d).1 h
  exact far_bd f a
theorem dists_len (f : Int) (xs : List Int) : (dists f xs).length ≤ xs.length := by
  unfold dists
  unfold Lib.compact Lib.compactUpTo
  rw [List.length_map]
  exact Nat.le_trans (List.length_filter_le _ _) (by simp)
theorem srt_len (f : Int) (xs : List Int) : (srt f xs).length ≤ xs.length := by unfold srt; simpa using dists_len f xs
theorem srt_dists (f : Int) (xs : List Int) : (srt f xs).map (far f) = dists f xs := by
  unfold srt
  rw [List.map_map]
  conv => rhs; rw [← List.map_id (dists f xs)]
  apply List.map_congr_left
  intro d hd
  exact far_back f d (dists_bd f xs d hd).1 (dists_bd f xs d hd).2
theorem srt_mem (f : Int) (xs : List Int) (x : Int) : x ∈ srt f xs ↔ ∃ a ∈ xs, left a = x := by
  unfold srt
  rw [List.mem_map]
  constructor
  · rintro ⟨d, hd, rfl⟩
    obtain ⟨a, ha, rfl⟩ := (dists_mem f xs d).1 hd
    exact ⟨a, ha, (far_left f a).symm⟩
  · rintro ⟨a, ha, rfl⟩
    exact ⟨far f a, (dists_mem f xs _).2 ⟨a, ha, rfl⟩, far_left f a⟩
/-- A row of numbers, the nearer one ahead. -/
def Nice (f : Int) (ys : List Int) : Prop := (ys.map (far f)).Pairwise (· < ·) ∧ ∀ y ∈ ys, 0 ≤ y ∧ y < 65536
theorem srt_nice (f : Int) (xs : List Int) : Nice f (srt f xs) := by
  refine ⟨by rw [srt_dists]; exact dists_lt f xs, fun y hy => ?_⟩
  obtain ⟨a, _, rfl⟩ := (srt_mem f xs y).1 hy
  exact left_bd a
theorem nice_srt (f : Int) (xs ys : List Int) (h : Nice f ys) (hm : ∀ x, x ∈ ys ↔ ∃ a ∈ xs, left a = x) : ys = srt f xs := by
  have e : ys.map (far f) = dists f xs := by
    apply sorted_unique _ _ h.1 (dists_lt f xs)
    intro d
    rw [dists_mem, List.mem_map]
    constructor
    · rintro ⟨y, hy, rfl⟩
      obtain ⟨a, ha, rfl⟩ := (hm y).1 hy
      exact ⟨a, ha, (far_left' f a).symm⟩
    · rintro ⟨a, ha, rfl⟩
      exact ⟨left a, (hm _).2 ⟨a, ha, rfl⟩, far_left' f a⟩
  unfold srt
  rw [← e, List.map_map]
  conv => lhs; rw [← List.map_id ys]
  apply List.map_congr_left
  intro y hy
  have := h.2 y hy
  have e2 := far_left f y
  simp only [Function.comp, id]
  rw [e2]; unfold left; omega
/-- The reference's Sort: one step of its inner loop, a whole one, all. -/
def stepI (f n : Int) (p : List Int × Bool) (y : Int) : List Int × Bool :=
  let q : List Int × Bool := if !p.2 && decide (far f n ≤ far f y) then (p.1 ++ [n], true) else p
  (if y = n then q.1 else q.1 ++ [y], q.2)
def fin (n : Int) (p : List Int × Bool) : List Int := if p.2 then p.1 else p.1 ++ [n]
def insF (f n : Int) (out : List Int) : List Int := fin n (out.foldl (stepI f n) ([], false))
def rsrt (f : Int) (xs : List Int) : List Int := xs.foldl (fun out a => insF f (left a) out) []
def ins (f n : Int) : List Int → List Int
  | [] => [n]
  | y :: ys => if far f n ≤ far f y then n :: (y :: ys).filter (· != n) else (if y = n then ins f n ys else y :: ins f n ys)
theorem fold_true (f n : Int) (ys m : List Int) : ys.foldl (stepI f n) (m, true) = (m ++ ys.filter (· != n), true) := by
  induction ys generalizing m with
  | nil => simp
  | cons y ys ih =>
    rw [List.foldl_cons]
    have : stepI f n (m, true) y = (if y = n then m else m ++ [y], true) := by simp [stepI]
    rw [this, ih]
    by_cases h : y = n <;> simp [h]
theorem fold_ins (f n : Int) (ys m : List Int) : fin n (ys.foldl (stepI f n) (m, false)) = m ++ ins f n ys := by
  induction ys generalizing m with
  | nil => simp [fin, ins]
  | cons y ys ih =>
    rw [List.foldl_cons]
    by_cases h : far f n ≤ far f y
    · have : stepI f n (m, false) y = (if y = n then m ++ [n] else m ++ [n] ++ [y], true) := by simp [stepI, h]
      rw [this, fold_true]
      by_cases h' : y = n <;> simp [fin, ins, h, h']
    · have : stepI f n (m, false) y = (if y = n then m else m ++ [y], false) := by simp [stepI, h]
      rw [this, ih]
      by_cases h' : y = n
      · subst h'; exact absurd (Int.le_refl _) h
      · simp [ins, h, h']
theorem insF_ins (f n : Int) (ys : List Int) : insF f n ys = ins f n ys := by unfold insF; rw [fold_ins]; simp
theorem far_inj {f x y : Int} (hx : 0 ≤ x ∧ x < 65536) (hy : 0 ≤ y ∧ y < 65536) (h : far f x = far f y) : x = y := by unfold far at h; omega
theorem ins_mem (f n : Int) (ys : List Int) (x : Int) : x ∈ ins f n ys ↔ x = n ∨ x ∈ ys := by
  induction ys with
  | nil => simp [ins]
  | cons y ys ih =>
    unfold ins
    split
    · simp only [List.mem_cons, List.mem_filter, bne_iff_ne]
      constructor
      · rintro (h | ⟨h, _⟩)
        · exact .inl h
        · exact .inr h
      · rintro (h | h)
        · exact .inl h
        · by_cases e : x = n
          · exact .inl e
          · exact .inr ⟨h, e⟩
    · split
      · rename_i e; subst e; rw [ih]; simp
      · rw [List.mem_cons, ih, List.mem_cons]
        constructor
        · rintro (h | h | h)
          · exact .inr (.inl h)
          · exact .inl h
          · exact .inr (.inr h)
        · rintro (h | h | h)
          · exact .inr (.inl h)
          · exact .inl h
          · exact .inr (.inr h)
theorem nice_cons {f y : Int} {ys : List Int} : Nice f (y :: ys) ↔ (0 ≤ y ∧ y < 65536) ∧ (∀ z ∈ ys, far f y < far f z) ∧ Nice f ys := by
  unfold Nice
  rw [List.map_cons, List.pairwise_cons]
  simp only [List.mem_map, List.mem_cons]
  constructor
  · rintro ⟨⟨h1, h2⟩, h3⟩
    exact ⟨h3 y (.inl rfl), fun z hz => h1 _ ⟨z, hz, rfl⟩, h2, fun z hz => h3 z (.inr hz)⟩
  · rintro ⟨h1, h2, h3, h4⟩
    refine ⟨⟨?_, h3⟩, ?_⟩
    · rintro d ⟨z, hz, rfl⟩; exact h2 z hz
    · rintro z (rfl | hz)
      · exact h1
      · exact h4 z hz
theorem nice_filter {f : Int} {ys : List Int} (p : Int → Bool) (h : Nice f ys) : Nice f (ys.filter p) := by
  induction ys with
  | nil => exact h
  | cons y ys ih =>
    obtain ⟨h1, h2, h3⟩ := nice_cons.1 h
    rw [List.filter_cons]
    split
    · exact nice_cons.2 ⟨h1, fun z hz => h2 z (List.mem_filter.1 hz).1, ih h3⟩
    · exact ih h3
theorem ins_nice (f n : Int) (ys : List Int) (hn : 0 ≤ n ∧ n < 65536) (h : Nice f ys) : Nice f (ins f n ys) := by
  induction ys with
  | nil => exact ⟨by simp [ins], by simpa [ins] using hn⟩
  | cons y ys ih =>
    obtain ⟨h1, h2, h3⟩ := nice_cons.1 h
    unfold ins
    split
    · rename_i hle
      refine nice_cons.2 ⟨hn, fun z hz => ?_, nice_filter _ h⟩
      obtain ⟨hz1, hz2⟩ := List.mem_filter.1 hz
      have hzn : z ≠ n := by simpa using hz2
      rcases List.mem_cons.1 hz1 with e | e
      · subst e
        rcases Int.lt_or_eq_of_le hle with h' | h'
        · exact h'
        · exact absurd (far_inj hn h1 h').symm hzn
      · have := h2 z e; omega
    · rename_i hle
      split
      · exact ih h3
      · refine nice_cons.2 ⟨h1, fun z hz => ?_, ih h3⟩
        rcases (ins_mem f n ys z).1 hz with e | e
        · subst e; omega
        · exact h2 z e
theorem rsrt_inv (f : Int) (xs out : List Int) (h : Nice f out) : Nice f (xs.foldl (fun out a => insF f (left a) out) out) ∧ ∀ x, x ∈ xs.foldl (fun out a => insF f (left a) out) out ↔ x ∈ out ∨ ∃ a ∈ xs, left a = x := by
  induction xs generalizing out with
  | nil => exact ⟨h, by simp⟩
  | cons a xs ih =>
    rw [List.foldl_cons, insF_ins]
    obtain ⟨h1, h2⟩ := ih _ (ins_nice f (left a) out (left_bd a) h)
    refine ⟨h1, fun x => ?_⟩
    rw [h2, ins_mem]
    simp only [List.mem_cons]
    constructor
    · rintro ((e | e) | ⟨b, hb, e⟩)
      · exact .inr ⟨a, .inl rfl, e.symm⟩
      · exact .inl e
      · exact .inr ⟨b, .inr hb, e⟩
    · rintro (e | ⟨b, rfl | hb, e⟩)
      · exact .inl (.inr e)
      · exact .inl (.inl e.symm)
      · exact .inr ⟨b, hb, e⟩
theorem rsrt_srt (f : Int) (xs : List Int) : rsrt f xs = srt f xs := by
  obtain ⟨h1, h2⟩ := rsrt_inv f xs [] ⟨by simp, by simp⟩
  exact nice_srt f xs _ h1 fun x => by unfold rsrt; rw [h2]; simp
theorem own_grow {w : World} {os : Array Obj} {base size n : Nat} {e : TypeId} {v : Value} {xs : List Value} (h : w.ownsRow base e size v n xs) : (grow w os).ownsRow base e size v n xs := by
  obtain ⟨h1, h2 | ⟨g, cap, cur, h2, h3, h4, h5⟩⟩ := h
  · exact ⟨h1, .inl h2⟩
  · refine ⟨h1, .inr ⟨g, cap, cur, h2, h3, ?_, h5⟩⟩
    rw [heap_grow_old _ _ (Array.getElem?_eq_some_iff.1 h4).1]; exact h4
theorem below_grow {B : Nat} {w0 w : World} {os : Array Obj} (h : Below B w0 w) (hB : B ≤ w.heap.size) : Below B w0 (grow w os) :=
  ⟨h.os, h.tape, h.output, by have := h.size; simp; omega, fun k hk => by rw [heap_grow_old _ _ (by omega)]; exact h.block k hk⟩
theorem lsort_any (g cap n base : Nat) (zs : List Int) (w : World) (h : w.ownsRow base 3 1 (.slice (some ⟨g, 0, none⟩) n cap) n (zs.map (Value.int .i64))) (h9 : zs.length ≤ 1000) :
    Calls Tryz.prog 235 #[.slice (some ⟨g, 0, none⟩) n cap] w fun e w' => e = .returned (.tuple #[]) ∧ w'.ownsRow base 3 1 (.slice (some ⟨g, 0, none⟩) n cap) n ((zs.mergeSort fun x y => decide (x ≤ y)).map (Value.int .i64)) ∧ Below base w w' := by
  obtain ⟨g', cap', e, hbg, hgl, hncap, hcm, hlen, hH⟩ := Lib.holds_of_ownsRow h (by simp)
  cases e
  subst hlen
  refine (lib_Sort_int g 0 cap zs w hH hgl (by omega)).mono ?_
  rintro e w' ⟨rfl, nn, os, rfl⟩
  have hl : (zs.mergeSort fun x y => decide (x ≤ y)).length = zs.length := List.length_mergeSort zs
  have hc := Lib.ownsRow_putRow (q := nn) (k := zs.length) (ys := zs.mergeSort fun x y => decide (x ≤ y)) h hl (Nat.le_refl _)
  rw [List.take_of_length_le (by omega)] at hc
  refine ⟨rfl, own_grow hc, below_grow (Lib.below_putRow (Below.refl _ _) hbg) ?_⟩
  simp [putRow, mapBlock, Sort.ahead]
  omega
theorem lcompact_any (g cap n base : Nat) (zs : List Int) (w : World) (h : w.ownsRow base 3 1 (.slice (some ⟨g, 0, none⟩) n cap) n (zs.map (Value.int .i64))) (h9 : zs.length ≤ 1000) :
    Calls Tryz.prog 236 #[.slice (some ⟨g, 0, none⟩) n cap] w fun e w' => e = .returned (.slice (some ⟨g, 0, none⟩) (Lib.compact zs).length cap) ∧ w'.ownsRow base 3 1 (.slice (some ⟨g, 0, none⟩) (Lib.compact zs).length cap) (Lib.compact zs).length ((Lib.compact zs).map (Value.int .i64)) ∧ Below base w w' := by
  obtain ⟨g', cap', e, hbg, hgl, hncap, hcm, hlen, hH⟩ := Lib.holds_of_ownsRow h (by simp)
  cases e
  subst hlen
  refine (lib_Compact_int g 0 cap zs w hH (by omega) hncap).mono ?_
  rintro e w' ⟨rfl, q, rfl⟩
  have hle := Lib.compact_length_le zs
  have hc := Lib.ownsRow_putRow (q := q) (k := (Lib.compact zs).length) (ys := Lib.compact zs ++ List.replicate (zs.length - (Lib.compact zs).length) 0) h (by simp; omega) hle
  rw [List.take_left] at hc
  exact ⟨rfl, hc, Lib.below_putRow (Below.refl _ _) hbg⟩
/-- The row while it is being turned back: the first k are. -/
def mix (f : Int) (ds : List Int) (k : Nat) : List Int := (ds.take k).map (fun d => (f + d) % 65536) ++ ds.drop k
theorem mix_len (f : Int) (ds : List Int) (k : Nat) : (mix f ds k).length = ds.length := by simp [mix]; omega
theorem mix_at (f : Int) (ds : List Int) (k : Nat) (h : k < ds.length) : (mix f ds k)[k]? = some (ds.getD k 0) := by
  unfold mix
  rw [List.getElem?_append_right (by simp; omega)]
  simp [List.getD, h, Nat.min_eq_left (Nat.le_of_lt h)]
theorem mix_next (f : Int) (ds : List Int) (k : Nat) (h : k < ds.length) : (mix f ds k).set k ((f + ds.getD k 0) % 65536) = mix f ds (k + 1) := by
  unfold mix
  rw [List.set_append_right _ _ (by simp; omega)]
  have e : k - ((ds.take k).map fun d => (f + d) % 65536).length = 0 := by simp; omega
  have e2 : ds.getD k 0 = ds[k] := by simp [List.getD, h]
  rw [e, e2, List.take_succ_eq_append_getElem h, List.drop_eq_getElem_cons h, List.set_cons_zero, List.map_append, List.append_assoc]
  rfl
theorem mix_all (f : Int) (ds : List Int) : mix f ds ds.length = ds.map (fun d => (f + d) % 65536) := by simp [mix]
theorem map_next (f : Int) (xs : List Int) (k : Nat) (h : k < xs.length) : (xs.take k).map (far f) ++ [far f (xs.getD k 0)] = (xs.take (k + 1)).map (far f) := by
  rw [List.take_succ_eq_append_getElem h, List.map_append]
  simp [List.getD, h]
set_option maxHeartbeats 4000000 in
theorem sort_any (v : Value) (xs : List Int) (f : Int) (w : World) (hv : Zs w v xs) (h9 : xs.length ≤ 100) :
    Calls Tryz.prog 211 #[v, .int .i64 f] w fun e w' => ∃ u, e = .returned u ∧ Zs w' u (srt f xs) ∧ Below w.heap.size w w' := by
  obtain ⟨i0, hi, hz0, hz1, hz2⟩ := info_parts infoI3
  obtain ⟨a, cap, rfl, -, -, hc⟩ := Zs_open hv
  clear hv
  go_enter Tryz.func211, Tryz.ntmps211
  go_wp2_with (refine wpList_make_own _ rfl _ _ 94 rfl w.heap.size 3 i0 (.int .i64 0) 1 underI3 hi hz0 hz1 .i64 .i64 xs.length xs.length rfl rfl rfl (by rw [hz2]; omega) (by unfold maxLen; omega) (Nat.le_refl _) ?_; intro w0 hown0 hgrow0; have O0 := Lib.hid hown0; have B0 := Lib.hid ((Below.refl w.heap.size w).grown hgrow0 (Nat.le_refl _) (by intro k hk; cases hk)); clear hown0 hgrow0)
  go_loopw [5, 15] (fun v i wr => ∃ k : Nat, k ≤ xs.length ∧ i = .int .i64 k ∧ wr.ownsRow w.heap.size 3 1 v ((xs.take k).map (far f)).length (((xs.take k).map (far f)).map (Value.int .i64)) ∧ v ≠ .slice none 0 0 ∧ Below w.heap.size w wr) (fun _ i _ => xs.length - (intOf i).toNat)
  case atStart => exact ⟨0, Nat.zero_le _, rfl, O0.out, by simp, B0.out⟩
  case round =>
    obtain ⟨k, hk, rfl, hown, hnn, hbel⟩ := hrel
    have O1 := Lib.hid hown
    have HB := Lib.hid hbel
    have HN := Lib.hid hnn
    by_cases hlt : k < xs.length
    · obtain ⟨b, off, rfl, hck0⟩ := hc k hlt
      have hck : wr.cell? ⟨b, off + k, none⟩ = some (.int .i64 (xs.getD k 0)) := by rw [hbel.cell (World.block_lt_of_cell? w _ hck0)]; exact hck0
      have HM := Lib.hid (map_next f xs k hlt)
      generalize xs.getD k 0 = c at *
      have hl1 : ((xs.take k).map (far f)).length = k := by simp; omega
      generalize hL : (xs.take k).map (far f) = L at *
      clear hc hck0 hown hbel hnn hL
      go_wp2_with (first
        | (go_at_call 109; refine (far_any f c _).mono ?_; rintro e w1 ⟨rfl, hb⟩; have O2 := Lib.hid (own_below O1.out hb); have HB2 := Lib.hid (HB.out.trans (hb.mono HB.out.size)); clear hb)
        | (at_builtin; refine appI_any rfl (.tmp 19) (.tmp 23) rfl w.heap.size L [far f c] (O2.out.alloc _) (is_lit w1 [far f c] 3 _ 1 rfl rfl (by simp) _ rfl) (by simp; omega) (Nat.le_trans HB2.out.size (by simp)) ?_; intro v2 w2 hown2 hb2 hs2 hn2; have O3 := Lib.hid hown2; have HB3 := Lib.hid ((HB2.out.alloc HB2.out.size _).trans hb2); have HN3 := Lib.hid (fun h => HN.out (hn2 h)); clear hown2 hb2 hs2 hn2))
      go_roundw
      case rel => exact ⟨k + 1, by omega, by go_num, by rw [← HM.out]; exact O3.out, HN3.out, HB3.out⟩
      case measure => simp [intOf]; omega
    · obtain rfl : k = xs.length := by omega
      rw [List.take_length] at O1
      have hl1 : (xs.map (far f)).length = xs.length := by simp
      rw [hl1] at O1
      obtain ⟨g, cap2, rfl, hbg, -, hncap, -, -, -⟩ := Lib.holds_of_ownsRow O1.out hnn
      have hd1 := dists_len f xs
      have hd2 : Lib.compact ((xs.map (far f)).mergeSort fun x y => decide (x ≤ y)) = dists f xs := rfl
      have hd3 := Lib.hid (show srt f xs = (dists f xs).map (fun d => (f + d) % 65536) from rfl)
      have hlm : ((xs.map (far f)).mergeSort fun x y => decide (x ≤ y)).length = xs.length := by simp
      have S1 := Lib.hid (lsort_any g cap2 xs.length w.heap.size (xs.map (far f)) wr O1.out (by simp; omega))
      have S2 := Lib.hid (fun W h => lcompact_any g cap2 xs.length w.heap.size ((xs.map (far f)).mergeSort fun x y => decide (x ≤ y)) W h (by omega))
      generalize (xs.map (far f)).mergeSort (fun x y => decide (x ≤ y)) = M at *
      rw [hd2] at S2
      clear hd2 hlm hl1
      generalize dists f xs = D at *
      clear hc hown hbel hnn
      go_wp2_with (first
        | (go_at_call 235; refine S1.out.mono ?_; rintro e w1 ⟨rfl, hown1, hb1⟩; have O2 := Lib.hid hown1; have HB2 := Lib.hid (HB.out.trans hb1); clear hown1 hb1)
        | (go_at_call 236; refine (S2.out _ O2.out).mono ?_; rintro e w2 ⟨rfl, hown2, hb2⟩; have O3 := Lib.hid hown2; have HB3 := Lib.hid (HB2.out.trans hb2); clear hown2 hb2))
      go_loopw [32] (fun i wq => ∃ k : Nat, k ≤ D.length ∧ i = .int .i64 k ∧ wq.ownsRow w.heap.size 3 1 (.slice (some ⟨g, 0, none⟩) D.length cap2) D.length ((mix f D k).map (Value.int .i64)) ∧ Below w.heap.size w wq) (fun i _ => D.length - (intOf i).toNat)
      case atStart => exact ⟨0, Nat.zero_le _, rfl, O3.out, HB3.out⟩
      case round =>
        obtain ⟨k, hk, rfl, hown4, hb4⟩ := hrel
        have O4 := Lib.hid hown4
        have HB4 := Lib.hid hb4
        by_cases hlt2 : k < D.length
        · have hck : wr.cell? ⟨g, k, none⟩ = some (.int .i64 (D.getD k 0)) := by
            rw [hown4.cellAt k (by omega), List.getElem?_map, mix_at f D k hlt2]; rfl
          have hfr : wr.frozen? ⟨g, k, none⟩ = false := hown4.frozenAt k
          have HM := Lib.hid (mix_next f D k hlt2)
          generalize D.getD k 0 = c at *
          clear hown4 hb4
          go_wp2_with (go_at_call 148; refine (and_any 0 _ [f, c] _ (by omega) (by omega) (is_lit wr [f, c] 3 _ 2 rfl rfl (by simp) _ rfl)).mono ?_; rintro e w5 ⟨rfl, hw⟩; have O5 := Lib.hid (hw ▸ O4.out.alloc (.cells #[.int .i64 f, .int .i64 c] 3)); have HB5 := Lib.hid (hw ▸ HB4.out.alloc HB4.out.size (.cells #[.int .i64 f, .int .i64 c] 3)); have hfr5 : w5.frozen? ⟨g, k, none⟩ = false := O5.out.frozenAt k; have hck5 : ∃ u, w5.cell? ⟨g, k, none⟩ = some u := ⟨_, by rw [O5.out.cellAt k (by omega), List.getElem?_map, List.getElem?_eq_getElem (by rw [mix_len]; omega)]; rfl⟩; obtain ⟨u5, hck5⟩ := hck5; clear hw)
          go_roundw
          case rel =>
            have T := O5.out.stored k (.int .i64 ((f + c) % 65536))
            refine ⟨k + 1, by omega, by go_num, ?_, ?_⟩
            · rw [← HM.out, List.map_set]
              exact T.1
            · exact HB5.out.grown T.2 HB5.out.size (fun j hj => by cases hj; exact hbg)
          case measure => simp [intOf]; omega
        · obtain rfl : k = D.length := by omega
          rw [mix_all] at O4
          clear hown4 hb4
          go_wp2
          go_ret
          exact ⟨_, rfl, by rw [hd3.out]; exact Zs_of_own (base := w.heap.size) (n := D.length) O4.out (by simp; omega), HB4.out⟩
/-- The keys of a map, as they come. -/
theorem pkeys_any (bm : Nat) (w : World) : Calls Tryz.prog 213 #[.map (some bm)] w fun e w' => e = .returned (.func (.func 238) #[] #[.pointer (some ⟨w.heap.size, 0, none⟩)]) ∧ w' = w.alloc (.cells #[.map (some bm)] 131) :=
  (callsIn_wide (n := 6)).1 (AnyZI.keys_in layKeys Fence.wide 6 trivial rfl (some bm) w)
/-- .. collected: each once, in some order. -/
theorem pcollect_any (bm Bm n : Nat) (D : DataW Unit) (w : World) (hm : w.cell? ⟨Bm, 0, none⟩ = some (.map (some bm))) (hown : MapI w bm n D) (hl : Maps.size D ≤ 1000) :
    Calls Tryz.prog 212 #[.func (.func 238) #[] #[.pointer (some ⟨Bm, 0, none⟩)]] w fun e w' => ∃ (v : Value) (ss : List Int), e = .returned v ∧ ss.Perm (intKeys D) ∧ w'.ownsRow w.heap.size 3 1 v ss.length (ss.map (Value.int .i64)) ∧ Below w.heap.size w w' := by
  refine (callsIn_wide (n := 4)).1 ?_
  have hseq : SeqGives Fence.wide 2 Tryz.prog 238 #[.pointer (some ⟨Bm, 0, none⟩)] encZ (fun ss => ss.Perm (intKeys D)) (Maps.size D) w :=
    AnyZI.keys_gives (ρ := layKeys_ren) { layKeys with } Fence.wide _ trivial rfl (by omega) Bm bm n D _ (World.block_lt_of_cell? w _ hm) hm hown
  have cS := AnyZI.collect_in layCol Fence.wide 4 trivial trivial rfl (by omega) 238 #[.pointer (some ⟨Bm, 0, none⟩)] trivial (enters_of Tryz.func238 (by kernel_rfl) rfl) _ _ (by unfold maxLen; omega) (by have := hl; omega) _ hseq
  refine CallsIn.mono cS ?_
  rintro e w' ⟨v, ss, rfl, hS, hrow, hnil, hb⟩
  exact ⟨v, ss, rfl, hS, hrow, hb⟩
end Go.Proofs.YthnajpckhoomgaaGreat
namespace Go.Proofs.YthnajpckhoomgaaGreat
set_option maxRecDepth 100000
set_option linter.unusedVariables false
open Go.RowKit

open Go.Maps

/-- A map of slices that holds just the batches of H, the objects of each in a block of F of its own. -/
structure Mtk (w : World) (F : Nat → Prop) (b bm : Nat) (D : DataW Unit) (H : List Bt) : Prop where
  has : ∀ k : Int, Maps.has D (.int .i64 k) = (findH H k).isSome
  at_ : ∀ h ∈ H, ∃ g c, (∀ z, D.atKey (.int .i64 h.1) z = sdat g h.2.length c) ∧ Os w (.slice (some ⟨g, 0, none⟩) h.2.length c) h.2 ∧ F g ∧ g ≠ b ∧ g ≠ bm
  size : Maps.size D = H.length
  tidy : Tidy D
theorem mtk_nil (w : World) (F : Nat → Prop) (b bm : Nat) : Mtk w F b bm (.map []) [] := ⟨fun _ => rfl, (fun _ hy => nomatch hy), rfl, tidy_empty⟩
theorem keyLit (k : Int) : WideAt.IsKeyLit (.int .i64 k) := by first | trivial | simp [WideAt.IsKeyLit] | exact rfl
theorem lit_ne {a b : Int} (h : a ≠ b) : (Lit.int .i64 a) ≠ .int .i64 b := fun e => h (by cases e; rfl)
theorem Mtk.put {w : World} {F : Nat → Prop} {b bm : Nat} {D : DataW Unit} {H : List Bt} (h : Mtk w F b bm D H) {n : Int} {ys : List Ob} (hn : findH H n = none) {g c : Nat} (ho : Os w (.slice (some ⟨g, 0, none⟩) ys.length c) ys) (hF : F g) (hb : g ≠ b) (hm : g ≠ bm) : Mtk w F b bm (D.put (.int .i64 n) (sdat g ys.length c)) (H ++ [(n, ys)]) := by
  refine ⟨fun k => ?_, fun y hy => ?_, ?_, h.tidy.put (keyLit n) _⟩
  · by_cases hk : k = n
    · subst hk
      rw [has_put_same h.tidy.isMap (keyLit k)]
      unfold findH at hn ⊢
      rw [List.find?_append, hn]
      simp
    · rw [has_put_other (lit_ne hk), h.has]
      unfold findH
      rw [List.find?_append]
      have : ([(n, ys)] : List Bt).find? (fun h => h.1 == k) = none := by
        rw [List.find?_cons_of_neg (by simpa using fun e => hk e.symm)]
        rfl
      rw [this, Option.or_none]
  · rcases List.mem_append.1 hy with hy | hy
    · obtain ⟨g', c', k1, k2⟩ := h.at_ y hy
      exact ⟨g', c', fun z => by rw [atKey_put_other (lit_ne (findH_none hn y hy))]; exact k1 z, k2⟩
    · rw [List.mem_singleton.1 hy]
      exact ⟨g, c, fun z => atKey_put_same h.tidy.isMap (keyLit n) _ z, ho, hF, hb, hm⟩
  · rw [size_put h.tidy, h.has, h.size, hn, List.length_append]
    rfl
theorem findH_drop (H : List Bt) (n k : Int) : findH (dropH H n) k = if k = n then none else findH H k := by
  unfold findH dropH
  induction H with
  | nil => split <;> rfl
  | cons a H ih =>
    by_cases ha : a.1 = n
    · rw [List.filter_cons_of_neg (by simp [ha]), ih]
      by_cases hk : k = n
      · rw [if_pos hk, if_pos hk]
      · rw [if_neg hk, if_neg hk, List.find?_cons_of_neg (by simp [ha]; exact fun e => hk e.symm)]
    · rw [List.filter_cons_of_pos (by simpa using ha)]
      by_cases hak : a.1 = k
      · rw [List.find?_cons_of_pos (by simpa using hak), List.find?_cons_of_pos (by simpa using hak), if_neg (fun e => ha (hak.trans e))]
      · rw [List.find?_cons_of_neg (by simpa using hak), List.find?_cons_of_neg (by simpa using hak), ih]
theorem Mtk.del {w : World} {F : Nat → Prop} {b bm : Nat} {D : DataW Unit} {H : List Bt} (h : Mtk w F b bm D H) {n : Int} {x : Bt} (hx : findH H n = some x) (nd : (nums H).Nodup) : Mtk w F b bm (D.del (.int .i64 n)) (dropH H n) := by
  refine ⟨fun k => ?_, fun y hy => ?_, ?_, h.tidy.del _⟩
  · rw [findH_drop]
    by_cases hk : k = n
    · subst hk
      rw [has_del_same, if_pos rfl]
      rfl
    · rw [has_del_other (lit_ne hk), h.has, if_neg hk]
  · obtain ⟨h1, h2⟩ := mem_dropH.1 hy
    obtain ⟨g', c', k1, k2⟩ := h.at_ y h1
    exact ⟨g', c', fun z => by rw [atKey_del_other (lit_ne h2)]; exact k1 z, k2⟩
  · have h2 := size_del (k := .int .i64 n) h.tidy
    rw [h.has, h.size, hx] at h2
    have h1 := dropH_len hx nd
    simp only [Option.isSome_some, if_true] at h2
    omega
theorem Mtk.chg {w w' : World} {F G : Nat → Prop} {b bm : Nat} {D : DataW Unit} {H : List Bt} (h : Mtk w F b bm D H) (hc : Chg G w w') (hG : ∀ k, F k → k ≠ b → k ≠ bm → ¬ G k) : Mtk w' F b bm D H :=
  ⟨h.has, fun y hy => by
    obtain ⟨g, c, k1, k2, k3, k4, k5⟩ := h.at_ y hy
    exact ⟨g, c, k1, k2.chg hc (fun a n c' e _ => by cases e; exact hG g k3 k4 k5), k3, k4, k5⟩, h.size, h.tidy⟩
theorem Mtk.mono {w : World} {F F' : Nat → Prop} {b bm : Nat} {D : DataW Unit} {H : List Bt} (h : Mtk w F b bm D H) (hF : ∀ k, F k → F' k) : Mtk w F' b bm D H :=
  ⟨h.has, fun y hy => by
    obtain ⟨g, c, k1, k2, k3, k4⟩ := h.at_ y hy
    exact ⟨g, c, k1, k2, hF g k3, k4⟩, h.size, h.tidy⟩
theorem MapI.tight {w : World} {bm n : Nat} {D : DataW Unit} (h : MapI w bm n D) : MapI w bm (Maps.size D) D := by
  obtain ⟨es, clock, h1, h2, _, h4⟩ := h
  refine ⟨es, clock, h1, h2, ?_, h4⟩
  rw [h4, Maps.size_eq, length_sorted]
  simp
theorem MapI.lt {w : World} {bm n : Nat} {D : DataW Unit} (h : MapI w bm n D) : bm < w.heap.size := World.ownsMap.lt h
/-- The program's taker, its map made at block bm: at block b, in the blocks of F. -/
structure PTm (w : World) (F : Nat → Prop) (b bm : Nat) (t : Tk) : Prop where
  q : WQ w b t.nx (some bm)
  fb : F b
  fm : F bm
  ne : bm ≠ b
  lt : ∀ k, F k → k < w.heap.size
  m : ∃ D, MapI w bm (Maps.size D) D ∧ Mtk w F b bm D t.H
/-- .. whether it was made or not. -/
def PT0 (w : World) (F : Nat → Prop) (b : Nat) (t : Tk) : Prop := (∃ bm, PTm w F b bm t) ∨ (WQ w b t.nx none ∧ F b ∧ (∀ k, F k → k < w.heap.size) ∧ t.H = [])
def PT (w : World) (F : Nat → Prop) (b : Nat) (t : Tk) : Prop := TkOk t ∧ PT0 w F b t
section
variable {w w' : World} {F F' G : Nat → Prop} {b bm : Nat} {t : Tk}
theorem PTm.keep (h : PTm w F b bm t) (hc : Chg G w w') (hG : ∀ k, F k → ¬ G k) : PTm w' F b bm t := by
  obtain ⟨D, h1, h2⟩ := h.m
  exact ⟨h.q.chg hc (hG b h.fb), h.fb, h.fm, h.ne, fun k hk => Nat.lt_of_lt_of_le (h.lt k hk) hc.size, D, h1.chg hc (hG bm h.fm), h2.chg hc (fun k hk _ _ => hG k hk)⟩
theorem PTm.below (h : PTm w F b bm t) (hb : Below w.heap.size w w') : PTm w' F b bm t := h.keep (G := fun _ => False) (chg0 hb) (fun _ _ g => g)
theorem PTm.mono (h : PTm w F b bm t) (hF : ∀ k, F k → F' k) (hl : ∀ k, F' k → k < w.heap.size) : PTm w F' b bm t := by
  obtain ⟨D, h1, h2⟩ := h.m
  exact ⟨h.q, hF b h.fb, hF bm h.fm, h.ne, hl, D, h1, h2.mono hF⟩
theorem PT0.lt (h : PT0 w F b t) : ∀ k, F k → k < w.heap.size := h.elim (fun ⟨_, h⟩ => h.lt) (fun h => h.2.2.1)
theorem PT0.fb (h : PT0 w F b t) : F b := h.elim (fun ⟨_, h⟩ => h.fb) (fun h => h.2.1)
theorem PT0.cN (h : PT0 w F b t) : w.cell? ⟨b, 0, none⟩ = some (.int .i64 t.nx) := h.elim (fun ⟨_, h⟩ => h.q.cN) (fun h => h.1.cN)
theorem PT0.keep (h : PT0 w F b t) (hc : Chg G w w') (hG : ∀ k, F k → ¬ G k) : PT0 w' F b t := by
  rcases h with ⟨bm, h⟩ | ⟨h1, h2, h3, h4⟩
  · exact .inl ⟨bm, h.keep hc hG⟩
  · exact .inr ⟨h1.chg hc (hG b h2), h2, fun k hk => Nat.lt_of_lt_of_le (h3 k hk) hc.size, h4⟩
theorem PT0.below (h : PT0 w F b t) (hb : Below w.heap.size w w') : PT0 w' F b t := h.keep (G := fun _ => False) (chg0 hb) (fun _ _ g => g)
theorem PT.keep (h : PT w F b t) (hc : Chg G w w') (hG : ∀ k, F k → ¬ G k) : PT w' F b t := ⟨h.1, h.2.keep hc hG⟩
theorem PT.below (h : PT w F b t) (hb : Below w.heap.size w w') : PT w' F b t := ⟨h.1, h.2.below hb⟩
theorem PT.drew (h : PT w F b t) : PT w.drew F b t := h.keep (G := fun _ => False) ((Chg.refl _ w).drew) (fun _ _ g => g)
theorem PTm.drew (h : PTm w F b bm t) : PTm w.drew F b bm t := h.keep (G := fun _ => False) ((Chg.refl _ w).drew) (fun _ _ g => g)
/-- The map, that is there already. -/
theorem hold_m (h : PTm w F b bm t) : Calls Tryz.prog 120 #[.pointer (some ⟨b, 0, none⟩)] w fun e w' => e = .returned (.map (some bm)) ∧ Below w.heap.size w w' := hold_old b bm t.nx w h.q
/-- The map, made if it was not. -/
theorem hold_any (h : PT0 w F b t) : Calls Tryz.prog 120 #[.pointer (some ⟨b, 0, none⟩)] w fun e w' => ∃ bm F', e = .returned (.map (some bm)) ∧ PTm w' F' b bm t ∧ Chg F w w' ∧ (∀ k, F k → F' k) ∧ ∀ k, F' k → F k ∨ w.heap.size ≤ k := by
  rcases h with ⟨bm, h⟩ | ⟨h1, h2, h3, h4⟩
  · refine (hold_m h).mono ?_
    rintro e w' ⟨rfl, hb⟩
    exact ⟨bm, F, rfl, h.below hb, chg0 hb, fun k hk => hk, fun k hk => .inl hk⟩
  · refine (hold_new b t.nx w h1).mono ?_
    rintro e w' ⟨bm, rfl, k1, k2, k3, k4⟩
    have := h1.lt
    refine ⟨bm, fun k => F k ∨ k = bm, rfl, ⟨k1, .inl h2, .inr rfl, by omega, fun k hk => hk.elim (fun h => Nat.lt_of_lt_of_le (h3 k h) k4.size) (fun e => by rw [show k = bm from e]; exact MapI.lt k2), .map [], k2, ?_⟩, k4.mono (fun k _ e => by rw [show k = b from e]; exact h2), fun k hk => .inl hk, fun k hk => hk.imp (fun h => h) (fun e => by rw [show k = bm from e]; exact k3)⟩
    rw [h4]
    exact mtk_nil _ _ _ _
/-- .. of a right taker. -/
theorem hold_pt (h : PT w F b t) : Calls Tryz.prog 120 #[.pointer (some ⟨b, 0, none⟩)] w fun e w' => ∃ bm F', e = .returned (.map (some bm)) ∧ PTm w' F' b bm t ∧ Chg F w w' ∧ (∀ k, F k → F' k) ∧ ∀ k, F' k → F k ∨ w.heap.size ≤ k := hold_any h.2
theorem underI : Tryz.prog.underlying 3 = some (.int .i64) := by kernel_rfl
theorem underMP : Tryz.prog.underlying 131 = some (.map 3 51) := by kernel_rfl
theorem lawI : Keyed Tryz.prog 3 := int_keyed underI
theorem zeroS (w : World) : (zeroValue 51).run Tryz.prog w = .ok (.slice none 0 0) w := by kernel_rfl
theorem wfI {x : Int} (h : 0 ≤ x ∧ x ≤ 65535) : (Lit.int .i64 x).wf = true := WalkArith.wf_i64 (by omega)
theorem keyI {x : Int} (h : 0 ≤ x ∧ x ≤ 65535) : keyOf Tryz.prog 3 (.int .i64 x) = some (.int .i64 x) := keyOf_int_mk underI (wfI h)
/-- A number that is looked up. -/
theorem PTm.look (h : PTm w F b bm t) {n : Int} (hn : 0 ≤ n ∧ n ≤ 65535) : ∃ v, (Instr.lookup 131 (.map (some bm)) (.int .i64 n) true).run Tryz.prog w = .ok (.tuple #[v, .bool (findH t.H n).isSome]) w ∧
    ((findH t.H n = none ∧ v = .slice none 0 0) ∨ ∃ x g c, findH t.H n = some x ∧ v = .slice (some ⟨g, 0, none⟩) x.2.length c ∧ Os w v x.2 ∧ F g ∧ g ≠ b ∧ g ≠ bm) := by
  obtain ⟨D, h1, h2⟩ := h.m
  obtain ⟨v, ps, hrun, hv⟩ := World.ownsMap.look_ok h1 lawI underMP (zeroS w) (zd := .nil) (zp := []) rfl (keyI hn)
  rw [h2.has] at hrun
  refine ⟨v, hrun, ?_⟩
  cases hf : findH t.H n with
  | none =>
    refine .inl ⟨rfl, ?_⟩
    rw [atKey_of_not_has (by rw [h2.has, hf]; rfl)] at hv
    exact sliceElem_nil hv
  | some x =>
    obtain ⟨hx, rfl⟩ := findH_some hf
    obtain ⟨g, c, k1, k2, k3⟩ := h2.at_ x hx
    rw [k1] at hv
    obtain rfl := sliceElem_inv hv
    exact .inr ⟨x, g, c, rfl, rfl, k2, k3⟩
theorem turned_chg {bm : Nat} (h : w.mapTurned w' bm) : Chg (fun k => k = bm) w w' := (Chg.refl _ w).grown h.grown (fun k hk => .inl (by cases hk; rfl))
/-- A batch is stored. -/
theorem PTm.store (h : PTm w F b bm t) {n : Int} {ys : List Ob} (hn : 0 ≤ n ∧ n ≤ 65535) (hf : findH t.H n = none) (hl : t.H.length ≤ 1000) {g c : Nat} (ho : Os w (.slice (some ⟨g, 0, none⟩) ys.length c) ys) (hF : F g) (hb : g ≠ b) (hm : g ≠ bm) :
    ∃ w', (Instr.mapUpdate 131 (.map (some bm)) (.int .i64 n) (.slice (some ⟨g, 0, none⟩) ys.length c)).run Tryz.prog w = .ok () w' ∧ PTm w' F b bm ⟨t.nx, t.H ++ [(n, ys)]⟩ ∧ Chg (fun k => k = bm) w w' := by
  obtain ⟨D, h1, h2⟩ := h.m
  obtain ⟨w', hrun, r1, r2⟩ := World.ownsMap.store h1 lawI underMP (by rw [h2.size]; unfold maxLen; omega) (val := .slice (some ⟨g, 0, none⟩) ys.length c) (d := sdat g ys.length c) (ps := []) (keyI hn) rfl
  have hc := turned_chg r2
  have h3 := h2.put hf ho hF hb hm
  exact ⟨w', hrun, ⟨h.q.chg hc (fun e => h.ne e.symm), h.fb, h.fm, h.ne, fun k hk => Nat.lt_of_lt_of_le (h.lt k hk) hc.size, _, MapI.tight r1, h3.chg hc (fun k _ _ hk => hk)⟩, hc⟩
/-- One is taken out. -/
theorem PTm.drop (h : PTm w F b bm t) {x : Bt} (hn : 0 ≤ t.nx ∧ t.nx ≤ 65535) (hf : findH t.H t.nx = some x) (nd : (nums t.H).Nodup) {ty : TypeId} :
    ∃ w', (Builtin.delete_ #[131, 3] ty #[.map (some bm), .int .i64 t.nx]).run Tryz.prog w = .ok (.tuple #[]) w' ∧ PTm w' F b bm ⟨t.nx, dropH t.H t.nx⟩ ∧ Chg (fun k => k = bm) w w' := by
  obtain ⟨D, h1, h2⟩ := h.m
  obtain ⟨w', hrun, r1, r2⟩ := World.ownsMap.drop h1 lawI underMP (keyI hn) ty
  have hc := turned_chg r2
  have h3 := h2.del hf nd
  exact ⟨w', hrun, ⟨h.q.chg hc (fun e => h.ne e.symm), h.fb, h.fm, h.ne, fun k hk => Nat.lt_of_lt_of_le (h.lt k hk) hc.size, _, MapI.tight r1, h3.chg hc (fun k _ _ hk => hk)⟩, hc⟩
/-- The next number is another. -/
theorem PTm.next (h : PTm w F b bm t) (n : Int) : PTm (w.setCell ⟨b, 0, none⟩ (.int .i64 n)) F b bm ⟨n, t.H⟩ := by
  obtain ⟨D, h1, h2⟩ := h.m
  have hc := chg_pt w b 0 (.int .i64 n)
  exact ⟨h.q.next n, h.fb, h.fm, h.ne, fun k hk => Nat.lt_of_lt_of_le (h.lt k hk) hc.size, D, h1.chg hc h.ne, h2.chg hc (fun k _ hk _ => hk)⟩
/-- Its keys. -/
theorem PTm.keys (h : PTm w F b bm t) (nd : (nums t.H).Nodup) : ∃ D, MapI w bm (Maps.size D) D ∧ Maps.size D = t.H.length ∧ (nums t.H).Perm (intKeys D) := by
  obtain ⟨D, h1, h2⟩ := h.m
  refine ⟨D, h1, h2.size, ?_⟩
  obtain ⟨es, hD, hpw, _⟩ := World.ownsMap.entries h1 lawI
  obtain ⟨es', hD', hko⟩ := World.ownsMap.keysOf h1
  obtain rfl : es = es' := by rw [hD] at hD'; simpa using hD'
  have hh := h2.has
  subst hD
  refine perm_intKeys hpw (fun p hp => by obtain ⟨v, hv⟩ := hko p hp; obtain ⟨x, _, hx, _⟩ := Maps.keyOf_i64 underI hv; exact ⟨x, hx⟩) nd (fun x => ?_)
  rw [hh]
  unfold nums
  rw [List.mem_map]
  constructor
  · rintro ⟨y, hy, rfl⟩
    unfold findH
    rw [List.find?_isSome]
    exact ⟨y, hy, by simp⟩
  · intro hs
    obtain ⟨y, hy⟩ := Option.isSome_iff_exists.1 hs
    obtain ⟨h3, h4⟩ := findH_some hy
    exact ⟨y, h3, h4⟩
end
end Go.Proofs.YthnajpckhoomgaaGreat
namespace Go.Proofs.YthnajpckhoomgaaGreat
set_option maxRecDepth 100000
set_option linter.unusedVariables false

/-- What came: told, or held. -/
def Came (t : Tk) (n : Int) : Prop := n < t.nx ∨ n ∈ nums t.H
/-- A play: Bs is all that was ever sent, by its numbers. -/
structure Play (s : Sd) (t : Tk) (Bs : List Bt) (pushed : List Ob) : Prop where
  sok : SdOk s
  tok : TkOk t
  few : Bs.length ≤ 20000
  num : ∀ i (h : i < Bs.length), Bs[i].1 = (i : Int)
  bok : ∀ x ∈ Bs, BtOk x.1 x.2
  snx : s.nx = Bs.length
  tnx : t.nx ≤ Bs.length
  out : ∀ e ∈ s.L, e.1 ∈ Bs
  held : ∀ h ∈ t.H, h ∈ Bs
  gone : ∀ x ∈ Bs, Came t x.1 ∨ x ∈ s.out
  all : (Bs.map Prod.snd).flatten ++ s.W = pushed
def toldP (t : Tk) (Bs : List Bt) : List Ob := ((Bs.take t.nx.toNat).map Prod.snd).flatten
/-- An ack that was told some time. -/
structure AckP (a : Ak) (t : Tk) : Prop where
  one : AkOne a
  rng : 0 ≤ a.2.2.1 ∧ a.2.2.1 ≤ t.nx
  has : ∀ n : Int, 0 ≤ n → n < 20000 → hasN a.2.2.1 a.2.2.2 n = true → Came t n
theorem numAt_flat {n : Int} (hn : 0 ≤ n) : ∀ i : Nat, n + i ≤ 65535 → numAt n i = n + i
  | 0, _ => by show n = n + 0; omega
  | i + 1, h => by
    rw [numAt_succ, numAt_flat hn i (by omega)]
    unfold nxt
    omega
theorem far_up {a b : Int} (ha : 0 ≤ a) (hab : a ≤ b) (hb : b ≤ 65535) : far a b = b - a := by unfold far; omega
theorem far_down {a b : Int} (hb : 0 ≤ b) (hab : b < a) (ha : a ≤ 65535) : far a b = 65536 - (a - b) := by unfold far; omega
section
variable {s : Sd} {t : Tk} {Bs : List Bt} {pushed : List Ob}
theorem Play.idx (h : Play s t Bs pushed) {x : Bt} (hx : x ∈ Bs) : ∃ i, ∃ hi : i < Bs.length, Bs[i] = x ∧ x.1 = (i : Int) := by
  obtain ⟨i, hi, rfl⟩ := List.mem_iff_getElem.1 hx
  exact ⟨i, hi, rfl, h.num i hi⟩
theorem Play.uniq (h : Play s t Bs pushed) {x y : Bt} (hx : x ∈ Bs) (hy : y ∈ Bs) (e : x.1 = y.1) : x = y := by
  obtain ⟨i, hi, rfl, h1⟩ := h.idx hx
  obtain ⟨j, hj, rfl, h2⟩ := h.idx hy
  have : i = j := by omega
  subst this
  rfl
theorem Play.push (h : Play s t Bs pushed) (y : Ob) : Play (pushR s y).2 t Bs (if (pushR s y).1 = 0 then pushed ++ [y] else pushed) := by
  by_cases hok : y.Ok
  · by_cases hf : 1024 ≤ s.W.length
    · rw [pushR_full hok hf]
      exact h
    · have h9 := sdok_push h.sok y
      rw [pushR_ok hok hf] at h9 ⊢
      refine ⟨h9, h.tok, h.few, h.num, h.bok, h.snx, h.tnx, h.out, h.held, h.gone, ?_⟩
      show _ ++ (s.W ++ [y]) = pushed ++ [y]
      rw [← List.append_assoc, h.all]
  · rw [pushR_no hok]
    exact h
theorem Play.send (h : Play s t Bs pushed) (hl : Bs.length + (sdT s).length ≤ 20000) : Play (sdS s) t (Bs ++ sdT s) pushed := by
  have hn : ∀ i, i < (sdT s).length → ((sdT s).getD i zb).1 = ((Bs.length + i : Nat) : Int) := fun i hi => by
    rw [sdT_num h.sok i hi, h.snx, numAt_flat (by omega) i (by omega)]
    omega
  have hmo : ∀ x, x ∈ (sdS s).out ↔ x ∈ s.out ∨ x ∈ sdT s := fun x => by
    have e : (sdS s).out = s.out ++ sdT s := by
      unfold Sd.out sdS
      rw [List.map_append, List.map_map]
      congr 1
      exact List.map_id _
    rw [e, List.mem_append]
  refine ⟨sdok_send h.sok, h.tok, by rw [List.length_append]; exact hl, fun i hi => ?_, fun x hx => ?_, ?_, by rw [List.length_append]; have := h.tnx; omega, fun e he => ?_, fun y hy => List.mem_append_left _ (h.held y hy), fun x hx => ?_, ?_⟩
  · rw [List.length_append] at hi
    by_cases h1 : i < Bs.length
    · rw [List.getElem_append_left h1]
      exact h.num i h1
    · rw [List.getElem_append_right (by omega)]
      have h2 := hn (i - Bs.length) (by omega)
      have e : (sdT s).getD (i - Bs.length) zb = (sdT s)[i - Bs.length]'(by omega) := by simp [List.getD, show i - Bs.length < (sdT s).length by omega]
      rw [e] at h2
      rw [h2]
      omega
  · rcases List.mem_append.1 hx with h1 | h1
    · exact h.bok x h1
    · obtain ⟨i, hi, rfl⟩ := List.mem_iff_getElem.1 h1
      have h2 := (stk_len h.sok hi).1
      have e : (sdT s).getD i zb = (sdT s)[i] := by simp [List.getD, hi]
      rw [e] at h2
      exact h2
  · show nxA s.nx (sdT s) = _
    unfold nxA
    rw [h.snx, numAt_flat (by omega) _ (by omega), List.length_append]
    omega
  · have h1 : e.1 ∈ (sdS s).out := List.mem_map.2 ⟨e, he, rfl⟩
    rcases (hmo _).1 h1 with h2 | h2
    · obtain ⟨e', h3, h4⟩ := List.mem_map.1 h2
      rw [← h4]
      exact List.mem_append_left _ (h.out e' h3)
    · exact List.mem_append_right _ h2
  · rcases List.mem_append.1 hx with h1 | h1
    · exact (h.gone x h1).imp (fun e => e) (fun e => (hmo x).2 (.inl e))
    · exact .inr ((hmo x).2 (.inr h1))
  · rw [List.map_append, List.flatten_append, List.append_assoc, send_all]
    exact h.all
theorem told_send (h : Play s t Bs pushed) (l : List Bt) : toldP t (Bs ++ l) = toldP t Bs := by
  unfold toldP
  have h1 := h.tnx
  have h2 := h.tok.nx
  rw [List.take_append_of_le_length (by omega)]
/-- What is acked came. -/
theorem Play.got (h : Play s t Bs pushed) {a : Ak} (ha : AckP a t) : Play (gtS s a) t Bs pushed := by
  have hw := gt_W s a
  have hsub : ∀ e ∈ (gtS s a).L, e ∈ s.L := fun e he => by
    unfold gtS at he
    by_cases hg : gtB s a
    · rw [if_pos hg] at he
      exact (List.mem_filter.1 he).1
    · rw [if_neg hg] at he; exact he
  refine ⟨sdok_got h.sok a, h.tok, h.few, h.num, h.bok, by rw [hw.2]; exact h.snx, h.tnx, fun e he => h.out e (hsub e he), h.held, fun x hx => ?_, by rw [hw.1]; exact h.all⟩
  rcases h.gone x hx with h1 | h1
  · exact .inl h1
  · obtain ⟨e, he, rfl⟩ := List.mem_map.1 h1
    by_cases hg : gtB s a
    · rw [gtS_yes hg]
      by_cases hk : kpt a e = true
      · exact .inr (List.mem_map.2 ⟨e, List.mem_filter.2 ⟨he, hk⟩, rfl⟩)
      · refine .inl ?_
        obtain ⟨i, hi, _, h3⟩ := h.idx hx
        have h4 := h.few
        exact ha.has e.1.1 (by omega) (by omega) (by unfold kpt at hk; simpa using hk)
    · rw [gtS_no hg]; exact .inr h1
/-- The first one that is out is not behind next. -/
theorem Play.first (h : Play s t Bs pushed) {x : Bt} (hx : x ∈ s.out) (hn : t.nx < Bs.length) : x.1 ≤ t.nx + 15 := by
  have h0 := h.tok.nx
  have hi : t.nx.toNat < Bs.length := by omega
  obtain ⟨z, hz⟩ : ∃ z, Bs[t.nx.toNat] = z := ⟨_, rfl⟩
  have hz1 : z.1 = t.nx := by rw [← hz, h.num _ hi]; omega
  have hzm : z ∈ Bs := hz ▸ List.getElem_mem hi
  have hzo : z ∈ s.out := by
    rcases h.gone z hzm with (h1 | h1) | h1
    · omega
    · obtain ⟨y, hy, e⟩ := List.mem_map.1 h1
      have h2 := (h.tok.near y hy).1
      rw [e, hz1, far_self] at h2
      omega
    · exact h1
  obtain ⟨ez, h1, rfl⟩ := List.mem_map.1 hzo
  obtain ⟨ex, h2, rfl⟩ := List.mem_map.1 hx
  have hw := h.sok.win
  have hf := h.few
  have g1 := h.sok.inw ex h2
  have g2 := h.sok.below ez h1
  have g3 := h.sok.below ex h2
  obtain ⟨i1, j1, _, k1⟩ := h.idx (h.out ez h1)
  obtain ⟨i2, j2, _, k2⟩ := h.idx (h.out ex h2)
  -- the first one is among what was sent
  obtain ⟨f0, hf0, e0⟩ : ∃ f0 ∈ s.L, fstN s = f0.1.1 := by
    cases hL : s.L with
    | nil => rw [hL] at h1; exact absurd h1 List.not_mem_nil
    | cons c l => exact ⟨c, List.mem_cons_self, by unfold fstN; rw [hL]⟩
  obtain ⟨i3, j3, _, k3⟩ := h.idx (h.out f0 hf0)
  have g4 := h.sok.inw ez h1
  have hsn := h.snx
  rw [e0] at g1 g2 g3 g4
  rw [k1] at hz1 g2 g4
  rw [k3] at g1 g2 g3 g4
  rw [k2] at g1 g3 ⊢
  rw [hsn] at g2 g3
  unfold far at g1 g2 g3 g4
  omega
end
end Go.Proofs.YthnajpckhoomgaaGreat
namespace Go.Proofs.YthnajpckhoomgaaGreat
set_option maxRecDepth 100000
set_option linter.unusedVariables false

/-- The mask of what is held. -/
def mask16 (x : Int) (cs : List Int) : Int := mk x cs 16
section
variable {s : Sd} {t : Tk} {Bs : List Bt} {pushed : List Ob}
theorem mem_nums {H : List Bt} {x : Bt} (h : x ∈ H) : x.1 ∈ nums H := List.mem_map.2 ⟨x, h, rfl⟩
/-- A batch that was sent comes. -/
theorem Play.take (h : Play s t Bs pushed) {x : Bt} (hx : x ∈ Bs) : Play s (takeR t x).2 Bs pushed ∧ toldP (takeR t x).2 Bs = toldP t Bs ++ (takeR t x).1.1 ∧ (∀ n, Came t n → Came (takeR t x).2 n) ∧ t.nx ≤ (takeR t x).2.nx ∧ (x ∈ s.out → Came (takeR t x).2 x.1) := by
  obtain ⟨ix, hix, _, hxi⟩ := h.idx hx
  have hf := h.few
  have hnx := h.tok.nx
  have htn := h.tnx
  by_cases hin : TkIn t x
  · obtain ⟨_, k1, B, k2, k3, k4, k5, k6, k7⟩ := take_ok h.tok hin
    have hl := held_le h.tok
    have hB : ∀ i (hi : i < B.length), B[i] ∈ Bs := fun i hi => by
      rcases (k3 i hi).1 with h1 | h1
      · exact h.held _ h1
      · rw [h1]; exact hx
    have hnum : ∀ i (hi : i < B.length), B[i].1 = t.nx + i := fun i hi => by
      rw [(k3 i hi).2, numAt_flat hnx.1 i (by omega)]
    have hlen : t.nx + B.length ≤ Bs.length := by
      rcases Nat.eq_zero_or_pos B.length with h0 | h0
      · omega
      · have h1 := hnum (B.length - 1) (by omega)
        obtain ⟨j, hj, _, h2⟩ := h.idx (hB (B.length - 1) (by omega))
        omega
    have hnx2 : (takeR t x).2.nx = t.nx + B.length := by rw [k4, numAt_flat hnx.1 _ (by omega)]
    have hBe : B = (Bs.drop t.nx.toNat).take B.length := by
      apply List.ext_getElem
      · rw [List.length_take, List.length_drop]; omega
      · intro i h1 h2
        rw [List.getElem_take, List.getElem_drop]
        refine h.uniq (hB i h1) (List.getElem_mem _) ?_
        rw [hnum i h1, h.num]
        omega
    have hcame : ∀ n, Came t n → Came (takeR t x).2 n := fun n hn => by
      rcases hn with hn | hn
      · exact .inl (by omega)
      · obtain ⟨y, hy, rfl⟩ := List.mem_map.1 hn
        by_cases hyB : y ∈ B
        · obtain ⟨i, hi, rfl⟩ := List.mem_iff_getElem.1 hyB
          exact .inl (by rw [hnum i hi, hnx2]; omega)
        · exact .inr (mem_nums ((k6 y).2 ⟨.inl hy, hyB⟩))
    have hcx : Came (takeR t x).2 x.1 := by
      by_cases hyB : x ∈ B
      · obtain ⟨i, hi, e⟩ := List.mem_iff_getElem.1 hyB
        have h9 := hnum i hi
        rw [e] at h9
        exact .inl (by rw [hnx2]; omega)
      · exact .inr (mem_nums ((k6 x).2 ⟨.inr rfl, hyB⟩))
    refine ⟨⟨h.sok, k1, h.few, h.num, h.bok, h.snx, by rw [hnx2]; exact hlen, h.out, fun y hy => ?_, fun y hy => (h.gone y hy).imp (hcame y.1) (fun e => e), h.all⟩, ?_, hcame, by rw [hnx2]; omega, fun _ => hcx⟩
    · rcases ((k6 y).1 hy).1 with h1 | h1
      · exact h.held y h1
      · rw [h1]; exact hx
    · unfold toldP
      rw [k2, hnx2]
      have e1 : (t.nx + B.length).toNat = t.nx.toNat + B.length := by omega
      rw [e1, List.take_add, List.map_append, List.flatten_append, ← hBe]
  · obtain ⟨e, he, _⟩ := take_no hin
    rw [he]
    refine ⟨h, (List.append_nil _).symm, fun n hn => hn, Int.le_refl _, fun ho => ?_⟩
    -- one that is out and is refused came already
    by_cases h1 : x.1 < t.nx
    · exact .inl h1
    · have h2 : x.1 ≤ t.nx + 15 := h.first ho (by omega)
      have h3 : far t.nx x.1 = x.1 - t.nx := far_up hnx.1 (by omega) (by omega)
      have h4 : ¬ findH t.H x.1 = none := fun h4 => hin ⟨h.bok x hx, by omega, h4⟩
      cases h5 : findH t.H x.1 with
      | none => exact absurd h5 h4
      | some y =>
        obtain ⟨h6, h7⟩ := findH_some h5
        exact .inr (h7 ▸ mem_nums h6)
/-- An ack that is told now. -/
theorem ack_now (h : Play s t Bs pushed) {cs : List Int} (hc : ∀ n, n ∈ cs ↔ n ∈ nums t.H) : AckP (0, 0, t.nx, mask16 t.nx cs) t := by
  have hnx := h.tok.nx
  have hf := h.few
  have htn := h.tnx
  refine ⟨⟨⟨Int.le_refl 0, (show (0 : Int) < 64 by decide)⟩, by show EpOk 0; unfold EpOk; decide, hnx, mk_16 _ _⟩, ⟨hnx.1, Int.le_refl _⟩, fun n h0 h1 hh => ?_⟩
  rcases has_iff.1 hh with h2 | ⟨h2, c, hc1, hc2⟩
  · refine .inl ?_
    show n < t.nx
    have h2' : 1 ≤ far n t.nx ∧ far n t.nx ≤ 32768 := h2
    unfold far at h2'
    omega
  · refine .inr ?_
    have hm := (hc c).1 hc1
    obtain ⟨y, hy, rfl⟩ := List.mem_map.1 hm
    have hr := bt_rng (h.tok.ok y hy)
    have e : y.1 = n := by
      have hc2' : far t.nx y.1 = far t.nx n := hc2
      unfold far at hc2'
      omega
    exact e ▸ hm
/-- All batches of a row come. -/
def takeL : Tk → List Bt → List Ob × Tk
  | t, [] => ([], t)
  | t, x :: l => ((takeR t x).1.1 ++ (takeL (takeR t x).2 l).1, (takeL (takeR t x).2 l).2)
theorem Play.takes : ∀ (l : List Bt) {t : Tk}, Play s t Bs pushed → (∀ x ∈ l, x ∈ Bs) → Play s (takeL t l).2 Bs pushed ∧ toldP (takeL t l).2 Bs = toldP t Bs ++ (takeL t l).1 ∧ (∀ n, Came t n → Came (takeL t l).2 n) ∧ t.nx ≤ (takeL t l).2.nx ∧ (∀ x ∈ l, x ∈ s.out → Came (takeL t l).2 x.1)
  | [], t, h, _ => ⟨h, (List.append_nil _).symm, fun n hn => hn, Int.le_refl _, fun x hx => absurd hx List.not_mem_nil⟩
  | x :: l, t, h, hl => by
    obtain ⟨h1, h2, h3, h4, h5⟩ := h.take (hl x List.mem_cons_self)
    obtain ⟨g1, g2, g3, g4, g5⟩ := Play.takes l h1 (fun y hy => hl y (List.mem_cons_of_mem _ hy))
    refine ⟨g1, ?_, fun n hn => g3 n (h3 n hn), Int.le_trans h4 g4, fun y hy ho => ?_⟩
    · show toldP (takeL (takeR t x).2 l).2 Bs = _
      rw [g2, h2, List.append_assoc]
      rfl
    · rcases List.mem_cons.1 hy with e | hy
      · rw [e]
        exact g3 _ (h5 (e ▸ ho))
      · exact g5 y hy ho
/-- When all that came came: none is held, and all is told. -/
theorem Play.whole (h : Play s t Bs pushed) (hc : ∀ x ∈ Bs, Came t x.1) : t.nx = Bs.length ∧ t.H = [] ∧ toldP t Bs = (Bs.map Prod.snd).flatten := by
  have hnx := h.tok.nx
  have htn := h.tnx
  have hf := h.few
  have e1 : t.nx = Bs.length := by
    rcases Int.lt_or_eq_of_le htn with h1 | h1
    · exfalso
      have hi : t.nx.toNat < Bs.length := by omega
      have hn := h.num t.nx.toNat hi
      rcases hc _ (List.getElem_mem hi) with h2 | h2
      · omega
      · obtain ⟨y, hy, e⟩ := List.mem_map.1 h2
        have h3 := (h.tok.near y hy).1
        have e2 : y.1 = t.nx := by omega
        rw [e2, far_self] at h3
        omega
    · exact h1
  refine ⟨e1, ?_, ?_⟩
  · cases hH : t.H with
    | nil => rfl
    | cons y l =>
      exfalso
      have hy : y ∈ t.H := by rw [hH]; exact List.mem_cons_self
      obtain ⟨i, hi, _, h2⟩ := h.idx (h.held y hy)
      have h3 := h.tok.near y hy
      have h4 := far_down (a := t.nx) (b := y.1) (by omega) (by omega) hnx.2
      omega
  · unfold toldP
    rw [e1, List.take_of_length_le (by omega)]
/-- One round of the end: what is new is sent, all that is out comes, and is told back. -/
theorem Play.round (h : Play s t Bs pushed) (hl : Bs.length + (sdT s).length ≤ 20000) :
    Play (gtS (sdS s) (0, 0, (takeL t (sdS s).out).2.nx, mask16 (takeL t (sdS s).out).2.nx [])) (takeL t (sdS s).out).2 (Bs ++ sdT s) pushed ∧ toldP (takeL t (sdS s).out).2 (Bs ++ sdT s) = toldP t Bs ++ (takeL t (sdS s).out).1 ∧ (gtS (sdS s) (0, 0, (takeL t (sdS s).out).2.nx, mask16 (takeL t (sdS s).out).2.nx [])).L = [] ∧ (takeL t (sdS s).out).2.H = [] ∧ toldP (takeL t (sdS s).out).2 (Bs ++ sdT s) = ((Bs ++ sdT s).map Prod.snd).flatten := by
  have h1 := h.send hl
  have hout : ∀ x ∈ (sdS s).out, x ∈ Bs ++ sdT s := fun x hx => by
    obtain ⟨e, he, rfl⟩ := List.mem_map.1 hx
    exact h1.out e he
  obtain ⟨g1, g2, g3, g4, g5⟩ := Play.takes (sdS s).out h1 hout
  have hall : ∀ x ∈ Bs ++ sdT s, Came (takeL t (sdS s).out).2 x.1 := fun x hx => by
    rcases h1.gone x hx with h2 | h2
    · exact g3 _ h2
    · exact g5 x h2 h2
  obtain ⟨w1, w2, w3⟩ := g1.whole hall
  have ha := ack_now g1 (cs := []) (fun n => by rw [w2]; exact Iff.rfl)
  have g6 := g1.got ha
  refine ⟨g6, by rw [g2, told_send h], ?_, w2, w3⟩
  have hsn := g1.snx
  have hgb : gtB (sdS s) (0, 0, (takeL t (sdS s).out).2.nx, mask16 (takeL t (sdS s).out).2.nx []) := ⟨ha.one, by show far _ (takeL t (sdS s).out).2.nx ≤ far _ _; rw [w1, hsn]; exact Int.le_refl _⟩
  rw [gtS_yes hgb]
  show (sdS s).L.filter _ = []
  rw [List.filter_eq_nil_iff]
  intro e he hk
  obtain ⟨i, hi, _, h2⟩ := g1.idx (h1.out e he)
  have hf := g1.few
  have hn : hasN (takeL t (sdS s).out).2.nx (mask16 (takeL t (sdS s).out).2.nx []) e.1.1 = true := has_iff.2 (.inl (by
    rw [w1, far_up (by omega) (by omega) (by omega)]
    omega))
  unfold kpt at hk
  have hk' : (!hasN (takeL t (sdS s).out).2.nx (mask16 (takeL t (sdS s).out).2.nx []) e.1.1) = true := hk
  rw [hn] at hk'
  cases hk'
end
end Go.Proofs.YthnajpckhoomgaaGreat
