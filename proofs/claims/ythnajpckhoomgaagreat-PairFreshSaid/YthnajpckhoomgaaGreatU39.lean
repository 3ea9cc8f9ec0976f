/- Texts Tp5 of this proof, in one. No conditions but on lengths. -/
import Derived.Test.YthnajpckhoomgaaGreatRows
import Derived.Test.YthnajpckhoomgaaGreatU55
import Derived.Test.YthnajpckhoomgaaGreatU35
import Derived.ArgAppend
import Derived.Below
import Derived.BigQuiet
import Derived.Calls
import Derived.ChangeAlike
import Derived.ChangeArms
import Derived.ChangeMade
import Derived.ChangeOld
import Derived.Deep.Cut
import Derived.Deep.CutBlock
import Derived.Deep.QuietTactic
import Derived.Deep.RegionHeld
import Derived.Deep.RegionLaw
import Derived.Deep.RegionWith
import Derived.Deep.Slices
import Derived.Defers
import Derived.Ground.GgzProg
import Derived.Ground.Names2Prog
import Derived.Laws.AppendOwnNone
import Derived.Laws.BitsLemmas
import Derived.Laws.BytesArg
import Derived.Laws.LoneSync
import Derived.Laws.OwnMore
import Derived.Laws.Pointers
import Derived.Laws.StructEq
import Derived.Lib.Hide
import Derived.Lib.OwnBridge
import Derived.Lib.QuietBelow
import Derived.Lib.SlicesCompact
import Derived.LoopIn
import Derived.LoopTactic
import Derived.Maps.AppendAt
import Derived.Maps.Own
import Derived.Maps.OwnOps
import Derived.Maps.OwnSet
import Derived.Maps.RangeWalk
import Derived.Maps.Views
import Derived.OpenShut
import Derived.Orders
import Derived.Outline
import Derived.OwnWalkIn
import Derived.ProofKit
import Derived.RangeFuncBox
import Derived.RangeFuncCalls
import Derived.RangeFuncLeaves
import Derived.RangeFuncNested
import Derived.RegionCalls
import Derived.RegionTactic
import Derived.Shelf.RegionOpen
import Derived.Shelf.RegionOpenPlain
import Derived.Shelf.SlIterI.Nil
import Derived.Shelf.Slices.CompactI
import Derived.Shelf.Slices.In.SortNone
import Derived.Shelf.Sort.Plain
import Derived.ShutString
import Derived.Sort.Grow
import Derived.StillTail
import Derived.TacticsInMore
import Derived.WalkKit
import Derived.WalkLawsBesides
import Derived.WalkSpells
import Derived.WideShapes
namespace Go.Proofs.YthnajpckhoomgaaGreat
set_option maxRecDepth 100000
set_option linter.unusedVariables false
open Go.RowKit

open Go.Maps
def LkOk (w : World) (F : Nat → Prop) (b bm : Nat) (t : Tk) (v : Value) : Prop :=
  (findH t.H t.nx = none ∧ v = .slice none 0 0) ∨ ∃ x g c, findH t.H t.nx = some x ∧ v = .slice (some ⟨g, 0, none⟩) x.2.length c ∧ Os w v x.2 ∧ F g ∧ g ≠ b ∧ g ≠ bm
theorem LkOk.below {w w' : World} {F : Nat → Prop} {b bm : Nat} {t : Tk} {v : Value} (h : LkOk w F b bm t v) (hb : Below w.heap.size w w') : LkOk w' F b bm t v :=
  h.imp (fun h => h) (fun ⟨x, g, c, h1, h2, h3, h4⟩ => ⟨x, g, c, h1, h2, h3.below hb, h4⟩)
theorem runT_none {t : Tk} (h : findH t.H t.nx = none) : ∀ f, runT f t = ([], t)
  | 0 => rfl
  | f + 1 => by simp only [runT, h]
theorem runT_some {t : Tk} {x : Bt} (h : findH t.H t.nx = some x) (nd : (nums t.H).Nodup) : runT t.H.length t = (x.2 ++ (runT (dropH t.H t.nx).length ⟨nxt t.nx, dropH t.H t.nx⟩).1, (runT (dropH t.H t.nx).length ⟨nxt t.nx, dropH t.H t.nx⟩).2) := by
  have h1 := dropH_len h nd
  rw [← h1]
  simp only [runT, h]
def lenS : Value → Nat
  | .slice _ n _ => n
  | _ => 0
section
variable {w : World} {F : Nat → Prop} {b bm : Nat} {t : Tk}
/-- What is looked up, the same as long as nothing turns. -/
theorem PTm.looks (h : PTm w F b bm t) (hn : 0 ≤ t.nx ∧ t.nx ≤ 65535) : ∃ v, (∀ w', Below w.heap.size w w' → (Instr.lookup 131 (.map (some bm)) (.int .i64 t.nx) true).run Tryz.prog w' = .ok (.tuple #[v, .bool (findH t.H t.nx).isSome]) w') ∧ LkOk w F b bm t v := by
  obtain ⟨D, h1, h2⟩ := h.m
  have hl := h.lt bm h.fm
  have go : ∀ w', Below w.heap.size w w' → ∃ v ps, (Instr.lookup 131 (.map (some bm)) (.int .i64 t.nx) true).run Tryz.prog w' = .ok (.tuple #[v, .bool (findH t.H t.nx).isSome]) w' ∧ sliceElem v = some (D.atKey (.int .i64 t.nx) .nil, ps) := fun w' hb => by
    obtain ⟨v, ps, hrun, hv⟩ := World.ownsMap.look_ok (h1.chg (F := fun _ => False) (chg0 hb) (fun g => g)) lawI underMP (zeroS w') (zd := .nil) (zp := []) rfl (keyI hn)
    rw [h2.has] at hrun
    exact ⟨v, ps, hrun, hv⟩
  cases hf : findH t.H t.nx with
  | none =>
    refine ⟨.slice none 0 0, fun w' hb => ?_, .inl ⟨hf, rfl⟩⟩
    obtain ⟨v, ps, hrun, hv⟩ := go w' hb
    rw [atKey_of_not_has (by rw [h2.has, hf]; rfl)] at hv
    rw [hf, sliceElem_nil hv] at hrun
    exact hrun
  | some x =>
    obtain ⟨hx, hxn⟩ := findH_some hf
    obtain ⟨g, c, k1, k2, k3⟩ := h2.at_ x hx
    refine ⟨.slice (some ⟨g, 0, none⟩) x.2.length c, fun w' hb => ?_, .inr ⟨x, g, c, hf, rfl, k2, k3⟩⟩
    obtain ⟨v, ps, hrun, hv⟩ := go w' hb
    rw [← hxn, k1] at hv
    rw [hf, sliceElem_inv hv] at hrun
    exact hrun
set_option maxHeartbeats 8000000 in
theorem tturns_any (h : PTm w F b bm t) (hm : TkMid t) (hl : t.H.length ≤ 17) : Calls Tryz.prog 121 #[.pointer (some ⟨b, 0, none⟩)] w fun e w' => ∃ r, e = .returned r ∧ OwO w' w.heap.size r (runT t.H.length t).1 ∧ PTm w' F b bm (runT t.H.length t).2 ∧ Chg F w w' := by
  have HPX := Lib.hid h
  have HM := Lib.hid hm
  have HL := Lib.hid hl
  have HFL : Hid (∀ k, F k → k < w.heap.size) := h.lt
  have kc : ∀ w', Below w.heap.size w w' → w'.cell? ⟨b, 0, none⟩ = some (.int .i64 t.nx) := fun w' hb => (h.below hb).q.cN
  obtain ⟨lv, hlook, hspec⟩ := h.looks hm.nx
  have HSP := Lib.hid hspec
  clear h hm hl hspec
  go_enter Tryz.func121, Tryz.ntmps121
  go_upto_region 2 with (fail)
  refine wp_region_typed (C := fun w' => Below w.heap.size w w') (X := fun w w' => Below w.heap.size w w') (n := 45) (by kernel_rfl) (by kernel_rfl) rfl (fun w => Below.refl _ w) (Below.refl _ _).drew ?_
  refine w_is (fun w => Below.refl _ w) _ (.inl rfl) (fun ρ w hC hc hfn hf => by have e0 : ρ (.tmp 0) = _ := hf 0 (by decide); (conv => lhs; simp [execOp, go_sem, hc, e0])) ?_
  refine w_call (Is _) (fun _ _ _ h _ => h) 120 (.inl rfl) (fun ρ w hC hc hfn hf => by have e7 : ρ (.tmp 7) = _ := hf 7 (by decide); exact ⟨_, by (conv => lhs; simp [execOp, resolve, invoke, go_sem, hc, hfn, e7]), (hold_m (HPX.out.below hC)).mono fun e w' h => ⟨_, h.1, hC.trans (h.2.mono hC.size), h.2, rfl⟩⟩) ?_
  refine w_is (fun w => Below.refl _ w) _ (.inl rfl) (fun ρ w hC hc hfn hf => by have e0 : ρ (.tmp 0) = _ := hf 0 (by decide); (conv => lhs; simp [execOp, go_sem, hc, e0])) ?_
  refine w_is (fun w => Below.refl _ w) _ (.inl rfl) (fun ρ w hC hc hfn hf => by have e9 : ρ (.tmp 9) = _ := hf 9 (by decide); (conv => lhs; simp [execOp, go_sem, hc, e9])) ?_
  refine w_is (fun w => Below.refl _ w) _ (.inl rfl) (fun ρ w hC hc hfn hf => by have e10 : ρ (.tmp 10) = _ := hf 10 (by decide); (conv => lhs; simp [execOp, go_sem, hc, e10])) ?_
  refine w_is (fun w => Below.refl _ w) _ (.inl rfl) (fun ρ w hC hc hfn hf => by have e11 : ρ (.tmp 11) = _ := hf 11 (by decide); (conv => lhs; simp [execOp, go_sem, hc, e11, kc w hC])) ?_
  refine w_is (fun w => Below.refl _ w) _ (.inl rfl) (fun ρ w hC hc hfn hf => by have e8 : ρ (.tmp 8) = _ := hf 8 (by decide); have e12 : ρ (.tmp 12) = _ := hf 12 (by decide); (conv => lhs; simp [execOp, go_sem, hc, e8, e12, hlook w hC])) ?_
  refine w_is (fun w => Below.refl _ w) _ (.inl rfl) (fun ρ w hC hc hfn hf => by have e13 : ρ (.tmp 13) = _ := hf 13 (by decide); (conv => lhs; simp [execOp, go_sem, hc, e13])) ?_
  refine w_is (fun w => Below.refl _ w) _ (.inl rfl) (fun ρ w hC hc hfn hf => by have e6 : ρ (.tmp 6) = _ := hf 6 (by decide); (conv => lhs; simp [execOp, go_sem, hc, e6])) ?_
  refine w_is (fun w => Below.refl _ w) _ (.inl rfl) (fun ρ w hC hc hfn hf => by have e6 : ρ (.tmp 6) = _ := hf 6 (by decide); (conv => lhs; simp [execOp, go_sem, hc, e6])) ?_
  refine w_is (fun w => Below.refl _ w) _ (.inl rfl) (fun ρ w hC hc hfn hf => by have e14 : ρ (.tmp 14) = _ := hf 14 (by decide); (conv => lhs; simp [execOp, go_sem, hc, e14])) ?_
  refine w_is (fun w => Below.refl _ w) _ (.inl rfl) (fun ρ w hC hc hfn hf => by have e15 : ρ (.tmp 15) = _ := hf 15 (by decide); (conv => lhs; simp [execOp, go_sem, hc, e15])) ?_
  intro A W4 hC hn hd hf
  have y0 : A.eval (.tmp 0) = _ := Eq.trans (hf 0) (by conv => lhs; simp [go_sem])
  have y1 : A.eval (.tmp 1) = _ := Eq.trans (hf 1) (by conv => lhs; simp [go_sem])
  have y2 : A.eval (.tmp 2) = _ := Eq.trans (hf 2) (by conv => lhs; simp [go_sem])
  have y3 : A.eval (.tmp 3) = _ := Eq.trans (hf 3) (by conv => lhs; simp [go_sem])
  have y4 : A.eval (.tmp 4) = _ := hf 4
  have y5 : A.eval (.tmp 5) = _ := hf 5
  have y6 : A.eval (.tmp 6) = _ := hf 6
  have y7 : A.eval (.tmp 7) = _ := hf 7
  have y8 : A.eval (.tmp 8) = _ := hf 8
  have y9 : A.eval (.tmp 9) = _ := hf 9
  have y10 : A.eval (.tmp 10) = _ := hf 10
  have y11 : A.eval (.tmp 11) = _ := hf 11
  have y12 : A.eval (.tmp 12) = _ := hf 12
  have y13 : A.eval (.tmp 13) = _ := hf 13
  have y14 : A.eval (.tmp 14) = _ := hf 14
  have y15 : A.eval (.tmp 15) = _ := hf 15
  have y16 : A.eval (.tmp 16) = _ := Eq.trans (hf 16) (by conv => lhs; simp [go_sem])
  have y17 : A.eval (.tmp 17) = _ := Eq.trans (hf 17) (by conv => lhs; simp [go_sem])
  have y18 : A.eval (.tmp 18) = _ := Eq.trans (hf 18) (by conv => lhs; simp [go_sem])
  have y19 : A.eval (.tmp 19) = _ := Eq.trans (hf 19) (by conv => lhs; simp [go_sem])
  have y20 : A.eval (.tmp 20) = _ := Eq.trans (hf 20) (by conv => lhs; simp [go_sem])
  have y21 : A.eval (.tmp 21) = _ := Eq.trans (hf 21) (by conv => lhs; simp [go_sem])
  have y22 : A.eval (.tmp 22) = _ := Eq.trans (hf 22) (by conv => lhs; simp [go_sem])
  have y23 : A.eval (.tmp 23) = _ := Eq.trans (hf 23) (by conv => lhs; simp [go_sem])
  have y24 : A.eval (.tmp 24) = _ := Eq.trans (hf 24) (by conv => lhs; simp [go_sem])
  have y25 : A.eval (.tmp 25) = _ := Eq.trans (hf 25) (by conv => lhs; simp [go_sem])
  have y26 : A.eval (.tmp 26) = _ := Eq.trans (hf 26) (by conv => lhs; simp [go_sem])
  have y27 : A.eval (.tmp 27) = _ := Eq.trans (hf 27) (by conv => lhs; simp [go_sem])
  have y28 : A.eval (.tmp 28) = _ := Eq.trans (hf 28) (by conv => lhs; simp [go_sem])
  have y29 : A.eval (.tmp 29) = _ := Eq.trans (hf 29) (by conv => lhs; simp [go_sem])
  have y30 : A.eval (.tmp 30) = _ := Eq.trans (hf 30) (by conv => lhs; simp [go_sem])
  have y31 : A.eval (.tmp 31) = _ := Eq.trans (hf 31) (by conv => lhs; simp [go_sem])
  have y32 : A.eval (.tmp 32) = _ := Eq.trans (hf 32) (by conv => lhs; simp [go_sem])
  have y33 : A.eval (.tmp 33) = _ := Eq.trans (hf 33) (by conv => lhs; simp [go_sem])
  have y34 : A.eval (.tmp 34) = _ := Eq.trans (hf 34) (by conv => lhs; simp [go_sem])
  have y35 : A.eval (.tmp 35) = _ := Eq.trans (hf 35) (by conv => lhs; simp [go_sem])
  have y36 : A.eval (.tmp 36) = _ := Eq.trans (hf 36) (by conv => lhs; simp [go_sem])
  have y37 : A.eval (.tmp 37) = _ := Eq.trans (hf 37) (by conv => lhs; simp [go_sem])
  have y38 : A.eval (.tmp 38) = _ := Eq.trans (hf 38) (by conv => lhs; simp [go_sem])
  have y39 : A.eval (.tmp 39) = _ := Eq.trans (hf 39) (by conv => lhs; simp [go_sem])
  have y40 : A.eval (.tmp 40) = _ := Eq.trans (hf 40) (by conv => lhs; simp [go_sem])
  have y41 : A.eval (.tmp 41) = _ := Eq.trans (hf 41) (by conv => lhs; simp [go_sem])
  have y42 : A.eval (.tmp 42) = _ := Eq.trans (hf 42) (by conv => lhs; simp [go_sem])
  have y43 : A.eval (.tmp 43) = _ := Eq.trans (hf 43) (by conv => lhs; simp [go_sem])
  have y44 : A.eval (.tmp 44) = _ := Eq.trans (hf 44) (by conv => lhs; simp [go_sem])
  clear hf
  have hA := frame_eq hn
  rw [show List.range 45 = [0, 1, 2, 3, 4, 5, 6, 7, 8, 9, 10, 11, 12, 13, 14, 15, 16, 17, 18, 19, 20, 21, 22, 23, 24, 25, 26, 27, 28, 29, 30, 31, 32, 33, 34, 35, 36, 37, 38, 39, 40, 41, 42, 43, 44] from rfl, hd] at hA
  simp only [List.map_cons, List.map_nil, y0, y1, y2, y3, y4, y5, y6, y7, y8, y9, y10, y11, y12, y13, y14, y15, y16, y17, y18, y19, y20, y21, y22, y23, y24, y25, y26, y27, y28, y29, y30, y31, y32, y33, y34, y35, y36, y37, y38, y39, y40, y41, y42, y43, y44] at hA
  clear y0 y1 y2 y3 y4 y5 y6 y7 y8 y9 y10 y11 y12 y13 y14 y15 y16 y17 y18 y19 y20 y21 y22 y23 y24 y25 y26 y27 y28 y29 y30 y31 y32 y33 y34 y35 y36 y37 y38 y39 y40 y41 y42 y43 y44
  clear hn hd
  subst hA
  have HB2 := Lib.hid hC
  have HP2 := Lib.hid (HPX.out.below hC)
  have HS2 := Lib.hid (HSP.out.below hC)
  clear hlook kc hC
  go_wp2_with fail
  go_loopw [3, 4, 5] (fun tv lv qv wr => ∃ (t' : Tk) (acc : List Ob) (a : Option Addr) (c : Nat), tv = .slice a acc.length c ∧ qv = .bool (findH t'.H t'.nx).isSome ∧ Hid (PTm wr F b bm t') ∧ Hid (TkMid t') ∧ Hid (runT t.H.length t = (acc ++ (runT t'.H.length t').1, (runT t'.H.length t').2)) ∧ Hid (LkOk wr F b bm t' lv) ∧ Hid (OwO wr w.heap.size (.slice a acc.length c) acc) ∧ Hid (Chg F w wr) ∧ Hid (acc.length + 32 * t'.H.length ≤ 544)) (fun tv _ _ _ => 600 - lenS tv)
  case atStart => exact ⟨t, [], none, 0, rfl, rfl, HP2.out, HM.out, by show _ = _; rw [List.nil_append], HS2.out, OwO_nil _ _, chg0 HB2.out, by have := HL.out; show _ ≤ _; simp; omega⟩
  case round =>
    obtain ⟨t', acc, a, c, rfl, rfl, HP3, HM2, HR, HLV, HO, HC, HN⟩ := hrel
    clear HP2 HS2 HB2 HPX HSP
    rcases HLV.out with ⟨hf, hv⟩ | ⟨x, g, cx, hf, hv, hox, hFg, hgb, hgm⟩
    · have HF := Lib.hid hf
      have hq : (findH t'.H t'.nx).isSome = false := by rw [hf]; rfl
      try simp only [hq]
      subst hv
      clear hf hq
      go_wp2_with fail
      go_ret
      have hr := HR.out
      rw [runT_none HF.out, List.append_nil] at hr
      rw [hr]
      exact ⟨_, rfl, HO.out, HP3.out, HC.out⟩
    · have hq : (findH t'.H t'.nx).isSome = true := by rw [hf]; rfl
      try simp only [hq]
      have hxm := (findH_some hf).1
      have hbk := HM2.out.ok x hxm
      have hxl : x.2.length ≤ 32 ∧ 1 ≤ x.2.length := ⟨hbk.2.1.2, hbk.2.1.1⟩
      have hdl := dropH_len hf HM2.out.nd
      have HRS := Lib.hid (runT_some hf HM2.out.nd)
      have hnn := HN.out
      obtain ⟨r5, w5, hr5, ho5, hg5, hb5⟩ := run_gappo wr 51 w.heap.size _ acc HO.out (.slice (some ⟨g, 0, none⟩) x.2.length cx) x.2 (hv ▸ hox) (by omega) HC.out.size
      have hown : ∀ k, (Value.slice a acc.length c).ownBlock = some k → w.heap.size ≤ k := fun k hk => (World.ownsRow.lt HO.out k hk).1
      have hc5 : Chg (fun k => w.heap.size ≤ k) wr w5 := (Chg.refl _ wr).grown hg5 (fun k hk => .inl (hown k hk))
      have HP5 := Lib.hid (HP3.out.keep hc5 (fun k hk h => by have := HFL.out k hk; have h' : w.heap.size ≤ k := h; omega))
      have HC5 : Hid (Chg F w w5) := HC.out.trans hc5 (fun k hk h => by have h' : w.heap.size ≤ k := h; omega)
      obtain ⟨a5, c5, rfl⟩ := own_form ho5
      have HO5 := Lib.hid ho5
      obtain ⟨acc2, ha2⟩ : ∃ acc2, acc ++ x.2 = acc2 := ⟨_, rfl⟩
      rw [ha2] at hr5 HO5
      have HA2 : Hid (acc2.length = acc.length + x.2.length ∧ acc ++ x.2 = acc2) := ⟨by rw [← ha2, List.length_append], ha2⟩
      have HNM := Lib.hid (And.intro hxl (And.intro hdl hnn))
      have HF := Lib.hid hf
      subst hv
      clear hq hxm hbk hxl hdl hnn ho5 hg5 hb5 hown hc5 hox hFg hgb hgm ha2 hf
      go_upto_region 6 with (at_builtin; refine app_go rfl (.tmp 27) (.tmp 28) 51 rfl _ _ _ _ rfl rfl hr5 ?_)
      clear hr5
      have kc6 : ∀ w', Below w5.heap.size w5 w' → w'.cell? ⟨b, 0, none⟩ = some (.int .i64 t'.nx) := fun w' hb => (HP5.out.below hb).q.cN
      refine T3.wp_region_tail (C := fun w' => Below w5.heap.size w5 w') (X := fun _ w w' => Below w.heap.size w w') (n := 45) 6 (by kernel_rfl) (by kernel_rfl) (by kernel_rfl) (by kernel_rfl) rfl (fun _ w => Below.refl _ w) (Below.refl _ _).drew ?_
      simp only [List.take_succ_cons, List.take_zero, List.drop_succ_cons, List.drop_zero]
      refine T3.w_is (fun _ w => Below.refl _ w) rfl _ (.inl rfl) (fun ρ w hC hc hfn hf => by have e0 : ρ (.tmp 0) = _ := hf 0 (by decide); (conv => lhs; simp [execOp, go_sem, hc, e0])) ?_
      refine T3.w_call rfl (Is _) (fun _ _ _ _ _ h _ => h) 120 (.inl rfl) (fun ρ w hC hc hfn hf => by have e30 : ρ (.tmp 30) = _ := hf 30 (by decide); exact ⟨_, by (conv => lhs; simp [execOp, resolve, invoke, go_sem, hc, hfn, e30]), (hold_m (HP5.out.below hC)).mono fun e w' h => ⟨_, h.1, hC.trans (h.2.mono hC.size), h.2, rfl⟩⟩) ?_
      refine T3.w_is (fun _ w => Below.refl _ w) rfl _ (.inl rfl) (fun ρ w hC hc hfn hf => by have e0 : ρ (.tmp 0) = _ := hf 0 (by decide); (conv => lhs; simp [execOp, go_sem, hc, e0])) ?_
      refine T3.w_is (fun _ w => Below.refl _ w) rfl _ (.inl rfl) (fun ρ w hC hc hfn hf => by have e32 : ρ (.tmp 32) = _ := hf 32 (by decide); (conv => lhs; simp [execOp, go_sem, hc, e32])) ?_
      refine T3.w_is (fun _ w => Below.refl _ w) rfl _ (.inl rfl) (fun ρ w hC hc hfn hf => by have e33 : ρ (.tmp 33) = _ := hf 33 (by decide); (conv => lhs; simp [execOp, go_sem, hc, e33])) ?_
      refine T3.w_is (fun _ w => Below.refl _ w) rfl _ (.inl rfl) (fun ρ w hC hc hfn hf => by have e34 : ρ (.tmp 34) = _ := hf 34 (by decide); (conv => lhs; simp [execOp, go_sem, hc, e34, kc6 w hC])) ?_
      intro A V6 hC hn hd hf
      have y0 : A.eval (.tmp 0) = _ := Eq.trans (hf 0) (by conv => lhs; simp [go_sem])
      have y1 : A.eval (.tmp 1) = _ := Eq.trans (hf 1) (by conv => lhs; simp [go_sem])
      have y2 : A.eval (.tmp 2) = _ := Eq.trans (hf 2) (by conv => lhs; simp [go_sem])
      have y3 : A.eval (.tmp 3) = _ := Eq.trans (hf 3) (by conv => lhs; simp [go_sem])
      have y4 : A.eval (.tmp 4) = _ := Eq.trans (hf 4) (by conv => lhs; simp [go_sem])
      have y5 : A.eval (.tmp 5) = _ := Eq.trans (hf 5) (by conv => lhs; simp [go_sem])
      have y6 : A.eval (.tmp 6) = _ := Eq.trans (hf 6) (by conv => lhs; simp [go_sem])
      have y7 : A.eval (.tmp 7) = _ := Eq.trans (hf 7) (by conv => lhs; simp [go_sem])
      have y8 : A.eval (.tmp 8) = _ := Eq.trans (hf 8) (by conv => lhs; simp [go_sem])
      have y9 : A.eval (.tmp 9) = _ := Eq.trans (hf 9) (by conv => lhs; simp [go_sem])
      have y10 : A.eval (.tmp 10) = _ := Eq.trans (hf 10) (by conv => lhs; simp [go_sem])
      have y11 : A.eval (.tmp 11) = _ := Eq.trans (hf 11) (by conv => lhs; simp [go_sem])
      have y12 : A.eval (.tmp 12) = _ := Eq.trans (hf 12) (by conv => lhs; simp [go_sem])
      have y13 : A.eval (.tmp 13) = _ := Eq.trans (hf 13) (by conv => lhs; simp [go_sem])
      have y14 : A.eval (.tmp 14) = _ := Eq.trans (hf 14) (by conv => lhs; simp [go_sem])
      have y15 : A.eval (.tmp 15) = _ := Eq.trans (hf 15) (by conv => lhs; simp [go_sem])
      have y16 : A.eval (.tmp 16) = _ := Eq.trans (hf 16) (by conv => lhs; simp [go_sem])
      have y17 : A.eval (.tmp 17) = _ := Eq.trans (hf 17) (by conv => lhs; simp [go_sem])
      have y18 : A.eval (.tmp 18) = _ := Eq.trans (hf 18) (by conv => lhs; simp [go_sem])
      have y19 : A.eval (.tmp 19) = _ := Eq.trans (hf 19) (by conv => lhs; simp [go_sem])
      have y20 : A.eval (.tmp 20) = _ := Eq.trans (hf 20) (by conv => lhs; simp [go_sem])
      have y21 : A.eval (.tmp 21) = _ := Eq.trans (hf 21) (by conv => lhs; simp [go_sem])
      have y22 : A.eval (.tmp 22) = _ := Eq.trans (hf 22) (by conv => lhs; simp [go_sem])
      have y23 : A.eval (.tmp 23) = _ := Eq.trans (hf 23) (by conv => lhs; simp [go_sem])
      have y24 : A.eval (.tmp 24) = _ := Eq.trans (hf 24) (by conv => lhs; simp [go_sem])
      have y25 : A.eval (.tmp 25) = _ := Eq.trans (hf 25) (by conv => lhs; simp [go_sem])
      have y26 : A.eval (.tmp 26) = _ := Eq.trans (hf 26) (by conv => lhs; simp [go_sem])
      have y27 : A.eval (.tmp 27) = _ := Eq.trans (hf 27) (by conv => lhs; simp [go_sem])
      have y28 : A.eval (.tmp 28) = _ := Eq.trans (hf 28) (by conv => lhs; simp [go_sem])
      have y29 : A.eval (.tmp 29) = _ := Eq.trans (hf 29) (by conv => lhs; simp [go_sem])
      have y30 : A.eval (.tmp 30) = _ := hf 30
      have y31 : A.eval (.tmp 31) = _ := hf 31
      have y32 : A.eval (.tmp 32) = _ := hf 32
      have y33 : A.eval (.tmp 33) = _ := hf 33
      have y34 : A.eval (.tmp 34) = _ := hf 34
      have y35 : A.eval (.tmp 35) = _ := hf 35
      have y36 : A.eval (.tmp 36) = _ := Eq.trans (hf 36) (by conv => lhs; simp [go_sem])
      have y37 : A.eval (.tmp 37) = _ := Eq.trans (hf 37) (by conv => lhs; simp [go_sem])
      have y38 : A.eval (.tmp 38) = _ := Eq.trans (hf 38) (by conv => lhs; simp [go_sem])
      have y39 : A.eval (.tmp 39) = _ := Eq.trans (hf 39) (by conv => lhs; simp [go_sem])
      have y40 : A.eval (.tmp 40) = _ := Eq.trans (hf 40) (by conv => lhs; simp [go_sem])
      have y41 : A.eval (.tmp 41) = _ := Eq.trans (hf 41) (by conv => lhs; simp [go_sem])
      have y42 : A.eval (.tmp 42) = _ := Eq.trans (hf 42) (by conv => lhs; simp [go_sem])
      have y43 : A.eval (.tmp 43) = _ := Eq.trans (hf 43) (by conv => lhs; simp [go_sem])
      have y44 : A.eval (.tmp 44) = _ := Eq.trans (hf 44) (by conv => lhs; simp [go_sem])
      clear hf
      have hA := frame_eq hn
      rw [show List.range 45 = [0, 1, 2, 3, 4, 5, 6, 7, 8, 9, 10, 11, 12, 13, 14, 15, 16, 17, 18, 19, 20, 21, 22, 23, 24, 25, 26, 27, 28, 29, 30, 31, 32, 33, 34, 35, 36, 37, 38, 39, 40, 41, 42, 43, 44] from rfl, hd] at hA
      simp only [List.map_cons, List.map_nil, y0, y1, y2, y3, y4, y5, y6, y7, y8, y9, y10, y11, y12, y13, y14, y15, y16, y17, y18, y19, y20, y21, y22, y23, y24, y25, y26, y27, y28, y29, y30, y31, y32, y33, y34, y35, y36, y37, y38, y39, y40, y41, y42, y43, y44] at hA
      clear y0 y1 y2 y3 y4 y5 y6 y7 y8 y9 y10 y11 y12 y13 y14 y15 y16 y17 y18 y19 y20 y21 y22 y23 y24 y25 y26 y27 y28 y29 y30 y31 y32 y33 y34 y35 y36 y37 y38 y39 y40 y41 y42 y43 y44
      clear hn hd
      subst hA
      have HP6 := Lib.hid (HP5.out.below hC)
      have HC6 : Hid (Chg F w V6) := HC5.out.trans (G := fun _ => False) (chg0 hC) (fun _ _ e => e.elim)
      have HO6 := Lib.hid (HO5.out.below hC)
      obtain ⟨w7, hdel, hp7, hc7⟩ := HP6.out.drop (ty := 0) HM2.out.nx HF.out HM2.out.nd
      have hbmF : F bm := HP6.out.fm
      have hbmw := HFL.out bm hbmF
      have HP7 := Lib.hid hp7
      have HC7 : Hid (Chg F w w7) := HC6.out.trans hc7 (fun k _ e => by rw [show k = bm from e]; exact hbmF)
      have HO7 : Hid (OwO w7 w.heap.size (.slice a5 acc2.length c5) acc2) := own_chg HO6.out hc7 (fun k hk e => by have h1 := (World.ownsRow.lt HO6.out k hk).1; have h2 : k = bm := e; omega)
      clear kc6 hC hp7 hc7 hbmF hbmw
      have c7 := HP7.out.q.cN
      go_upto_region 7 with (fail)
      clear hdel
      have hzn : z_nxt t'.nx = nxt t'.nx := by unfold z_nxt nxt; omega
      have hfin8 : ∀ w8, Below w7.heap.size w7 w8 → w8.cell? ⟨b, 0, none⟩ = some (.int .i64 t'.nx) ∧ (∀ j, w8.frozen? ⟨b, j, none⟩ = false) := fun w8 h8 => ⟨(HP7.out.below h8).q.cN, (HP7.out.below h8).q.fz⟩
      have HF8 := Lib.hid hfin8
      have HZN := Lib.hid hzn
      clear hfin8 hzn
      go_upto_region 4 with (go_at_call 112; refine (z_next_any t'.nx _).mono ?_; rintro e w8 ⟨rfl, hb8⟩; obtain ⟨c8, f8⟩ := HF8.out w8 hb8; have HB8 := Lib.hid hb8; clear hb8 c7)
      have HP9' := (HP7.out.below HB8.out).next (z_nxt t'.nx)
      have hc9 := chg_pt w8 b 0 (.int .i64 (z_nxt t'.nx))
      have hbw := HFL.out b HP7.out.fb
      have HO9 : Hid (OwO (w8.setCell ⟨b, 0, none⟩ (.int .i64 (z_nxt t'.nx))) w.heap.size (.slice a5 acc2.length c5) acc2) := own_chg (HO7.out.below HB8.out) hc9 (fun k hk e => by have h1 := (World.ownsRow.lt HO7.out k hk).1; have h2 : k = b := e; omega)
      have HC9 : Hid (Chg F w (w8.setCell ⟨b, 0, none⟩ (.int .i64 (z_nxt t'.nx)))) := (HC7.out.trans (G := fun _ => False) (chg0 HB8.out) (fun _ _ e => e.elim)).trans hc9 (fun k _ e => by rw [show k = b from e]; exact HP7.out.fb)
      have HP9 := Lib.hid HP9'
      clear HP9' hc9 hbw c8 f8
      obtain ⟨w9, hw9⟩ : ∃ w9, w8.setCell ⟨b, 0, none⟩ (.int .i64 (z_nxt t'.nx)) = w9 := ⟨_, rfl⟩
      rw [hw9] at HP9 HC9 HO9
      rw [hw9]
      have HM9 : Hid (TkMid ⟨z_nxt t'.nx, dropH t'.H t'.nx⟩) := by have h9 := mid_step HM2.out HF.out; rw [← HZN.out] at h9; exact h9
      have kc9 : ∀ w', Below w9.heap.size w9 w' → w'.cell? ⟨b, 0, none⟩ = some (.int .i64 (z_nxt t'.nx)) := fun w' hb => (HP9.out.below hb).q.cN
      obtain ⟨lv9, hlook9, hspec9⟩ := HP9.out.looks HM9.out.nx
      simp only at hlook9
      have HSP9 := Lib.hid hspec9
      clear hspec9 hw9
      refine wp_region_typed (C := fun w' => Below w9.heap.size w9 w') (X := fun w w' => Below w.heap.size w w') (n := 45) (by kernel_rfl) (by kernel_rfl) rfl (fun w => Below.refl _ w) (Below.refl _ _).drew ?_
      refine w_is (fun w => Below.refl _ w) _ (.inl rfl) (fun ρ w hC hc hfn hf => by have e0 : ρ (.tmp 0) = _ := hf 0 (by decide); (conv => lhs; simp [execOp, go_sem, hc, e0])) ?_
      refine w_call (Is _) (fun _ _ _ h _ => h) 120 (.inl rfl) (fun ρ w hC hc hfn hf => by have e18 : ρ (.tmp 18) = _ := hf 18 (by decide); exact ⟨_, by (conv => lhs; simp [execOp, resolve, invoke, go_sem, hc, hfn, e18]), (hold_m (HP9.out.below hC)).mono fun e w' h => ⟨_, h.1, hC.trans (h.2.mono hC.size), h.2, rfl⟩⟩) ?_
      refine w_is (fun w => Below.refl _ w) _ (.inl rfl) (fun ρ w hC hc hfn hf => by have e0 : ρ (.tmp 0) = _ := hf 0 (by decide); (conv => lhs; simp [execOp, go_sem, hc, e0])) ?_
      refine w_is (fun w => Below.refl _ w) _ (.inl rfl) (fun ρ w hC hc hfn hf => by have e20 : ρ (.tmp 20) = _ := hf 20 (by decide); (conv => lhs; simp [execOp, go_sem, hc, e20])) ?_
      refine w_is (fun w => Below.refl _ w) _ (.inl rfl) (fun ρ w hC hc hfn hf => by have e21 : ρ (.tmp 21) = _ := hf 21 (by decide); (conv => lhs; simp [execOp, go_sem, hc, e21])) ?_
      refine w_is (fun w => Below.refl _ w) _ (.inl rfl) (fun ρ w hC hc hfn hf => by have e22 : ρ (.tmp 22) = _ := hf 22 (by decide); (conv => lhs; simp [execOp, go_sem, hc, e22, kc9 w hC])) ?_
      refine w_is (fun w => Below.refl _ w) _ (.inl rfl) (fun ρ w hC hc hfn hf => by have e19 : ρ (.tmp 19) = _ := hf 19 (by decide); have e23 : ρ (.tmp 23) = _ := hf 23 (by decide); (conv => lhs; simp [execOp, go_sem, hc, e19, e23, hlook9 w hC])) ?_
      refine w_is (fun w => Below.refl _ w) _ (.inl rfl) (fun ρ w hC hc hfn hf => by have e24 : ρ (.tmp 24) = _ := hf 24 (by decide); (conv => lhs; simp [execOp, go_sem, hc, e24])) ?_
      refine w_is (fun w => Below.refl _ w) _ (.inl rfl) (fun ρ w hC hc hfn hf => by have e17 : ρ (.tmp 17) = _ := hf 17 (by decide); (conv => lhs; simp [execOp, go_sem, hc, e17])) ?_
      refine w_is (fun w => Below.refl _ w) _ (.inl rfl) (fun ρ w hC hc hfn hf => by have e17 : ρ (.tmp 17) = _ := hf 17 (by decide); (conv => lhs; simp [execOp, go_sem, hc, e17])) ?_
      refine w_is (fun w => Below.refl _ w) _ (.inl rfl) (fun ρ w hC hc hfn hf => by have e25 : ρ (.tmp 25) = _ := hf 25 (by decide); (conv => lhs; simp [execOp, go_sem, hc, e25])) ?_
      refine w_is (fun w => Below.refl _ w) _ (.inl rfl) (fun ρ w hC hc hfn hf => by have e26 : ρ (.tmp 26) = _ := hf 26 (by decide); (conv => lhs; simp [execOp, go_sem, hc, e26])) ?_
      intro A W4 hC hn hd hf
      have y0 : A.eval (.tmp 0) = _ := Eq.trans (hf 0) (by conv => lhs; simp [go_sem])
      have y1 : A.eval (.tmp 1) = _ := Eq.trans (hf 1) (by conv => lhs; simp [go_sem])
      have y2 : A.eval (.tmp 2) = _ := Eq.trans (hf 2) (by conv => lhs; simp [go_sem])
      have y3 : A.eval (.tmp 3) = _ := Eq.trans (hf 3) (by conv => lhs; simp [go_sem])
      have y4 : A.eval (.tmp 4) = _ := hf 4
      have y5 : A.eval (.tmp 5) = _ := hf 5
      have y6 : A.eval (.tmp 6) = _ := Eq.trans (hf 6) (by conv => lhs; simp [go_sem])
      have y7 : A.eval (.tmp 7) = _ := Eq.trans (hf 7) (by conv => lhs; simp [go_sem])
      have y8 : A.eval (.tmp 8) = _ := Eq.trans (hf 8) (by conv => lhs; simp [go_sem])
      have y9 : A.eval (.tmp 9) = _ := Eq.trans (hf 9) (by conv => lhs; simp [go_sem])
      have y10 : A.eval (.tmp 10) = _ := Eq.trans (hf 10) (by conv => lhs; simp [go_sem])
      have y11 : A.eval (.tmp 11) = _ := Eq.trans (hf 11) (by conv => lhs; simp [go_sem])
      have y12 : A.eval (.tmp 12) = _ := Eq.trans (hf 12) (by conv => lhs; simp [go_sem])
      have y13 : A.eval (.tmp 13) = _ := Eq.trans (hf 13) (by conv => lhs; simp [go_sem])
      have y14 : A.eval (.tmp 14) = _ := Eq.trans (hf 14) (by conv => lhs; simp [go_sem])
      have y15 : A.eval (.tmp 15) = _ := Eq.trans (hf 15) (by conv => lhs; simp [go_sem])
      have y16 : A.eval (.tmp 16) = _ := Eq.trans (hf 16) (by conv => lhs; simp [go_sem])
      have y17 : A.eval (.tmp 17) = _ := hf 17
      have y18 : A.eval (.tmp 18) = _ := hf 18
      have y19 : A.eval (.tmp 19) = _ := hf 19
      have y20 : A.eval (.tmp 20) = _ := hf 20
      have y21 : A.eval (.tmp 21) = _ := hf 21
      have y22 : A.eval (.tmp 22) = _ := hf 22
      have y23 : A.eval (.tmp 23) = _ := hf 23
      have y24 : A.eval (.tmp 24) = _ := hf 24
      have y25 : A.eval (.tmp 25) = _ := hf 25
      have y26 : A.eval (.tmp 26) = _ := hf 26
      have y27 : A.eval (.tmp 27) = _ := Eq.trans (hf 27) (by conv => lhs; simp [go_sem])
      have y28 : A.eval (.tmp 28) = _ := Eq.trans (hf 28) (by conv => lhs; simp [go_sem])
      have y29 : A.eval (.tmp 29) = _ := Eq.trans (hf 29) (by conv => lhs; simp [go_sem])
      have y30 : A.eval (.tmp 30) = _ := Eq.trans (hf 30) (by conv => lhs; simp [go_sem])
      have y31 : A.eval (.tmp 31) = _ := Eq.trans (hf 31) (by conv => lhs; simp [go_sem])
      have y32 : A.eval (.tmp 32) = _ := Eq.trans (hf 32) (by conv => lhs; simp [go_sem])
      have y33 : A.eval (.tmp 33) = _ := Eq.trans (hf 33) (by conv => lhs; simp [go_sem])
      have y34 : A.eval (.tmp 34) = _ := Eq.trans (hf 34) (by conv => lhs; simp [go_sem])
      have y35 : A.eval (.tmp 35) = _ := Eq.trans (hf 35) (by conv => lhs; simp [go_sem])
      have y36 : A.eval (.tmp 36) = _ := Eq.trans (hf 36) (by conv => lhs; simp [go_sem])
      have y37 : A.eval (.tmp 37) = _ := Eq.trans (hf 37) (by conv => lhs; simp [go_sem])
      have y38 : A.eval (.tmp 38) = _ := Eq.trans (hf 38) (by conv => lhs; simp [go_sem])
      have y39 : A.eval (.tmp 39) = _ := Eq.trans (hf 39) (by conv => lhs; simp [go_sem])
      have y40 : A.eval (.tmp 40) = _ := Eq.trans (hf 40) (by conv => lhs; simp [go_sem])
      have y41 : A.eval (.tmp 41) = _ := Eq.trans (hf 41) (by conv => lhs; simp [go_sem])
      have y42 : A.eval (.tmp 42) = _ := Eq.trans (hf 42) (by conv => lhs; simp [go_sem])
      have y43 : A.eval (.tmp 43) = _ := Eq.trans (hf 43) (by conv => lhs; simp [go_sem])
      have y44 : A.eval (.tmp 44) = _ := Eq.trans (hf 44) (by conv => lhs; simp [go_sem])
      clear hf
      have hA := frame_eq hn
      rw [show List.range 45 = [0, 1, 2, 3, 4, 5, 6, 7, 8, 9, 10, 11, 12, 13, 14, 15, 16, 17, 18, 19, 20, 21, 22, 23, 24, 25, 26, 27, 28, 29, 30, 31, 32, 33, 34, 35, 36, 37, 38, 39, 40, 41, 42, 43, 44] from rfl, hd] at hA
      simp only [List.map_cons, List.map_nil, y0, y1, y2, y3, y4, y5, y6, y7, y8, y9, y10, y11, y12, y13, y14, y15, y16, y17, y18, y19, y20, y21, y22, y23, y24, y25, y26, y27, y28, y29, y30, y31, y32, y33, y34, y35, y36, y37, y38, y39, y40, y41, y42, y43, y44] at hA
      clear y0 y1 y2 y3 y4 y5 y6 y7 y8 y9 y10 y11 y12 y13 y14 y15 y16 y17 y18 y19 y20 y21 y22 y23 y24 y25 y26 y27 y28 y29 y30 y31 y32 y33 y34 y35 y36 y37 y38 y39 y40 y41 y42 y43 y44
      clear hn hd
      subst hA
      have HPE := Lib.hid (HP9.out.below hC)
      have HSE := Lib.hid (HSP9.out.below hC)
      have HOE := Lib.hid (HO9.out.below hC)
      have HCE : Hid (Chg F w W4) := HC9.out.trans (G := fun _ => False) (chg0 hC) (fun _ _ e => e.elim)
      clear hlook9 kc9 hC
      go_wp2_with fail
      go_roundw
      case rel =>
        obtain ⟨⟨hx1, hx2⟩, hdl, hnn⟩ := HNM.out
        refine ⟨⟨z_nxt t'.nx, dropH t'.H t'.nx⟩, acc2, a5, c5, rfl, rfl, HPE.out, HM9.out, ?_, HSE.out, HOE.out, HCE.out, ?_⟩
        · show _ = _
          rw [HR.out, HRS.out, ← HA2.out.2, HZN.out, List.append_assoc]
        · show acc2.length + 32 * (dropH t'.H t'.nx).length ≤ 544
          have := HA2.out.1
          omega
      case measure =>
        obtain ⟨⟨hx1, hx2⟩, hdl, hnn⟩ := HNM.out
        have := HA2.out.1
        simp only [lenS]
        omega
end
end Go.Proofs.YthnajpckhoomgaaGreat
