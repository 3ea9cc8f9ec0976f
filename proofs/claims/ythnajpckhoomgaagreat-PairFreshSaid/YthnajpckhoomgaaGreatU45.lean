/- Texts Ya4 of this proof, in one. No conditions but on lengths. -/
import Derived.Test.YthnajpckhoomgaaGreatRows
import Derived.Test.YthnajpckhoomgaaGreatU43
import Derived.ArgAppend
import Derived.Below
import Derived.BigQuiet
import Derived.Calls
import Derived.ChangeAlike
import Derived.ChangeArms
import Derived.ChangeKeysEq
import Derived.ChangeMade
import Derived.ChangeOld
import Derived.Deep.Cut
import Derived.Deep.CutBlock
import Derived.Deep.LoopGhost
import Derived.Deep.QuietTactic
import Derived.Deep.RegionHeld
import Derived.Deep.RegionLaw
import Derived.Deep.RegionWith
import Derived.Deep.Slices
import Derived.Defers
import Derived.Ground.GgzProg
import Derived.Ground.Names2Prog
import Derived.Laws.AppendOwnNone
import Derived.Laws.BitsLemmas
import Derived.Laws.BytesArg
import Derived.Laws.LoneSync
import Derived.Laws.OwnMore
import Derived.Laws.Pointers
import Derived.Laws.StructEq
import Derived.Lib.ConvBytes
import Derived.Lib.Hide
import Derived.Lib.OwnBridge
import Derived.Lib.QuietBelow
import Derived.Lib.SliceRun
import Derived.Lib.SlicesCompact
import Derived.LoopIn
import Derived.LoopTactic
import Derived.Maps.AppendAt
import Derived.Maps.Own
import Derived.Maps.OwnOps
import Derived.Maps.OwnSet
import Derived.Maps.RangeWalk
import Derived.Maps.Views
import Derived.OpenShut
import Derived.Orders
import Derived.Outline
import Derived.OwnWalkIn
import Derived.ProofKit
import Derived.RangeFuncBox
import Derived.RangeFuncCalls
import Derived.RangeFuncLeaves
import Derived.RangeFuncNested
import Derived.RegionCalls
import Derived.RegionTactic
import Derived.Shelf.RegionOpen
import Derived.Shelf.RegionOpenPlain
import Derived.Shelf.SlIterI.Nil
import Derived.Shelf.Slices.CompactI
import Derived.Shelf.Slices.In.SortNone
import Derived.Shelf.Sort.Plain
import Derived.ShutString
import Derived.Sort.Grow
import Derived.StillTail
import Derived.TacticsInMore
import Derived.WalkKit
import Derived.WalkLawsBesides
import Derived.WalkSpells
import Derived.WideShapes
namespace Go.Proofs.YthnajpckhoomgaaGreat
set_option maxRecDepth 100000
set_option linter.unusedVariables false
open Go.RowKit

theorem Chg.dn {F : Nat → Prop} {a w : World} (h : Chg F a w) (n : Nat) : Chg F a (w.drewN n) := ⟨h.os, h.tape, h.output, h.size, h.block⟩
theorem nx_drew {w W1 : World} (G : Nat → Prop) (hb : Below w.heap.size w W1) : Nx w W1.drew G G := ⟨(chg0 hb).drew, fun k hk => .inl hk⟩
theorem PPE.tell {W1 w2 : World} {Fs Ft F' : Nat → Prop} {b b1 b2 S : Nat} {p : Pr} {r : Value} {told : List Ob} (h : PPE W1 Fs Ft b b1 b2 p) (hr : OwN1 w2 W1.heap.size F' r told) (hS : S ≤ W1.heap.size) : OwN1 w2 S (GP Fs F' b) r told := ⟨gown_mono hr.1 hS, fun g hg hk => by
  have h8 := (World.ownsRow.lt hr.1 g hg).1
  rcases hk with rfl | hk | hk
  · have := h.blt; omega
  · have := dc.lt h.s g hk; omega
  · exact hr.2 g hg hk⟩
section
variable {w w' : World} {F : Nat → Prop} {b : Nat} {p : Pr}
set_option maxHeartbeats 2000000 in
theorem prpush_any (y : Ob) (h : PP w F b p) : Calls Tryz.prog 12 #[.pointer (some ⟨b, 0, none⟩), .agg #[.int .i64 y.k, .int .i64 y.x, .bool y.n, .int .i64 y.t, .int .i64 y.o, .int .i64 y.r, .int .i64 y.d, .int .i64 y.i, .int .i64 y.p, .int .i64 y.q, .int .i64 y.s, .int .i64 y.m]] w fun e w' => e = .returned (.int .i64 (pushR p.s y).1) ∧ ∃ F', PP w' F' b ⟨p.me, p.pe, (pushR p.s y).2, p.t, p.o⟩ ∧ Nx w w' F F' := by
  obtain ⟨Fs, Ft, b1, b2, h, rfl⟩ := h
  obtain ⟨W1, hW1⟩ : ∃ W1, w.alloc (.cells #[.int .i64 y.k, .int .i64 y.x, .bool y.n, .int .i64 y.t, .int .i64 y.o, .int .i64 y.r, .int .i64 y.d, .int .i64 y.i, .int .i64 y.p, .int .i64 y.q, .int .i64 y.s, .int .i64 y.m] 39) = W1 := ⟨_, rfl⟩
  have hb : Below w.heap.size w W1 := hW1 ▸ (Below.refl _ w).alloc (Nat.le_refl _) _
  obtain ⟨g0, hg0⟩ : ∃ g0, w.heap.size = g0 := ⟨_, rfl⟩
  obtain ⟨k0, k1, k2, k3, k4, k5, k6, k7, k8, k9, k10, k11⟩ : W1.cell? ⟨g0, 0, none⟩ = some (.int .i64 y.k) ∧ W1.cell? ⟨g0, 1, none⟩ = some (.int .i64 y.x) ∧ W1.cell? ⟨g0, 2, none⟩ = some (.bool y.n) ∧ W1.cell? ⟨g0, 3, none⟩ = some (.int .i64 y.t) ∧ W1.cell? ⟨g0, 4, none⟩ = some (.int .i64 y.o) ∧ W1.cell? ⟨g0, 5, none⟩ = some (.int .i64 y.r) ∧ W1.cell? ⟨g0, 6, none⟩ = some (.int .i64 y.d) ∧ W1.cell? ⟨g0, 7, none⟩ = some (.int .i64 y.i) ∧ W1.cell? ⟨g0, 8, none⟩ = some (.int .i64 y.p) ∧ W1.cell? ⟨g0, 9, none⟩ = some (.int .i64 y.q) ∧ W1.cell? ⟨g0, 10, none⟩ = some (.int .i64 y.s) ∧ W1.cell? ⟨g0, 11, none⟩ = some (.int .i64 y.m) := by
    rw [← hW1, ← hg0]
    refine ⟨?_, ?_, ?_, ?_, ?_, ?_, ?_, ?_, ?_, ?_, ?_, ?_⟩ <;> simp
  have h1 := h.below hb
  have hd : PPE W1.drew Fs Ft b b1 b2 p := h1.keep (G := fun _ => False) ((Chg.refl _ W1).drew) (fun _ _ g => g)
  have HD := Lib.hid hd
  have HN := Lib.hid (nx_drew (GP Fs Ft b) hb)
  have C := Lib.hid (dc.push y hd.s)
  have c4 := h1.c4
  have HGL : Hid (g0 < W1.drew.heap.size) := World.block_lt_of_cell? W1 _ k0
  have HGF : Hid (¬ Fs g0) := fun hk => by have := dc.lt h.s g0 hk; omega
  have HW := Lib.hid hW1
  have HG := Lib.hid hg0
  clear hW1 hg0 hb h1 hd h
  go_enter Tryz.func12, Tryz.ntmps12
  go_upto_region 3 with (fail)
  rw [HW.out]
  try simp only [HG.out]
  go_region_held (fun w' => w'.cell? ⟨b, 4, none⟩ = some (.pointer (some ⟨b1, 0, none⟩)) ∧ w'.cell? ⟨g0, 0, none⟩ = some (.int .i64 y.k) ∧ w'.cell? ⟨g0, 1, none⟩ = some (.int .i64 y.x) ∧ w'.cell? ⟨g0, 2, none⟩ = some (.bool y.n) ∧ w'.cell? ⟨g0, 3, none⟩ = some (.int .i64 y.t) ∧ w'.cell? ⟨g0, 4, none⟩ = some (.int .i64 y.o) ∧ w'.cell? ⟨g0, 5, none⟩ = some (.int .i64 y.r) ∧ w'.cell? ⟨g0, 6, none⟩ = some (.int .i64 y.d) ∧ w'.cell? ⟨g0, 7, none⟩ = some (.int .i64 y.i) ∧ w'.cell? ⟨g0, 8, none⟩ = some (.int .i64 y.p) ∧ w'.cell? ⟨g0, 9, none⟩ = some (.int .i64 y.q) ∧ w'.cell? ⟨g0, 10, none⟩ = some (.int .i64 y.s) ∧ w'.cell? ⟨g0, 11, none⟩ = some (.int .i64 y.m)) (first | exact ⟨c4, k0, k1, k2, k3, k4, k5, k6, k7, k8, k9, k10, k11⟩ | exact S2 | go_keep) (first | (go_at_call 32; refine C.out.mono ?_; rintro e w2 ⟨rfl, hc, F', hp, hF⟩; obtain ⟨hx, hn⟩ := HD.out.sstep hc hp hF; have HX := Lib.hid hx; have HN2 := Lib.hid (HN.out.trans hn); have S2 := (⟨hx.c4, (hc.cell HGL.out HGF.out).trans k0, (hc.cell HGL.out HGF.out).trans k1, (hc.cell HGL.out HGF.out).trans k2, (hc.cell HGL.out HGF.out).trans k3, (hc.cell HGL.out HGF.out).trans k4, (hc.cell HGL.out HGF.out).trans k5, (hc.cell HGL.out HGF.out).trans k6, (hc.cell HGL.out HGF.out).trans k7, (hc.cell HGL.out HGF.out).trans k8, (hc.cell HGL.out HGF.out).trans k9, (hc.cell HGL.out HGF.out).trans k10, (hc.cell HGL.out HGF.out).trans k11⟩ : w2.cell? ⟨b, 4, none⟩ = some (.pointer (some ⟨b1, 0, none⟩)) ∧ w2.cell? ⟨g0, 0, none⟩ = some (.int .i64 y.k) ∧ w2.cell? ⟨g0, 1, none⟩ = some (.int .i64 y.x) ∧ w2.cell? ⟨g0, 2, none⟩ = some (.bool y.n) ∧ w2.cell? ⟨g0, 3, none⟩ = some (.int .i64 y.t) ∧ w2.cell? ⟨g0, 4, none⟩ = some (.int .i64 y.o) ∧ w2.cell? ⟨g0, 5, none⟩ = some (.int .i64 y.r) ∧ w2.cell? ⟨g0, 6, none⟩ = some (.int .i64 y.d) ∧ w2.cell? ⟨g0, 7, none⟩ = some (.int .i64 y.i) ∧ w2.cell? ⟨g0, 8, none⟩ = some (.int .i64 y.p) ∧ w2.cell? ⟨g0, 9, none⟩ = some (.int .i64 y.q) ∧ w2.cell? ⟨g0, 10, none⟩ = some (.int .i64 y.s) ∧ w2.cell? ⟨g0, 11, none⟩ = some (.int .i64 y.m)); clear hc hp hF hx hn))
  all_goals
    go_wp2_with fail
    go_ret
    exact ⟨rfl, _, ⟨F', Ft, b1, b2, HX.out, rfl⟩, HN2.out⟩
theorem pridle_any (h : PP w F b p) : Calls Tryz.prog 22 #[.pointer (some ⟨b, 0, none⟩)] w fun e w' => e = .returned (.bool (idleB p)) ∧ Below w.heap.size w w' := by
  obtain ⟨Fs, Ft, b1, b2, h, rfl⟩ := h
  have HH := Lib.hid h
  obtain ⟨q, hq⟩ : ∃ q, idleB p = q := ⟨_, rfl⟩
  rw [hq]
  have HQ := Lib.hid hq
  clear hq
  obtain ⟨h0, Z, vW, vO, hz⟩ := h.s
  have C1 := Lib.hid (pwait_any hz (Nat.le_trans h0.wl (by decide)))
  have c4 := h.c4
  clear hz h0 h
  go_enter Tryz.func22, Tryz.ntmps22
  go_wp2_with fail
  refine C1.out.mono ?_
  rintro e w2 ⟨⟨a, c, rfl, hr⟩, hb⟩
  have H2 := Lib.hid (HH.out.below hb)
  have HB2 := Lib.hid hb
  clear hr hb C1 c4
  by_cases hW : p.s.W.length = 0
  rotate_left
  · have hW2 : ((p.s.W.length : Int) == 0) = false := by simpa using hW
    have e9 : idleB p = false := by unfold idleB; rw [decide_eq_false hW]; rfl
    have HE := Lib.hid e9
    clear hW e9
    have c4 := H2.out.c4
    go_wp2_with fail
    go_ret
    exact ⟨congrArg (fun x => Ending.returned (.bool x)) (HE.out.symm.trans HQ.out), HB2.out⟩
  rw [hW]
  have HWW := Lib.hid hW
  clear hW
  obtain ⟨h0, Z, vW, vO, hz⟩ := H2.out.s
  have C2 := Lib.hid (pout_any hz h0)
  have c4 := H2.out.c4
  clear hz h0
  go_wp2_with fail
  refine C2.out.mono ?_
  rintro e w3 ⟨⟨a3, c3, rfl, hr⟩, hb⟩
  have H3 := Lib.hid (H2.out.below hb)
  have HB3 := Lib.hid (HB2.out.trans (hb.mono HB2.out.size))
  have hol : p.s.out.length = p.s.L.length := List.length_map ..
  rw [hol]
  clear hr hb C2 c4 hol
  by_cases hL : p.s.L.length = 0
  rotate_left
  · have hL2 : ((p.s.L.length : Int) == 0) = false := by simpa using hL
    have e9 : idleB p = false := by unfold idleB; rw [decide_eq_false hL, Bool.and_false]; rfl
    have HE := Lib.hid e9
    clear hL e9
    have c4 := H3.out.c4
    go_wp2_with fail
    go_ret
    exact ⟨congrArg (fun x => Ending.returned (.bool x)) (HE.out.symm.trans HQ.out), HB3.out⟩
  rw [hL]
  have C3 := abld_any b 6 p.o w3 H3.out.c6
  have e9 : idleB p = !p.o := by unfold idleB; rw [decide_eq_true HWW.out, decide_eq_true hL]; rfl
  have HE := Lib.hid e9
  clear hL e9
  have c4 := H3.out.c4
  go_wp2_with fail
  refine C3.mono ?_
  rintro e w4 ⟨rfl, rfl⟩
  go_wp2_with fail
  go_ret
  exact ⟨congrArg (fun x => Ending.returned (.bool x)) (HE.out.symm.trans HQ.out), HB3.out⟩
set_option maxHeartbeats 4000000 in
theorem prtake_any (n : Int) (v : Value) (ys : List Ob) (h : PP w F b p) (hv : Os w v ys) (hoff : ∀ a n c, v = .slice (some a) n c → ys ≠ [] → ¬ F a.block) (hl : ys.length ≤ 3000) : Calls Tryz.prog 42 #[.pointer (some ⟨b, 0, none⟩), .agg #[.int .i64 n, v]] w fun e w' => ∃ r, e = .returned r ∧ ∃ F', PP w' F' b (takeP p (n, ys)) ∧ Nx w w' F F' ∧ OwN1 w' w.heap.size F' r (takeR p.t (n, ys)).1.1 := by
  obtain ⟨Fs, Ft, b1, b2, h, rfl⟩ := h
  obtain ⟨av, cv, rfl⟩ := hv.form
  obtain ⟨W1, hW1⟩ : ∃ W1, w.alloc (.cells #[.int .i64 n, .slice av ys.length cv] 69) = W1 := ⟨_, rfl⟩
  have hb : Below w.heap.size w W1 := hW1 ▸ (Below.refl _ w).alloc (Nat.le_refl _) _
  obtain ⟨g0, hg0⟩ : ∃ g0, w.heap.size = g0 := ⟨_, rfl⟩
  obtain ⟨k0, k1⟩ : W1.cell? ⟨g0, 0, none⟩ = some (.int .i64 n) ∧ W1.cell? ⟨g0, 1, none⟩ = some (.slice av ys.length cv) := by
    rw [← hW1, ← hg0]
    refine ⟨?_, ?_⟩ <;> simp
  have h1 := h.below hb
  have hv1 := hv.below hb
  have hd : PPE W1.drew Fs Ft b b1 b2 p := h1.keep (G := fun _ => False) ((Chg.refl _ W1).drew) (fun _ _ g => g)
  have HD := Lib.hid hd
  have HN := Lib.hid (nx_drew (GP Fs Ft b) hb)
  have HSZ : Hid (w.heap.size ≤ W1.drew.heap.size) := hb.size
  have hvd : Os W1.drew (.slice av ys.length cv) ys := hv1.chg (F := fun _ => False) ((Chg.refl _ W1).drew) (fun _ _ _ _ _ g => g)
  have C := Lib.hid (ttake_any n (.slice av ys.length cv) ys hd.t hvd (fun a n c e hn hf => hoff a n c e hn (.inr (.inr hf))) hl)
  obtain ⟨⟨⟨told, code⟩, t'⟩, hT⟩ : ∃ q, takeR p.t (n, ys) = q := ⟨_, rfl⟩
  have eT : takeP p (n, ys) = ⟨p.me, p.pe, p.s, t', p.o || decide (code = 0 ∨ code = 10 ∨ code = 9)⟩ := by unfold takeP; rw [hT]
  rw [eT, hT]
  rw [hT] at C
  dsimp only at C
  clear hT eT
  have c5 := h1.c5
  have HGL : Hid (g0 < W1.drew.heap.size) := World.block_lt_of_cell? W1 _ k0
  have HGF : Hid (¬ Ft g0) := fun hk => by have := h.t.2.lt g0 hk; omega
  have HW := Lib.hid hW1
  have HG := Lib.hid hg0
  clear hW1 hg0 hb h1 hd h hv hv1 hvd hoff
  go_enter Tryz.func42, Tryz.ntmps42
  go_upto_region 1 with (fail)
  rw [HW.out]
  try simp only [HG.out]
  go_region_held (fun w' => w'.cell? ⟨b, 5, none⟩ = some (.pointer (some ⟨b2, 0, none⟩)) ∧ w'.cell? ⟨g0, 0, none⟩ = some (.int .i64 n) ∧ w'.cell? ⟨g0, 1, none⟩ = some (.slice av ys.length cv)) (first | exact ⟨c5, k0, k1⟩ | exact S2 | go_keep) (first | (go_at_call 72; refine C.out.mono ?_; rintro e w2 ⟨r, F', rfl, hp, hc, _, hF, hr⟩; obtain ⟨hx, hn⟩ := HD.out.tstep hc hp hF; have HX := Lib.hid hx; have HN2 := Lib.hid (HN.out.trans hn); have HR := Lib.hid (HD.out.tell hr HSZ.out); have S2 := (⟨hx.c5, (hc.cell HGL.out HGF.out).trans k0, (hc.cell HGL.out HGF.out).trans k1⟩ : w2.cell? ⟨b, 5, none⟩ = some (.pointer (some ⟨b2, 0, none⟩)) ∧ w2.cell? ⟨g0, 0, none⟩ = some (.int .i64 n) ∧ w2.cell? ⟨g0, 1, none⟩ = some (.slice av ys.length cv)); obtain ⟨ar, cr, rfl⟩ := own_form hr.1; clear hc hp hF hx hn hr))
  all_goals
    by_cases hc : code = 0 ∨ code = 10 ∨ code = 9
    · have HC := Lib.hid hc
      have C2 := Lib.hid (abst_any b 6 p.o w2 HX.out.c6 (HX.out.fz 6))
      rcases hc with hc | hc | hc
      all_goals
        subst hc
        go_wp2_with fail
        refine C2.out.mono ?_
        rintro e w3 ⟨rfl, hw3⟩
        obtain ⟨hx, hn⟩ : PPE w3 Fs F' b b1 b2 ⟨p.me, p.pe, p.s, t', true⟩ ∧ Nx w2 w3 (GP Fs F' b) (GP Fs F' b) := by
          rw [hw3]
          exact HX.out.ostep true
        have HX3 := Lib.hid hx
        have HN3 := Lib.hid (HN2.out.trans hn)
        obtain ⟨k1, k2, _⟩ := nx_own hn HR.out.1 HR.out.2
        have HR3 : Hid (OwN1 w3 w.heap.size (GP Fs F' b) (.slice ar told.length cr) told) := ⟨k1, k2⟩
        clear hx hn k1 k2 hw3
        go_wp2_with fail
        go_ret
        exact ⟨_, rfl, _, ⟨Fs, F', b1, b2, by simpa using HX3.out, rfl⟩, HN3.out, HR3.out⟩
    · have n0 : (code == 0) = false := by simpa using fun e => hc (.inl e)
      have n1 : (code == 10) = false := by simpa using fun e => hc (.inr (.inl e))
      have n2 : (code == 9) = false := by simpa using fun e => hc (.inr (.inr e))
      have HC := Lib.hid hc
      clear hc
      go_wp2_with fail
      go_ret
      exact ⟨_, rfl, _, ⟨Fs, F', b1, b2, by rw [decide_eq_false HC.out, Bool.or_false]; exact HX.out, rfl⟩, HN2.out, HR.out⟩
set_option maxHeartbeats 8000000 in
theorem prgot_any (a : Option Addr) (c : Nat) (ks : List Ak) (h : PP w F b p) (hk : As w (.slice a ks.length c) ks) (ho : Off w F a ks.length) (hl : ks.length ≤ 3000) : Calls Tryz.prog 43 #[.pointer (some ⟨b, 0, none⟩), .slice a ks.length c] w fun e w' => e = .returned (.tuple #[]) ∧ ∃ F', PP w' F' b ⟨p.me, p.pe, gotsL p.me p.s ks, p.t, p.o⟩ ∧ Nx w w' F F' := by
  have HH := Lib.hid h
  have HK := Lib.hid hk
  have HO := Lib.hid ho
  have HL : Hid (ks.length ≤ 3000) := hl
  clear h hk ho hl
  go_enter Tryz.func43, Tryz.ntmps43
  go_wp2_with fail
  go_loopw [8] (fun i wr => ∃ (k : Nat) (F' : Nat → Prop), k ≤ ks.length ∧ i = .int .i64 k ∧ PP wr F' b ⟨p.me, p.pe, gotsL p.me p.s (ks.take k), p.t, p.o⟩ ∧ Nx w wr F F') (fun i _ => ks.length - (intOf i).toNat)
  case atStart => exact ⟨0, F, Nat.zero_le _, rfl, HH.out, Nx.refl _ _⟩
  case round =>
    obtain ⟨k, F', hk, rfl, hp, hn⟩ := hrel
    have HN := Lib.hid hn
    by_cases hlt : k < ks.length
    · have hA : As wr (.slice a ks.length c) ks := Gs.chg (R := RA) HK.out hn.1 (fun x n c e hne => (HO.out (by have h9 : ks ≠ [] := hne; intro h0; exact h9 (List.eq_nil_of_length_eq_zero h0)) x (by simp only [Value.slice.injEq] at e; exact e.1)).2)
      obtain ⟨bx, off, rfl, hbx, x0, x1, x2, x3⟩ := As.at hA hlt
      obtain ⟨z, hz⟩ : ∃ z, ks.getD k (0, 0, 0, 0) = z := ⟨_, rfl⟩
      rw [hz] at x0 x1 x2 x3
      have HTK : Hid (gotsL p.me p.s (ks.take (k + 1)) = gots1 p.me (gotsL p.me p.s (ks.take k)) z) := by
        show _ = _
        rw [← gotsL_snoc, ← hz]
        congr 1
        rw [List.take_add_one]
        congr 1
        rw [List.getD_eq_getElem?_getD, List.getElem?_eq_getElem hlt]
        rfl
      obtain ⟨s0, hs0⟩ : ∃ s, gotsL p.me p.s (ks.take k) = s := ⟨_, rfl⟩
      rw [hs0] at hp HTK
      obtain ⟨Fs, Ft, b1, b2, hp, rfl⟩ := hp
      obtain ⟨V, hV⟩ : ∃ V, wr.alloc (.cells #[.int .i64 z.1, .int .i64 z.2.1, .int .i64 z.2.2.1, .int .i64 z.2.2.2] 112) = V := ⟨_, rfl⟩
      obtain ⟨g0, hg0⟩ : ∃ g0, wr.heap.size = g0 := ⟨_, rfl⟩
      have hb : Below wr.heap.size wr V := hV ▸ (Below.refl _ wr).alloc (Nat.le_refl _) _
      have HAK : Hid (V.cell? ⟨g0, 0, none⟩ = some (.int .i64 z.1) ∧ V.cell? ⟨g0, 1, none⟩ = some (.int .i64 z.2.1) ∧ V.cell? ⟨g0, 2, none⟩ = some (.int .i64 z.2.2.1) ∧ V.cell? ⟨g0, 3, none⟩ = some (.int .i64 z.2.2.2)) := by
        rw [← hV, ← hg0]
        refine ⟨?_, ?_, ?_, ?_⟩ <;> simp
      have HPV := Lib.hid (hp.below hb)
      have HNV := Lib.hid (hn.trans (.below hb))
      have HGF : Hid (¬ Fs g0) := fun hk => by have h1 := dc.lt hp.s g0 hk; omega
      have HW := Lib.hid hV
      have HG := Lib.hid hg0
      have hk0 : (0 : Int) ≤ (k : Int) := by omega
      have hk1 : (k : Int) < (ks.length : Int) := by omega
      have hk9 : (ks.length : Int) ≤ 3000 := by have := HL.out; omega
      have hkn : ((k : Int)).toNat = k := Int.toNat_natCast k
      clear hp hn hV hg0 hb hA hz hs0
      go_upto_region 3 with (fail)
      rw [HW.out]
      try simp only [HG.out]
      clear x0 x1 x2 x3 hbx
      obtain ⟨y0, y1, y2, y3⟩ := HAK.out
      have c0 := HPV.out.c0
      have c1 := HPV.out.c1
      have no : ∀ (_ : ¬ (z.1 = p.me.1 ∧ z.2.1 = p.me.2)), gots1 p.me s0 z = s0 := fun h => if_neg h
      by_cases e0 : z.1 = p.me.1
      · have d0 : (z.1 == p.me.1) = true := by simpa using e0
        by_cases e1 : z.2.1 = p.me.2
        · have d1 : (z.2.1 == p.me.2) = true := by simpa using e1
          have HY : Hid (gots1 p.me s0 z = gtS s0 z) := if_pos ⟨e0, e1⟩
          clear e0 e1 no
          go_quiet (fail)
          obtain ⟨W2, hW2⟩ : ∃ W2, V.drewN nq = W2 := ⟨_, rfl⟩
          have hp2 : PPE W2 Fs Ft b b1 b2 ⟨p.me, p.pe, s0, p.t, p.o⟩ := hW2 ▸ HPV.out.keep (G := fun _ => False) ((Chg.refl _ V).dn nq) (fun _ _ g => g)
          have HN2 : Hid (Nx w W2 F (GP Fs Ft b)) := hW2 ▸ HNV.out.trans ⟨(Chg.refl _ V).dn nq, fun k hk => .inl hk⟩
          obtain ⟨z0, z1, z2, z3⟩ : W2.cell? ⟨g0, 0, none⟩ = some (.int .i64 z.1) ∧ W2.cell? ⟨g0, 1, none⟩ = some (.int .i64 z.2.1) ∧ W2.cell? ⟨g0, 2, none⟩ = some (.int .i64 z.2.2.1) ∧ W2.cell? ⟨g0, 3, none⟩ = some (.int .i64 z.2.2.2) := hW2 ▸ HAK.out
          rw [hW2]
          have hd : PPE W2.drew Fs Ft b b1 b2 ⟨p.me, p.pe, s0, p.t, p.o⟩ := hp2.keep (G := fun _ => False) ((Chg.refl _ W2).drew) (fun _ _ g => g)
          have HD9 := Lib.hid hd
          have C := Lib.hid (dc.got z hd.s)
          have c4 := hp2.c4
          have HGL : Hid (g0 < W2.drew.heap.size) := World.block_lt_of_cell? W2 _ z0
          clear hd hp2 hW2 y0 y1 y2 y3 c0 c1
          go_upto_region 4 with (fail)
          go_region_held (fun w' => w'.cell? ⟨b, 4, none⟩ = some (.pointer (some ⟨b1, 0, none⟩)) ∧ w'.cell? ⟨g0, 0, none⟩ = some (.int .i64 z.1) ∧ w'.cell? ⟨g0, 1, none⟩ = some (.int .i64 z.2.1) ∧ w'.cell? ⟨g0, 2, none⟩ = some (.int .i64 z.2.2.1) ∧ w'.cell? ⟨g0, 3, none⟩ = some (.int .i64 z.2.2.2)) (first | exact ⟨c4, z0, z1, z2, z3⟩ | exact S2 | go_keep) (first | (go_at_call 74; refine C.out.mono ?_; rintro e w3 ⟨rfl, hc, F2, hp2, hF2⟩; obtain ⟨hx, hn⟩ := HD9.out.sstep hc hp2 hF2; have HX := Lib.hid hx; have HN3 := Lib.hid (HN2.out.trans ((nx_drew (GP Fs Ft b) (Below.refl _ W2)).trans hn)); have S2 := (⟨hx.c4, (hc.cell HGL.out HGF.out).trans z0, (hc.cell HGL.out HGF.out).trans z1, (hc.cell HGL.out HGF.out).trans z2, (hc.cell HGL.out HGF.out).trans z3⟩ : w3.cell? ⟨b, 4, none⟩ = some (.pointer (some ⟨b1, 0, none⟩)) ∧ w3.cell? ⟨g0, 0, none⟩ = some (.int .i64 z.1) ∧ w3.cell? ⟨g0, 1, none⟩ = some (.int .i64 z.2.1) ∧ w3.cell? ⟨g0, 2, none⟩ = some (.int .i64 z.2.2.1) ∧ w3.cell? ⟨g0, 3, none⟩ = some (.int .i64 z.2.2.2)); clear hc hp2 hF2 hx hn))
          go_wp2_with fail
          go_roundw
          case rel => exact ⟨k + 1, _, hlt, by go_num, ⟨F2, Ft, b1, b2, by rw [HTK.out, HY.out]; exact HX.out, rfl⟩, HN3.out⟩
          case measure => simp [intOf]; omega
        · have d1 : (z.2.1 == p.me.2) = false := by simpa using e1
          have HY : Hid (gots1 p.me s0 z = s0) := no (fun h => e1 h.2)
          clear e0 e1 no
          go_quiet (fail)
          go_wp2_with fail
          go_roundw
          case rel => exact ⟨k + 1, _, hlt, by go_num, ⟨Fs, Ft, b1, b2, by rw [HTK.out, HY.out]; exact HPV.out.keep (G := fun _ => False) ((Chg.refl _ V).dn _) (fun _ _ g => g), rfl⟩, HNV.out.trans ⟨(Chg.refl _ V).dn _, fun k hk => .inl hk⟩⟩
          case measure => simp [intOf]; omega
      · have d0 : (z.1 == p.me.1) = false := by simpa using e0
        have HY : Hid (gots1 p.me s0 z = s0) := no (fun h => e0 h.1)
        clear e0 no
        go_quiet (fail)
        go_wp2_with fail
        go_roundw
        case rel => exact ⟨k + 1, _, hlt, by go_num, ⟨Fs, Ft, b1, b2, by rw [HTK.out, HY.out]; exact HPV.out.keep (G := fun _ => False) ((Chg.refl _ V).dn _) (fun _ _ g => g), rfl⟩, HNV.out.trans ⟨(Chg.refl _ V).dn _, fun k hk => .inl hk⟩⟩
        case measure => simp [intOf]; omega
    · obtain rfl : k = ks.length := by omega
      rw [List.take_length] at hp
      have HP := Lib.hid hp
      go_wp2_with fail
      go_end0
      exact ⟨rfl, F', HP.out, HN.out⟩
end
end Go.Proofs.YthnajpckhoomgaaGreat
