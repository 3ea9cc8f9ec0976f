/- Texts Yab, Yad of this proof, in one. No conditions but on lengths. -/
import Derived.Test.YthnajpckhoomgaaGreatRows
import Derived.Test.YthnajpckhoomgaaGreatU47
import Derived.Test.YthnajpckhoomgaaGreatU53
import Derived.ArgAppend
import Derived.Below
import Derived.BigQuiet
import Derived.BigRegion
import Derived.Calls
import Derived.ChangeAlike
import Derived.ChangeArms
import Derived.ChangeKeysEq
import Derived.ChangeMade
import Derived.ChangeOld
import Derived.Deep.Cut
import Derived.Deep.CutBlock
import Derived.Deep.LoopGhost
import Derived.Deep.QuietTactic
import Derived.Deep.RegionHeld
import Derived.Deep.RegionLaw
import Derived.Deep.RegionWith
import Derived.Deep.Slices
import Derived.Defers
import Derived.Ground.GgzProg
import Derived.Ground.Names2Prog
import Derived.Laws.AppendOwnNone
import Derived.Laws.BitsLemmas
import Derived.Laws.BytesArg
import Derived.Laws.LoneSync
import Derived.Laws.OwnMore
import Derived.Laws.Pointers
import Derived.Laws.StructEq
import Derived.Lib.ConvBytes
import Derived.Lib.Hide
import Derived.Lib.OwnBridge
import Derived.Lib.QuietBelow
import Derived.Lib.SliceRun
import Derived.Lib.SlicesCompact
import Derived.LoopIn
import Derived.LoopTactic
import Derived.Maps.AppendAt
import Derived.Maps.Own
import Derived.Maps.OwnOps
import Derived.Maps.OwnSet
import Derived.Maps.RangeWalk
import Derived.Maps.Views
import Derived.OpenShut
import Derived.Orders
import Derived.Outline
import Derived.OwnWalkIn
import Derived.ProofKit
import Derived.RangeFuncBox
import Derived.RangeFuncCalls
import Derived.RangeFuncLeaves
import Derived.RangeFuncNested
import Derived.RegionCalls
import Derived.RegionTactic
import Derived.Shelf.RegionOpen
import Derived.Shelf.RegionOpenPlain
import Derived.Shelf.SlIterI.Nil
import Derived.Shelf.Slices.CompactI
import Derived.Shelf.Slices.In.SortNone
import Derived.Shelf.Sort.Plain
import Derived.ShutString
import Derived.Sort.Grow
import Derived.StillTail
import Derived.TacticsInMore
import Derived.WalkKit
import Derived.WalkLawsBesides
import Derived.WalkSpells
import Derived.WideShapes
namespace Go.Proofs.YthnajpckhoomgaaGreat
set_option maxRecDepth 100000
set_option linter.unusedVariables false
open Go.RowKit

structure Tw (w : World) (F G : Nat → Prop) (b c : Nat) (p q : Pr) : Prop where
  p : PP w F b p
  q : PP w G c q
  dis : ∀ k, F k → ¬ G k
section
variable {w w' : World} {F F' G : Nat → Prop} {b c : Nat} {p p' q : Pr}
theorem Tw.l (h : Tw w F G b c p q) (hp : PP w' F' b p') (hn : Nx w w' F F') : Tw w' F' G b c p' q := ⟨hp, h.q.keep hn.1 (fun k hk hf => h.dis k hf hk), fun k hk hg => (hn.2 k hk).elim (fun h1 => h.dis k h1 hg) (fun h1 => by have := h.q.lt k hg; omega)⟩
theorem Tw.symm (h : Tw w F G b c p q) : Tw w G F c b q p := ⟨h.q, h.p, fun k hk hg => h.dis k hg hk⟩
theorem Tw.r {G' : Nat → Prop} {q' : Pr} (h : Tw w F G b c p q) (hq : PP w' G' c q') (hn : Nx w w' G G') : Tw w' F G' b c p q' := (h.symm.l hq hn).symm
theorem Tw.below (h : Tw w F G b c p q) (hb : Below w.heap.size w w') : Tw w' F G b c p q := ⟨h.p.below hb, h.q.below hb, h.dis⟩
end
def y7 : Ob := ⟨1, 7, false, 0, 0, 0, 0, 0, 0, 0, 0, 0⟩
def awP (s : Sd) : Pr := ⟨(1, 5), (2, 0), s, tk0, false⟩
def awQ (t : Tk) (o : Bool) : Pr := ⟨(2, 0), (1, 5), sd0 4 3, t, o⟩
theorem aw_ok : NdOk (1, 5) ∧ NdOk (2, 0) ∧ ((1, 5) : Nd).1 ≠ ((2, 0) : Nd).1 ∧ nwOk 4 3 := by decide
theorem aw_ok' : NdOk (2, 0) ∧ NdOk (1, 5) ∧ ((2, 0) : Nd).1 ≠ ((1, 5) : Nd).1 ∧ nwOk 4 3 := by decide
theorem aw_push : pushR (sd0 4 3) y7 = (0, ⟨4, 3, [y7], [], 0⟩) := o1_push (by decide)
theorem aw_send : sdT ⟨4, 3, [y7], [], 0⟩ = [(0, [y7])] ∧ sdS ⟨4, 3, [y7], [], 0⟩ = o1 4 3 y7 1 := o1_send (by decide)
theorem aw_f1 : frsL (owedL (awP ⟨4, 3, [y7], [], 0⟩)) (sdT ⟨4, 3, [y7], [], 0⟩) = [[ptB (0, [y7])]] := by rw [aw_send.1]; rfl
theorem aw_k1 : FrOk 1 5 2 0 [ptB (0, [y7])] := by decide
theorem aw_h1 : hearL (awQ tk0 false) [ptB (0, [y7])] = ([y7], awQ ⟨1, []⟩ true) := by rfl
theorem aw_mk : mk 1 (srt 1 (nums [])) 16 = 0 := by rw [← rsrt_srt]; decide
theorem aw_f2 : frsL (owedL (awQ ⟨1, []⟩ true)) (sdT (sd0 4 3)) = [[ptA (1, 5, 1, 0)]] := by
  have e : owedL (awQ ⟨1, []⟩ true) = [ptA (1, 5, 1, mk 1 (srt 1 (nums [])) 16)] := rfl
  rw [e, aw_mk]
  rfl
theorem aw_k2 : FrOk 2 0 1 5 [ptA (1, 5, 1, 0)] := by decide
theorem aw_h2 : hearL (awP (o1 4 3 y7 1)) [ptA (1, 5, 1, 0)] = ([], awP (o0 4 3)) := by
  have hg : gtB (o1 4 3 y7 1) (1, 5, 1, 0) := ⟨by decide, show far 0 1 ≤ far 0 1 from Int.le_refl _⟩
  have e : gtS (o1 4 3 y7 1) (1, 5, 1, 0) = o0 4 3 := by
    rw [gtS_yes hg]
    rfl
  show (([] : List Ob) ++ [], awP (gots1 (1, 5) (o1 4 3 y7 1) (1, 5, 1, 0))) = _
  unfold gots1
  rw [if_pos ⟨rfl, rfl⟩, e]
  rfl
theorem aw_few1 : ∀ i, i < [ptB (0, [y7])].length → PtFew ([ptB (0, [y7])].getD i zPt) := fun i hi => by
  obtain rfl : i = 0 := by have h9 : i < 1 := hi; omega
  exact ⟨by decide, by decide, by decide, by decide, .inr (.inl rfl)⟩
theorem aw_few2 : ∀ i, i < [ptA (1, 5, 1, 0)].length → PtFew ([ptA (1, 5, 1, 0)].getD i zPt) := fun i hi => by
  obtain rfl : i = 0 := by have h9 : i < 1 := hi; omega
  exact ⟨by decide, by decide, by decide, by decide, .inr (.inr rfl)⟩
theorem aw_idle1 : idleB (awP (o0 4 3)) = true := rfl
theorem aw_idle2 : idleB (awQ ⟨1, []⟩ false) = true := rfl
theorem phearQ {w : World} {G : Nat → Prop} {c : Nat} {a : Option Addr} {c' : Nat} (h : PP w G c (awQ tk0 false)) (hp : PaO w G a c' [ptB (0, [y7])]) : Calls Tryz.prog 19 #[.pointer (some ⟨c, 0, none⟩), .agg #[.int .i64 1, .int .i64 5, .int .i64 2, .int .i64 0, .slice a 1 c']] w fun e w' => ∃ r, e = .returned (.tuple #[r, .int .i64 0]) ∧ ∃ F', PP w' F' c (awQ ⟨1, []⟩ true) ∧ Nx w w' G F' ∧ RowF w' w.heap.size F' r [y7] := by
  have C := prhear_any a c' _ h hp aw_few1 aw_k1
  rw [aw_h1] at C
  exact C
theorem phearP {w : World} {G : Nat → Prop} {b : Nat} {a : Option Addr} {c' : Nat} (h : PP w G b (awP (o1 4 3 y7 1))) (hp : PaO w G a c' [ptA (1, 5, 1, 0)]) : Calls Tryz.prog 19 #[.pointer (some ⟨b, 0, none⟩), .agg #[.int .i64 2, .int .i64 0, .int .i64 1, .int .i64 5, .slice a 1 c']] w fun e w' => ∃ r, e = .returned (.tuple #[r, .int .i64 0]) ∧ ∃ F', PP w' F' b (awP (o0 4 3)) ∧ Nx w w' G F' ∧ RowF w' w.heap.size F' r [] := by
  have C := prhear_any a c' _ h hp aw_few2 aw_k2
  rw [aw_h2] at C
  exact C
set_option maxHeartbeats 32000000 in
theorem awake16 (w : World) : Calls Tryz.prog 11 #[] w fun e w' => e = .returned (.bool true) ∧ Below w.heap.size w w' := by
  obtain ⟨V, hV⟩ : ∃ V, (w.alloc (.cells #[.int .i64 1, .int .i64 5] 23)).alloc (.cells #[.int .i64 2, .int .i64 0] 23) = V := ⟨_, rfl⟩
  obtain ⟨g0, hg0⟩ : ∃ g0, w.heap.size = g0 := ⟨_, rfl⟩
  have HB : Hid (Below w.heap.size w V) := hV ▸ ((Below.refl _ w).alloc (Nat.le_refl _) _).alloc (by simp) _
  have HQ : Hid (NdAt V g0 (1, 5) ∧ NdAt V (g0 + 1) (2, 0)) := by
    rw [← hV, ← hg0]
    exact ⟨⟨by simp, by simp⟩, ⟨by simp, by simp⟩⟩
  have C1 := Lib.hid (prnew_any (1, 5) (2, 0) 4 3 V)
  have HV := Lib.hid hV
  have HG := Lib.hid hg0
  clear hV hg0
  go_enter Tryz.func11, Tryz.ntmps11
  go_upto_region 3 with (fail)
  rw [HV.out]
  try simp only [HG.out]
  obtain ⟨q0, q1⟩ := HQ.out.1
  obtain ⟨q2, q3⟩ := HQ.out.2
  go_wp2_with fail
  refine C1.out.mono ?_
  rintro e w1 ⟨hb, ⟨hno, _⟩ | ⟨_, b, F, rfl, hp, hF⟩⟩
  · exact absurd aw_ok hno
  have HB1 := Lib.hid (HB.out.trans (hb.mono HB.out.size))
  have Q1 : Hid (NdAt w1 g0 (1, 5) ∧ NdAt w1 (g0 + 1) (2, 0)) := ⟨HQ.out.1.below hb, HQ.out.2.below hb⟩
  have HP1 := Lib.hid hp
  have HF1 : Hid (∀ k, F k → w.heap.size ≤ k) := fun k hk => Nat.le_trans HB.out.size (hF k hk)
  have C2 := Lib.hid (prnew_any (2, 0) (1, 5) 4 3 w1)
  clear hb hp hF q0 q1 q2 q3 C1
  obtain ⟨q0, q1⟩ := Q1.out.1
  obtain ⟨q2, q3⟩ := Q1.out.2
  go_wp2_with fail
  refine C2.out.mono ?_
  rintro e w2 ⟨hb, ⟨hno, _⟩ | ⟨_, c, G, rfl, hq, hG⟩⟩
  · exact absurd aw_ok' hno
  have X2 : Hid (Tw w2 F G b c (awP (sd0 4 3)) (awQ tk0 false)) := ⟨HP1.out.below hb, hq, fun k hk hg => by have h1 := HP1.out.lt k hk; have h2 := hG k hg; omega⟩
  have HB2 := Lib.hid (HB1.out.trans (hb.mono HB1.out.size))
  have HG2 : Hid (∀ k, G k → w.heap.size ≤ k) := fun k hk => Nat.le_trans HB1.out.size (hG k hk)
  clear hb hq hG q0 q1 q2 q3 C2 HP1
  have C3 := prpush_any y7 X2.out.p
  rw [show (awP (sd0 4 3)).s = sd0 4 3 from rfl, aw_push] at C3
  have HC3 := Lib.hid C3
  clear C3
  go_wp2_with fail
  refine HC3.out.mono ?_
  rintro e w3 ⟨rfl, F3, hp, hn⟩
  have X3 : Hid (Tw w3 F3 G b c (awP ⟨4, 3, [y7], [], 0⟩) (awQ tk0 false)) := X2.out.l hp hn
  have HN3 : Hid (Nx w2 w3 F F3) := hn
  clear hp hn HC3
  have C4 := prfr_any X3.out.p
  rw [show (awP ⟨4, 3, [y7], [], 0⟩).s = ⟨4, 3, [y7], [], 0⟩ from rfl, aw_f1] at C4
  have HC4 := Lib.hid C4
  clear C4
  go_wp2_with fail
  refine HC4.out.mono ?_
  rintro e w4 ⟨r4, rfl, F4, hp, hn, hf⟩
  have hp' : PP w4 F4 b (awP (o1 4 3 y7 1)) := by
    have h := hp
    unfold frS at h
    rw [show (awP ⟨4, 3, [y7], [], 0⟩).s = ⟨4, 3, [y7], [], 0⟩ from rfl, aw_send.2] at h
    exact h
  have X4 : Hid (Tw w4 F4 G b c (awP (o1 4 3 y7 1)) (awQ tk0 false)) := X3.out.l hp' hn
  have HN4 := Lib.hid (HN3.out.trans hn)
  obtain ⟨a4, c4, rfl⟩ := hf.form
  obtain ⟨bx, a5, c5, rfl, hcap, hbx, hnx, ⟨z0, z1, z2, z3, z4⟩, hpa⟩ := hf.at (i := 0) (show 0 < 1 by decide)
  have hpa2 : PaO w4 G a5 c5 [ptB (0, [y7])] := hpa.mono (fun k hk hg => .inr (X3.out.q.lt k hg))
  have HPA := Lib.hid hpa2
  have HC5 := Lib.hid (phearQ X4.out.q hpa2)
  obtain ⟨y0, y1, y2, y3, y4⟩ : w4.cell? ⟨bx, 0, none⟩ = some (.int .i64 1) ∧ w4.cell? ⟨bx, 1, none⟩ = some (.int .i64 5) ∧ w4.cell? ⟨bx, 2, none⟩ = some (.int .i64 2) ∧ w4.cell? ⟨bx, 3, none⟩ = some (.int .i64 0) ∧ w4.cell? ⟨bx, 4, none⟩ = some (.slice a5 1 c5) := ⟨z0, z1, z2, z3, z4⟩
  have hc1 : (1 : Nat) ≤ c4 := hcap
  clear hp hp' hn hf hpa hpa2 z0 z1 z2 z3 z4 HC4 hnx hcap HPA
  go_wp2_with fail
  refine HC5.out.mono ?_
  rintro e w5 ⟨r5, rfl, G5, hq, hn, hr⟩
  have X5 : Hid (Tw w5 F4 G5 b c (awP (o1 4 3 y7 1)) (awQ ⟨1, []⟩ true)) := X4.out.r hq hn
  have HN5 : Hid (Nx w4 w5 G G5) := hn
  obtain ⟨ar, cr, rfl⟩ := hr.form
  obtain ⟨gt, hgt, hg5a, hg5b⟩ := own_some hr.own (by decide)
  have hos := hr.own.os
  have HT : Hid (w5.cell? ⟨gt, 1, none⟩ = some (.int .i64 7) ∧ gt < w5.heap.size ∧ ¬ F4 gt ∧ ¬ G5 gt ∧ 1 ≤ cr ∧ ar = some ⟨gt, 0, none⟩) := by
    have hnf := hr.off gt (by rw [hgt]; rfl)
    have h4 : ¬ F4 gt := fun h => by have := X4.out.p.lt gt h; omega
    rcases hos with ⟨a, cap, hv, _, h0⟩ | ⟨bq, off, cap, hv, hcap9, _, h4'⟩
    · cases h0
    · simp only [Value.slice.injEq] at hv
      obtain ⟨hv1, -, hv3⟩ := hv
      have hgt1 := hgt
      rw [hgt1] at hv1
      simp only [Option.some.injEq, Addr.mk.injEq, and_true] at hv1
      obtain ⟨rfl, rfl⟩ := hv1
      exact ⟨h4' 0 (by decide) 1 (by decide), hg5b, h4, hnf, by rw [hv3]; exact hcap9, hgt1⟩
  have C6 := prfr_any X5.out.q
  rw [show (awQ ⟨1, []⟩ true).s = sd0 4 3 from rfl, aw_f2] at C6
  have HC6 := Lib.hid C6
  clear hq hn hr hgt hg5a hg5b hos C6 HC5 y0 y1 y2 y3 y4 hc1 hbx
  go_wp2_with fail
  refine HC6.out.mono ?_
  rintro e w6 ⟨r6, rfl, G6, hq, hn, hf⟩
  have X6 : Hid (Tw w6 F4 G6 b c (awP (o1 4 3 y7 1)) (awQ ⟨1, []⟩ false)) := X5.out.r hq hn
  have HN6 : Hid (Nx w4 w6 G G6) := HN5.out.trans hn
  have HT6 : Hid (w6.cell? ⟨gt, 1, none⟩ = some (.int .i64 7) ∧ gt < w6.heap.size ∧ ¬ F4 gt) := by
    obtain ⟨t1, t2, t3, t4, _⟩ := HT.out
    exact ⟨(hn.1.cell t2 t4).trans t1, Nat.lt_of_lt_of_le t2 hn.1.size, t3⟩
  obtain ⟨a6, c6, rfl⟩ := hf.form
  obtain ⟨bz, a7, c7, rfl, hcap, hbz, hnz, ⟨z0, z1, z2, z3, z4⟩, hpa⟩ := hf.at (i := 0) (show 0 < 1 by decide)
  have hpa2 : PaO w6 F4 a7 c7 [ptA (1, 5, 1, 0)] := hpa.mono (fun k hk hg => .inr (X5.out.p.lt k hg))
  have HC7 := Lib.hid (phearP X6.out.p hpa2)
  obtain ⟨y0, y1, y2, y3, y4⟩ : w6.cell? ⟨bz, 0, none⟩ = some (.int .i64 2) ∧ w6.cell? ⟨bz, 1, none⟩ = some (.int .i64 0) ∧ w6.cell? ⟨bz, 2, none⟩ = some (.int .i64 1) ∧ w6.cell? ⟨bz, 3, none⟩ = some (.int .i64 5) ∧ w6.cell? ⟨bz, 4, none⟩ = some (.slice a7 1 c7) := ⟨z0, z1, z2, z3, z4⟩
  have hc1 : (1 : Nat) ≤ c6 := hcap
  clear hq hn hf hpa hpa2 z0 z1 z2 z3 z4 HC6 hnz hcap
  go_wp2_with fail
  refine HC7.out.mono ?_
  rintro e w7 ⟨r7, rfl, F7, hp, hn, hr⟩
  obtain ⟨a8, c8, rfl⟩ := hr.form
  have X7 : Hid (Tw w7 F7 G6 b c (awP (o0 4 3)) (awQ ⟨1, []⟩ false)) := X6.out.l hp hn
  have t7 : w7.cell? ⟨gt, 1, none⟩ = some (.int .i64 7) := (hn.1.cell HT6.out.2.1 HT6.out.2.2).trans HT6.out.1
  have HB7 : Hid (Below w.heap.size w w7) := by
    have h4 : Nx w2 w4 F F4 := HN4.out
    have b4 := HB2.out.trans (h4.1.below HB2.out.size (fun k hk => HF1.out k hk))
    have b6 := b4.trans (HN6.out.1.below b4.size (fun k hk => HG2.out k hk))
    have hF4 : ∀ k, F4 k → w.heap.size ≤ k := fun k hk => (h4.2 k hk).elim (HF1.out k) (fun h => Nat.le_trans HB2.out.size h)
    exact b6.trans (hn.1.below b6.size hF4)
  have C8 := pridle_any X7.out.p
  rw [aw_idle1] at C8
  have HC8 := Lib.hid C8
  obtain ⟨_, _, _, _, hcr, hare⟩ := HT.out
  subst hare
  clear hp hn hr HC7 C8 y0 y1 y2 y3 y4 hc1 hbz
  go_wp2_with fail
  refine HC8.out.mono ?_
  rintro e w8 ⟨rfl, hb8⟩
  have C9 := pridle_any (X7.out.below hb8).q
  rw [aw_idle2] at C9
  have HC9 := Lib.hid C9
  have HB8 := Lib.hid (HB7.out.trans (hb8.mono HB7.out.size))
  clear hb8 C9 HC8 t7
  go_wp2_with fail
  refine HC9.out.mono ?_
  rintro e w9 ⟨rfl, hb9⟩
  have HB9 := Lib.hid (HB8.out.trans (hb9.mono HB8.out.size))
  clear hb9 HC9
  go_wp2_with fail
  go_ret
  exact ⟨rfl, HB9.out⟩
end Go.Proofs.YthnajpckhoomgaaGreat
namespace Go.Proofs.YthnajpckhoomgaaGreat
set_option maxRecDepth 100000
set_option linter.unusedVariables false
open Go.RowKit

set_option maxHeartbeats 8000000 in
theorem rfew_any (x : Hd4) (a : Option Addr) (c : Nat) (rs : List RPt) (w : World) (h : Gs RP w (.slice a rs.length c) rs) : Calls Tryz.prog 26 #[.agg #[.int .i64 x.1, .int .i64 x.2.1, .int .i64 x.2.2.1, .int .i64 x.2.2.2, .slice a rs.length c]] w fun e w' => ∃ q, e = .returned (.bool q) ∧ Below w.heap.size w w' := by
  obtain ⟨W1, hW1⟩ : ∃ W1, w.alloc (.cells #[.int .i64 x.1, .int .i64 x.2.1, .int .i64 x.2.2.1, .int .i64 x.2.2.2, .slice a rs.length c] 42) = W1 := ⟨_, rfl⟩
  obtain ⟨g0, hg0⟩ : ∃ g0, w.heap.size = g0 := ⟨_, rfl⟩
  have HBW : Hid (Below w.heap.size w W1) := hW1 ▸ (Below.refl _ w).alloc (Nat.le_refl _) _
  have HQ : Hid (W1.cell? ⟨g0, 4, none⟩ = some (.slice a rs.length c)) := by show _ = _; rw [← hW1, ← hg0]; simp
  have HR : Hid (Gs RP W1 (.slice a rs.length c) rs) := h.below HBW.out
  have HW := Lib.hid hW1
  have HG := Lib.hid hg0
  clear hW1 hg0 h
  go_enter Tryz.func26, Tryz.ntmps26
  go_upto_region 1 with (fail)
  rw [HW.out]
  try simp only [HG.out]
  go_wp2_with fail
  by_cases hl : (rs.length : Int) ≤ 12
  · have dl : decide ((rs.length : Int) ≤ 12) = true := decide_eq_true hl
    go_loopw [3] (fun i wr => ∃ (k : Nat), k ≤ rs.length ∧ i = .int .i64 k ∧ Below W1.heap.size W1 wr) (fun i _ => rs.length - (intOf i).toNat)
    case atStart => exact ⟨0, Nat.zero_le _, rfl, Below.refl _ _⟩
    case round =>
      obtain ⟨k, hk, rfl, hb⟩ := hrel
      have q4 : wr.cell? ⟨g0, 4, none⟩ = some (.slice a rs.length c) := (hb.cell (p := ⟨g0, 4, none⟩) (World.block_lt_of_cell? W1 _ HQ.out)).trans HQ.out
      by_cases hlt : k < rs.length
      · obtain ⟨bx, off, rfl, hbx, hc⟩ := Gs.at (R := RP) (HR.out.below hb) (i := k) hlt
        obtain ⟨r, hr⟩ : ∃ r : RPt, rs.getD k zR = r := ⟨_, rfl⟩
        obtain ⟨x0, x1, x2, x3, x4, x5, x6, x7, x8, x9, x10⟩ : C11 wr bx (off + k * 11) r := by
          rw [← hr]
          exact c11_of hc
        have HBV : Hid (Below W1.heap.size W1 (wr.alloc (.cells #[.int .i64 r.k, .int .i64 r.be, .slice r.a1 r.l1 r.c1, .int .i64 r.bn, .slice r.a2 r.l2 r.c2, .slice r.a3 r.l3 r.c3, .int .i64 r.s, .int .i64 r.d, .int .i64 r.t, .int .i64 r.n, .string r.x] 77))) := hb.alloc hb.size _
        have hcap : (rs.length : Int) ≤ c := by
          rcases HR.out with ⟨_, _, e, _, e2⟩ | ⟨_, _, cap, e, e2, _⟩
          · rw [show rs.length = 0 from by rw [e2]; rfl] at hlt
            exact absurd hlt (Nat.not_lt_zero _)
          · simp only [Value.slice.injEq] at e
            have : rs.length ≤ cap := e2
            rw [← e.2.2] at this
            omega
        have hk0 : (0 : Int) ≤ (k : Int) := by omega
        have hk1 : (k : Int) < (rs.length : Int) := by omega
        have hkn : ((k : Int)).toNat = k := Int.toNat_natCast k
        clear hc hr hb
        by_cases m1 : (r.l1 : Int) > 80
        · have dm1 : decide ((r.l1 : Int) > 80) = true := decide_eq_true m1
          clear m1
          go_wp2_with fail
          go_ret
          exact ⟨_, rfl, HBW.out.trans (HBV.out.mono HBW.out.size)⟩
        have dm1 : decide ((r.l1 : Int) > 80) = false := decide_eq_false m1
        clear m1
        by_cases m2 : (r.l2 : Int) > 60
        · have dm2 : decide ((r.l2 : Int) > 60) = true := decide_eq_true m2
          clear m2
          go_wp2_with fail
          go_ret
          exact ⟨_, rfl, HBW.out.trans (HBV.out.mono HBW.out.size)⟩
        have dm2 : decide ((r.l2 : Int) > 60) = false := decide_eq_false m2
        clear m2
        by_cases m3 : (r.l3 : Int) > 80
        · have dm3 : decide ((r.l3 : Int) > 80) = true := decide_eq_true m3
          clear m3
          go_wp2_with fail
          go_ret
          exact ⟨_, rfl, HBW.out.trans (HBV.out.mono HBW.out.size)⟩
        have dm3 : decide ((r.l3 : Int) > 80) = false := decide_eq_false m3
        clear m3
        by_cases m4 : (r.x.size : Int) > 600
        · have dm4 : decide ((r.x.size : Int) > 600) = true := decide_eq_true m4
          clear m4
          go_wp2_with fail
          go_ret
          exact ⟨_, rfl, HBW.out.trans (HBV.out.mono HBW.out.size)⟩
        have dm4 : decide ((r.x.size : Int) > 600) = false := decide_eq_false m4
        clear m4
        go_wp2_with fail
        go_roundw
        case rel => exact ⟨k + 1, hlt, by go_num, HBV.out⟩
        case measure => simp [intOf]; omega
      · have ek : k = rs.length := by omega
        subst ek
        have HBV := Lib.hid hb
        clear hb
        go_wp2_with fail
        go_ret
        exact ⟨_, rfl, HBW.out.trans (HBV.out.mono HBW.out.size)⟩
  · have dl : decide ((rs.length : Int) ≤ 12) = false := decide_eq_false hl
    have q4 := HQ.out
    have hpos : (0 : Int) < (rs.length : Int) := by omega
    go_loopw [3] (fun i wr => i = .int .i64 0 ∧ wr = W1) (fun i _ => 0)
    case atStart => exact ⟨rfl, rfl⟩
    case round =>
      obtain ⟨rfl, rfl⟩ := hrel
      go_wp2_with fail
      go_ret
      exact ⟨.inl rfl, HBW.out⟩
theorem niln_push (y : Ob) (w : World) : Calls Tryz.prog 12 #[.pointer none, .agg #[.int .i64 y.k, .int .i64 y.x, .bool y.n, .int .i64 y.t, .int .i64 y.o, .int .i64 y.r, .int .i64 y.d, .int .i64 y.i, .int .i64 y.p, .int .i64 y.q, .int .i64 y.s, .int .i64 y.m]] w fun e w' => e = .returned (.int .i64 3) ∧ Below w.heap.size w w' := by
  obtain ⟨W1, hW1⟩ : ∃ W1, w.alloc (.cells #[.int .i64 y.k, .int .i64 y.x, .bool y.n, .int .i64 y.t, .int .i64 y.o, .int .i64 y.r, .int .i64 y.d, .int .i64 y.i, .int .i64 y.p, .int .i64 y.q, .int .i64 y.s, .int .i64 y.m] 39) = W1 := ⟨_, rfl⟩
  have HB : Hid (Below w.heap.size w W1) := hW1 ▸ (Below.refl _ w).alloc (Nat.le_refl _) _
  have HW := Lib.hid hW1
  clear hW1
  go_enter Tryz.func12, Tryz.ntmps12
  go_upto_region 1 with (fail)
  rw [HW.out]
  go_wp2_with fail
  go_ret
  exact ⟨rfl, HB.out⟩
theorem niln_frames (w : World) : Calls Tryz.prog 15 #[.pointer none] w fun e w' => e = .returned (.slice none 0 0) ∧ Below w.heap.size w w' := by
  go_enter Tryz.func15, Tryz.ntmps15
  go_wp2_with fail
  go_ret
  exact ⟨rfl, Below.refl _ _⟩
theorem niln_again (w : World) : Calls Tryz.prog 17 #[.pointer none] w fun e w' => e = .returned (.tuple #[.slice none 0 0, .bool true]) ∧ Below w.heap.size w w' := by
  go_enter Tryz.func17, Tryz.ntmps17
  go_wp2_with fail
  exact bodyPost_ret (v := .tuple #[.slice none 0 0, .bool true]) (by simp [results, Tryz.results17, go_sem]) rfl ⟨rfl, Below.refl _ _⟩
theorem niln_idle (w : World) : Calls Tryz.prog 22 #[.pointer none] w fun e w' => e = .returned (.bool true) ∧ Below w.heap.size w w' := by
  go_enter Tryz.func22, Tryz.ntmps22
  go_wp2_with fail
  go_ret
  exact ⟨rfl, Below.refl _ _⟩
theorem niln_hear (x : Hd4) (a : Option Addr) (l c : Nat) (w : World) : Calls Tryz.prog 19 #[.pointer none, .agg #[.int .i64 x.1, .int .i64 x.2.1, .int .i64 x.2.2.1, .int .i64 x.2.2.2, .slice a l c]] w fun e w' => e = .returned (.tuple #[.slice none 0 0, .int .i64 3]) ∧ Below w.heap.size w w' := by
  obtain ⟨W1, hW1⟩ : ∃ W1, w.alloc (.cells #[.int .i64 x.1, .int .i64 x.2.1, .int .i64 x.2.2.1, .int .i64 x.2.2.2, .slice a l c] 42) = W1 := ⟨_, rfl⟩
  have HB : Hid (Below w.heap.size w W1) := hW1 ▸ (Below.refl _ w).alloc (Nat.le_refl _) _
  have HW := Lib.hid hW1
  clear hW1
  go_enter Tryz.func19, Tryz.ntmps19
  go_upto_region 1 with (fail)
  rw [HW.out]
  go_wp2_with fail
  exact bodyPost_ret (v := .tuple #[.slice none 0 0, .int .i64 3]) (by simp [results, Tryz.results19, go_sem]) rfl ⟨rfl, HB.out⟩
end Go.Proofs.YthnajpckhoomgaaGreat
