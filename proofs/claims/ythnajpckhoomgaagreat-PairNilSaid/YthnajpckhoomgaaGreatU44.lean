/- Texts Sd10, Ya7, Ya9, Ya3, Yac of this proof, in one. No conditions but on lengths. -/
import Derived.Test.YthnajpckhoomgaaGreatRows
import Derived.Test.YthnajpckhoomgaaGreatU37
import Derived.Test.YthnajpckhoomgaaGreatU43
import Derived.ArgAppend
import Derived.Below
import Derived.BigQuiet
import Derived.BigRegion
import Derived.Calls
import Derived.ChangeAlike
import Derived.ChangeArms
import Derived.ChangeKeysEq
import Derived.ChangeMade
import Derived.ChangeOld
import Derived.Deep.Cut
import Derived.Deep.CutBlock
import Derived.Deep.LoopGhost
import Derived.Deep.QuietTactic
import Derived.Deep.RegionHeld
import Derived.Deep.RegionLaw
import Derived.Deep.RegionWith
import Derived.Deep.Slices
import Derived.Defers
import Derived.Ground.GgzProg
import Derived.Ground.Names2Prog
import Derived.Laws.AppendOwnNone
import Derived.Laws.BitsLemmas
import Derived.Laws.BytesArg
import Derived.Laws.LoneSync
import Derived.Laws.OwnMore
import Derived.Laws.Pointers
import Derived.Laws.StructEq
import Derived.Lib.ConvBytes
import Derived.Lib.Hide
import Derived.Lib.OwnBridge
import Derived.Lib.QuietBelow
import Derived.Lib.SliceRun
import Derived.Lib.SlicesCompact
import Derived.LoopIn
import Derived.LoopTactic
import Derived.Maps.AppendAt
import Derived.Maps.Own
import Derived.Maps.OwnOps
import Derived.Maps.OwnSet
import Derived.Maps.RangeWalk
import Derived.Maps.Views
import Derived.OpenShut
import Derived.Orders
import Derived.Outline
import Derived.OwnWalkIn
import Derived.ProofKit
import Derived.RangeFuncBox
import Derived.RangeFuncCalls
import Derived.RangeFuncLeaves
import Derived.RangeFuncNested
import Derived.RegionCalls
import Derived.RegionTactic
import Derived.Shelf.RegionOpen
import Derived.Shelf.RegionOpenPlain
import Derived.Shelf.SlIterI.Nil
import Derived.Shelf.Slices.CompactI
import Derived.Shelf.Slices.In.SortNone
import Derived.Shelf.Sort.Plain
import Derived.ShutString
import Derived.Sort.Grow
import Derived.StillTail
import Derived.TacticsInMore
import Derived.WalkKit
import Derived.WalkLawsBesides
import Derived.WalkSpells
import Derived.WideShapes
namespace Go.Proofs.YthnajpckhoomgaaGreat
set_option maxRecDepth 100000
open Go.RowKit

theorem BtsO.grew {G : Nat → Prop} {w w' : World} {v u : Value} {bs : List Bt} (h : BtsO w G v bs) (hg : w.grownBy w' u.ownBlock) (hG : ∀ g, u.ownBlock = some g → G g) : BtsO w' G v bs := h.chg ((chg_grown hg).mono (fun x _ e => hG x e))
end Go.Proofs.YthnajpckhoomgaaGreat
namespace Go.Proofs.YthnajpckhoomgaaGreat
set_option maxRecDepth 100000
set_option linter.unusedVariables false
open Go.RowKit

section
variable {w w' : World} {F : Nat → Prop} {b : Nat} {p : Pr}
/-- One ack, laid down, and one part that has it. -/
theorem ackrow (w : World) (x : Ak) (S : Nat) (G : Nat → Prop) (hG : ∀ k, G k → k < w.heap.size) (hS : S ≤ w.heap.size) {W1 W2 : World} (h1 : w.alloc (.cells #[.int .i64 x.1, .int .i64 x.2.1, .int .i64 x.2.2.1, .int .i64 x.2.2.2] 112) = W1) (h2 : W1.alloc (.cells #[.int .i64 3, .int .i64 0, .slice none 0 0, .int .i64 0, .slice none 0 0, .slice (some ⟨w.heap.size, 0, none⟩) 1 1, .int .i64 0, .int .i64 0, .int .i64 0, .int .i64 0, .string ⟨#[]⟩] 77) = W2) : PaW W2 S G (.slice (some ⟨W1.heap.size, 0, none⟩) 1 1) [ptA x] := by
  have hs1 : W1.heap.size = w.heap.size + 1 := by rw [← h1]; simp
  have hb2 : Below W1.heap.size W1 W2 := h2 ▸ (Below.refl _ W1).alloc (Nat.le_refl _) _
  have hA1 : As W1 (.slice (some ⟨w.heap.size, 0, none⟩) 1 1) [x] := by
    have h := World.ownsRow_lit (e := 112) (size := 4) w #[.int .i64 x.1, .int .i64 x.2.1, .int .i64 x.2.2.1, .int .i64 x.2.2.2] 1 (Nat.le_refl _) (by decide) rfl
    rw [h1] at h
    exact (Gs_of_own (R := RA) (ys := [x]) (by have e : gflat RA [x] = RA.cl x := gflat_one (R := RA) x; rw [e]; exact h)).1
  refine ⟨[⟨3, 0, none, 0, 0, 0, none, 0, 0, some ⟨w.heap.size, 0, none⟩, 1, 1, 0, 0, 0, 0, ⟨#[]⟩⟩], rfl, ?_, fun g hg hk => ?_, fun i hi => ?_⟩
  · have h := World.ownsRow_lit (e := 77) (size := 11) W1 (#[.int .i64 3, .int .i64 0, .slice none 0 0, .int .i64 0, .slice none 0 0, .slice (some ⟨w.heap.size, 0, none⟩) 1 1, .int .i64 0, .int .i64 0, .int .i64 0, .int .i64 0, .string ⟨#[]⟩]) 1 (base := S) (by omega) (by decide) rfl
    rw [h2] at h
    have e : gflat RP [(⟨3, 0, none, 0, 0, 0, none, 0, 0, some ⟨w.heap.size, 0, none⟩, 1, 1, 0, 0, 0, 0, ⟨#[]⟩⟩ : RPt)] = RP.cl _ := gflat_one (R := RP) _
    exact (congrArg (fun z => World.ownsRow W2 S 77 11 (.slice (some ⟨W1.heap.size, 0, none⟩) 1 1) 1 z) e).mpr h
  · have hg2 : W1.heap.size = g := by simpa [Value.ownBlock] using hg
    have := hG _ hk
    omega
  · obtain rfl : i = 0 := by have h9 : i < 1 := hi; omega
    refine ⟨⟨rfl, rfl, el_nil9 _, rfl, Os_nil _, hA1.below hb2, rfl, rfl, rfl, rfl, rfl⟩, rfl, fun h => absurd rfl h, fun _ a ha => ?_⟩
    cases ha
    have hlt : w.heap.size < W2.heap.size := by have := hb2.size; omega
    refine ⟨hlt, fun hk => ?_⟩
    rcases hk with hk | hk
    · exact absurd (hG _ hk) (Nat.lt_irrefl _)
    · have hk2 : W1.heap.size = w.heap.size := by simpa [Value.ownBlock] using hk
      omega
set_option maxHeartbeats 8000000 in
theorem prowed_any (h : PP w F b p) : Calls Tryz.prog 104 #[.pointer (some ⟨b, 0, none⟩)] w fun e w' => ∃ r, e = .returned r ∧ ∃ F', PP w' F' b (offP p) ∧ Nx w w' F F' ∧ PaW w' w.heap.size (Ab F' w.heap.size) r (owedL p) := by
  obtain ⟨Fs, Ft, b1, b2, h, rfl⟩ := h
  have HH := Lib.hid h
  have C1 := absw_any b 6 p.o w h.c6 (h.fz 6)
  obtain ⟨o, ho⟩ : ∃ o, p.o = o := ⟨_, rfl⟩
  have HO := Lib.hid ho
  rw [ho] at C1
  clear ho h
  go_enter Tryz.func104, Tryz.ntmps104
  go_wp2_with fail
  refine C1.mono ?_
  rintro e w1 ⟨rfl, hw1⟩
  obtain ⟨hx, hn⟩ : PPE w1 Fs Ft b b1 b2 ⟨p.me, p.pe, p.s, p.t, false⟩ ∧ Nx w w1 (GP Fs Ft b) (GP Fs Ft b) := by
    rw [hw1]
    exact HH.out.ostep false
  have HX := Lib.hid hx
  have HN := Lib.hid hn
  clear hw1 hn C1
  have c5 := hx.c5
  clear hx
  cases o
  · go_wp2_with fail
    go_ret
    exact ⟨_, rfl, _, ⟨Fs, Ft, b1, b2, HX.out, rfl⟩, HN.out, by unfold owedL; rw [HO.out]; exact PaW.nil _ _ _⟩
  obtain ⟨m, hm⟩ : ∃ m, mk p.t.nx (srt p.t.nx (nums p.t.H)) 16 = m := ⟨_, rfl⟩
  have CT := tack_any HX.out.t
  have HM : Hid (ackP p = (p.pe.1, p.pe.2, p.t.nx, m)) := by show _ = _; rw [← hm]; rfl
  dsimp only at CT
  rw [hm] at CT
  have CT2 := Lib.hid CT
  clear hm CT
  go_wp2_with fail
  refine CT2.out.mono ?_
  rintro e w2 ⟨Ft2, rfl, ht, hc, _, hF⟩
  obtain ⟨hx, hn⟩ := HX.out.tstep hc ht hF
  have HN2 := Lib.hid (HN.out.trans hn)
  obtain ⟨V, hV⟩ : ∃ V, w2.alloc (.cells #[.int .i64 0, .int .i64 0, .int .i64 p.t.nx, .int .i64 m] 112) = V := ⟨_, rfl⟩
  obtain ⟨g0, hg0⟩ : ∃ g0, w2.heap.size = g0 := ⟨_, rfl⟩
  have hb : Below w2.heap.size w2 V := hV ▸ (Below.refl _ w2).alloc (Nat.le_refl _) _
  have hr : OwnA V g0 (0, 0, p.t.nx, m) := hg0 ▸ hV ▸ owna_alloc w2 0 0 p.t.nx m 112 w2.heap.size rfl
  have HNF : Hid (¬ GP Fs Ft2 b g0) := fun hk => by have := hx.lt g0 hk; omega
  have hxv := hx.below hb
  have HXV := Lib.hid hxv
  have HNV := Lib.hid (HN2.out.trans (.below hb))
  have HGV : Hid (w.heap.size ≤ g0) := by rw [← hg0]; exact HN2.out.1.size
  have HV := Lib.hid hV
  have HG := Lib.hid hg0
  clear ht hc hF hx hn hV hg0 hb CT2 c5
  go_upto_region 4 with (fail)
  rw [HV.out]
  try simp only [HG.out]
  obtain ⟨⟨r0, r1, r2, r3⟩, rf⟩ := hr
  have c2 := hxv.c2
  have c3 := hxv.c3
  clear hxv
  go_region
  all_goals
    obtain ⟨V2, hV2⟩ : ∃ V2, ((V.setCell ⟨g0, 0, none⟩ (.int .i64 p.pe.1)).setCell ⟨g0, 1, none⟩ (.int .i64 p.pe.2)).drew = V2 := ⟨_, rfl⟩
    obtain ⟨e0, e1, e2, e3⟩ : V2.cell? ⟨g0, 0, none⟩ = some (.int .i64 p.pe.1) ∧ V2.cell? ⟨g0, 1, none⟩ = some (.int .i64 p.pe.2) ∧ V2.cell? ⟨g0, 2, none⟩ = some (.int .i64 p.t.nx) ∧ V2.cell? ⟨g0, 3, none⟩ = some (.int .i64 m) := by
      rw [← hV2]
      refine ⟨?_, ?_, ?_, ?_⟩ <;> simp [go_sem, r0, r1, r2, r3]
    have hx2 : PPE V2 Fs Ft2 b b1 b2 ⟨p.me, p.pe, p.s, p.t, false⟩ := hV2 ▸ HXV.out.keep (G := fun k => k = g0) (Chg.drew (Chg.setCell (F := fun k => k = g0) (p := ⟨g0, 1, none⟩) (Chg.setCell (F := fun k => k = g0) (p := ⟨g0, 0, none⟩) (Chg.refl _ V) (.inl rfl) _) (.inl rfl) _)) (fun k hk e => HNF.out (e ▸ hk))
    have hn2 : Nx w V2 (GP Fs Ft b) (GP Fs Ft2 b) := hV2 ▸ ⟨Chg.drew (Chg.setCell (p := ⟨g0, 1, none⟩) (Chg.setCell (p := ⟨g0, 0, none⟩) HNV.out.1 (.inr HGV.out) _) (.inr HGV.out) _), HNV.out.2⟩
    have hrow := ackrow V2 (p.pe.1, p.pe.2, p.t.nx, m) w.heap.size (Ab (GP Fs Ft2 b) w.heap.size) (fun k hk => hk.elim (hx2.lt k) (fun h => Nat.lt_of_lt_of_le h hn2.1.size)) hn2.1.size rfl rfl
    have hb2 : Below V2.heap.size V2 (((V2.alloc (.cells #[.int .i64 p.pe.1, .int .i64 p.pe.2, .int .i64 p.t.nx, .int .i64 m] 112))).alloc (.cells #[.int .i64 3, .int .i64 0, .slice none 0 0, .int .i64 0, .slice none 0 0, .slice (some ⟨V2.heap.size, 0, none⟩) 1 1, .int .i64 0, .int .i64 0, .int .i64 0, .int .i64 0, .string ⟨#[]⟩] 77)) := ((Below.refl _ V2).alloc (Nat.le_refl _) _).alloc (by simp) _
    have HX9 := Lib.hid (hx2.below hb2)
    have HN9 := Lib.hid (hn2.trans (.below hb2))
    simp only [World.size_alloc] at hrow
    have HR9 := Lib.hid hrow
    rw [hV2]
    clear hV2 hx2 hn2 hrow hb2 r0 r1 r2 r3 rf c2 c3
    go_wp2_with fail
    go_ret
    exact ⟨_, rfl, _, ⟨Fs, Ft2, b1, b2, HX9.out, rfl⟩, HN9.out, by unfold owedL; rw [HO.out, HM.out]; exact HR9.out⟩
end
end Go.Proofs.YthnajpckhoomgaaGreat
namespace Go.Proofs.YthnajpckhoomgaaGreat
set_option maxRecDepth 100000
set_option linter.unusedVariables false
open Go.RowKit

theorem frs_step (ow : List Pt) (L : List Bt) {k : Nat} (h : k < L.length) : (frsL ow L).take (k + 1) = (frsL ow L).take k ++ [(if k = 0 then ow else []) ++ [ptB (L.getD k zb)]] := by
  cases L with
  | nil => exact absurd h (Nat.not_lt_zero _)
  | cons x l =>
    cases k with
    | zero => rfl
    | succ k =>
      have hk : k < l.length := by rw [List.length_cons] at h; omega
      show (ow ++ [ptB x]) :: (l.map fun x => [ptB x]).take (k + 1) = (ow ++ [ptB x]) :: (l.map fun x => [ptB x]).take k ++ [[] ++ [ptB (l.getD k zb)]]
      rw [List.cons_append, List.nil_append, List.take_add_one]
      congr 2
      rw [List.getElem?_map, List.getD_eq_getElem?_getD, List.getElem?_eq_getElem hk]
      rfl
theorem frs_end (ow : List Pt) (L : List Bt) : frsL ow L = (frsL ow L).take L.length ++ (if L.length = 0 then (if ow = [] then [] else [ow]) else []) := by
  cases L with
  | nil => show (if ow = [] then [] else [ow]) = [] ++ _; rw [List.nil_append]; rfl
  | cons x l =>
    have e : (frsL ow (x :: l)).length = (x :: l).length := by show ((ow ++ [ptB x]) :: l.map fun x => [ptB x]).length = _; rw [List.length_cons, List.length_map]; rfl
    rw [if_neg (by rw [List.length_cons]; omega), List.append_nil, ← e, List.take_length]
theorem owed_len (p : Pr) : (owedL p).length ≤ 1 := by unfold owedL; split <;> simp
section
variable {w w' : World} {F : Nat → Prop} {b : Nat} {p : Pr}
theorem prpso_any (h : PP w F b p) : Calls Tryz.prog 57 #[.pointer (some ⟨b, 0, none⟩)] w fun e w' => ∃ g u F', e = .returned (.func (Fn.func 105) #[] #[.pointer (some ⟨g, 0, none⟩)]) ∧ PP w' F' b (offP p) ∧ Nx w w' F F' ∧ w'.cell? ⟨g, 0, none⟩ = some u ∧ (∀ j, w'.frozen? ⟨g, j, none⟩ = false) ∧ w.heap.size ≤ g ∧ g < w'.heap.size ∧ ¬ F' g ∧ u.ownBlock ≠ some g ∧ PaW w' w.heap.size (fun k => Ab F' w.heap.size k ∨ k = g) u (owedL p) := by
  have C := Lib.hid (prowed_any h)
  clear h
  go_enter Tryz.func57, Tryz.ntmps57
  go_wp2_with fail
  refine C.out.mono ?_
  rintro e w1 ⟨r, rfl, F1, hp, hn, hr⟩
  obtain ⟨a, c, rfl⟩ := hr.form
  have hb : Below w1.heap.size w1 (w1.alloc (.cells #[.slice a (owedL p).length c] 40)) := (Below.refl _ w1).alloc (Nat.le_refl _) _
  have hnF : ¬ F1 w1.heap.size := fun hk => absurd (hp.lt _ hk) (Nat.lt_irrefl _)
  have hno : (Value.slice a (owedL p).length c).ownBlock ≠ some w1.heap.size := fun e => absurd (hr.lt _ e).2 (Nat.lt_irrefl _)
  have hnb : ∀ g, (Value.slice a (owedL p).length c).ownBlock = some g → ¬ g = w1.heap.size := fun g hg e => hno (e ▸ hg)
  have hr2 : PaW (w1.alloc (.cells #[.slice a (owedL p).length c] 40)) w.heap.size (fun k => Ab F1 w.heap.size k ∨ k = w1.heap.size) (.slice a (owedL p).length c) (owedL p) := hr.nx ⟨chg0 hb, fun k hk => hk.elim .inl (fun e => .inr (Nat.le_of_eq e.symm))⟩
  have HP := Lib.hid (hp.below hb)
  have HN := Lib.hid (hn.trans (.below hb))
  have HS : Hid (w.heap.size ≤ w1.heap.size) := hn.1.size
  have HNF := Lib.hid hnF
  have HNO := Lib.hid hno
  have HR2 := Lib.hid hr2
  clear hp hn hr hb hnF hno hnb hr2 C
  go_wp2_with fail
  go_ret
  exact ⟨w1.heap.size, _, F1, rfl, HP.out, HN.out, by simp, fun j => by simp, HS.out, by simp, HNF.out, HNO.out, HR2.out⟩
end
end Go.Proofs.YthnajpckhoomgaaGreat
namespace Go.Proofs.YthnajpckhoomgaaGreat
set_option maxRecDepth 100000
set_option linter.unusedVariables false
open Go.RowKit

/-- An echo's two cells. -/
def NdAt (w : World) (g : Nat) (n : Nd) : Prop := w.cell? ⟨g, 0, none⟩ = some (.int .i64 n.1) ∧ w.cell? ⟨g, 1, none⟩ = some (.int .i64 n.2)
theorem NdAt.below {w w' : World} {g : Nat} {n : Nd} (h : NdAt w g n) (hb : Below w.heap.size w w') : NdAt w' g n := ⟨(hb.cell (p := ⟨g, 0, none⟩) (World.block_lt_of_cell? w _ h.1)).trans h.1, (hb.cell (p := ⟨g, 1, none⟩) (World.block_lt_of_cell? w _ h.2)).trans h.2⟩
set_option maxHeartbeats 4000000 in
theorem prnew_any (me pe : Nd) (win tries : Int) (w : World) : Calls Tryz.prog 9 #[.agg #[.int .i64 me.1, .int .i64 me.2], .agg #[.int .i64 pe.1, .int .i64 pe.2], .int .i64 win, .int .i64 tries] w fun e w' => Below w.heap.size w w' ∧ ((¬ (NdOk me ∧ NdOk pe ∧ me.1 ≠ pe.1 ∧ nwOk win tries) ∧ e = .returned (.tuple #[.pointer none, .int .i64 1])) ∨ ((NdOk me ∧ NdOk pe ∧ me.1 ≠ pe.1 ∧ nwOk win tries) ∧ ∃ b F, e = .returned (.tuple #[.pointer (some ⟨b, 0, none⟩), .int .i64 0]) ∧ PP w' F b ⟨me, pe, sd0 win tries, tk0, false⟩ ∧ ∀ k, F k → w.heap.size ≤ k)) := by
  obtain ⟨W1, hW1⟩ : ∃ W1, (w.alloc (.cells #[.int .i64 me.1, .int .i64 me.2] 23)).alloc (.cells #[.int .i64 pe.1, .int .i64 pe.2] 23) = W1 := ⟨_, rfl⟩
  have HB : Hid (Below w.heap.size w W1) := hW1 ▸ ((Below.refl _ w).alloc (Nat.le_refl _) _).alloc (by simp) _
  obtain ⟨g0, hg0⟩ : ∃ g0, w.heap.size = g0 := ⟨_, rfl⟩
  have HQ : Hid (NdAt W1 g0 me ∧ NdAt W1 (g0 + 1) pe) := by
    rw [← hW1, ← hg0]
    exact ⟨⟨by simp, by simp⟩, ⟨by simp, by simp⟩⟩
  have C1 := prnode_any me W1
  have HW := Lib.hid hW1
  have HG := Lib.hid hg0
  clear hW1 hg0
  go_enter Tryz.func9, Tryz.ntmps9
  go_upto_region 1 with (fail)
  rw [HW.out]
  try simp only [HG.out]
  obtain ⟨q0, q1⟩ := HQ.out.1
  obtain ⟨q2, q3⟩ := HQ.out.2
  by_cases hm : NdOk me
  rotate_left
  · have d1 : decide (NdOk me) = false := decide_eq_false hm
    rw [d1] at C1
    clear d1
    go_wp2_with fail
    refine C1.mono ?_
    rintro e w2 ⟨rfl, hb⟩
    have HB2 := Lib.hid (HB.out.trans (hb.mono HB.out.size))
    have Q2 : Hid (NdAt w2 g0 me ∧ NdAt w2 (g0 + 1) pe) := ⟨HQ.out.1.below hb, HQ.out.2.below hb⟩
    have HM := Lib.hid hm
    clear hb q0 q1 q2 q3 hm C1
    obtain ⟨q0, q1⟩ := Q2.out.1
    obtain ⟨q2, q3⟩ := Q2.out.2
    go_wp2_with fail
    exact bodyPost_ret (v := .tuple #[.pointer none, .int .i64 1]) (by simp [results, Tryz.results9, go_sem]) rfl ⟨HB2.out, .inl ⟨fun h => HM.out h.1, rfl⟩⟩
  have d1 : decide (NdOk me) = true := decide_eq_true hm
  rw [d1] at C1
  clear d1
  go_wp2_with fail
  refine C1.mono ?_
  rintro e w2 ⟨rfl, hb⟩
  have HB2 := Lib.hid (HB.out.trans (hb.mono HB.out.size))
  have Q2 : Hid (NdAt w2 g0 me ∧ NdAt w2 (g0 + 1) pe) := ⟨HQ.out.1.below hb, HQ.out.2.below hb⟩
  have HM := Lib.hid hm
  clear hb q0 q1 q2 q3 hm C1
  obtain ⟨q0, q1⟩ := Q2.out.1
  obtain ⟨q2, q3⟩ := Q2.out.2
  have C2 := prnode_any pe w2
  by_cases hp : NdOk pe
  rotate_left
  · have d1 : decide (NdOk pe) = false := decide_eq_false hp
    rw [d1] at C2
    clear d1
    go_wp2_with fail
    refine C2.mono ?_
    rintro e w3 ⟨rfl, hb⟩
    have HB3 := Lib.hid (HB2.out.trans (hb.mono HB2.out.size))
    have Q3 : Hid (NdAt w3 g0 me ∧ NdAt w3 (g0 + 1) pe) := ⟨Q2.out.1.below hb, Q2.out.2.below hb⟩
    have HP := Lib.hid hp
    clear hb q0 q1 q2 q3 hp C2
    obtain ⟨q0, q1⟩ := Q3.out.1
    obtain ⟨q2, q3⟩ := Q3.out.2
    go_wp2_with fail
    exact bodyPost_ret (v := .tuple #[.pointer none, .int .i64 1]) (by simp [results, Tryz.results9, go_sem]) rfl ⟨HB3.out, .inl ⟨fun h => HP.out h.2.1, rfl⟩⟩
  have d1 : decide (NdOk pe) = true := decide_eq_true hp
  rw [d1] at C2
  clear d1
  go_wp2_with fail
  refine C2.mono ?_
  rintro e w3 ⟨rfl, hb⟩
  have HB3 := Lib.hid (HB2.out.trans (hb.mono HB2.out.size))
  have Q3 : Hid (NdAt w3 g0 me ∧ NdAt w3 (g0 + 1) pe) := ⟨Q2.out.1.below hb, Q2.out.2.below hb⟩
  have HP := Lib.hid hp
  clear hb q0 q1 q2 q3 hp C2
  obtain ⟨q0, q1⟩ := Q3.out.1
  obtain ⟨q2, q3⟩ := Q3.out.2
  by_cases he : me.1 = pe.1
  · have d2 : (me.1 == pe.1) = true := by simpa using he
    have HE := Lib.hid he
    clear he
    go_wp2_with fail
    exact bodyPost_ret (v := .tuple #[.pointer none, .int .i64 1]) (by simp [results, Tryz.results9, go_sem]) rfl ⟨HB3.out, .inl ⟨fun h => h.2.2.1 HE.out, rfl⟩⟩
  have d2 : (me.1 == pe.1) = false := by simpa using he
  have HE := Lib.hid he
  clear he
  have CS := Lib.hid (dc.new win tries w3)
  go_wp2_with fail
  refine CS.out.mono ?_
  rintro e w4 ⟨hb, h4 | ⟨h4, b1, Fs, rfl, hs, hFs⟩⟩
  · obtain ⟨h4, rfl⟩ := h4
    have HB4 := Lib.hid (HB3.out.trans (hb.mono HB3.out.size))
    have HN := Lib.hid h4
    clear hb h4 CS q0 q1 q2 q3
    go_wp2_with fail
    exact bodyPost_ret (v := .tuple #[.pointer none, .int .i64 1]) (by simp [results, Tryz.results9, go_sem]) rfl ⟨HB4.out, .inl ⟨fun h => HN.out h.2.2.2, rfl⟩⟩
  have HB4 := Lib.hid (HB3.out.trans (hb.mono HB3.out.size))
  have HN := Lib.hid h4
  have HS := Lib.hid hs
  have HF := Lib.hid hFs
  have HS34 : Hid (w3.heap.size ≤ w4.heap.size) := hb.size
  have Q4 : Hid (NdAt w4 g0 me ∧ NdAt w4 (g0 + 1) pe) := ⟨Q3.out.1.below hb, Q3.out.2.below hb⟩
  clear hb h4 hs hFs CS q0 q1 q2 q3
  obtain ⟨q0, q1⟩ := Q4.out.1
  obtain ⟨q2, q3⟩ := Q4.out.2
  have CT := Lib.hid (tnew_any w4.drew)
  go_upto_region 6 with (fail)
  go_region_held (fun w' => (w'.cell? ⟨g0, 0, none⟩ = some (.int .i64 me.1) ∧ w'.cell? ⟨g0, 1, none⟩ = some (.int .i64 me.2)) ∧ w'.cell? ⟨g0 + 1, 0, none⟩ = some (.int .i64 pe.1) ∧ w'.cell? ⟨g0 + 1, 1, none⟩ = some (.int .i64 pe.2)) (first | exact ⟨⟨q0, q1⟩, q2, q3⟩ | exact Q5.out | go_keep) (first | (go_at_call 30; refine CT.out.mono ?_; rintro e w5 ⟨b2, Ft, rfl, ht, hFt, hb⟩; have HT := Lib.hid ht; have HFT := Lib.hid hFt; have HB5 := Lib.hid hb; have Q5 : Hid (NdAt w5 g0 me ∧ NdAt w5 (g0 + 1) pe) := ⟨NdAt.below (w := w4.drew) Q4.out.1 hb, NdAt.below (w := w4.drew) Q4.out.2 hb⟩; clear ht hFt hb))
  have hb45 : Below w4.heap.size w4 w5 := ((Below.refl w4.heap.size w4).drew).trans HB5.out
  obtain ⟨V, hV⟩ : ∃ V, w5.alloc (.cells #[.int .i64 me.1, .int .i64 me.2, .int .i64 pe.1, .int .i64 pe.2, .pointer (some ⟨b1, 0, none⟩), .pointer (some ⟨b2, 0, none⟩), .int .u32 0] 91) = V := ⟨_, rfl⟩
  have hb5 : Below w5.heap.size w5 V := hV ▸ (Below.refl _ w5).alloc (Nat.le_refl _) _
  obtain ⟨gq, hgq⟩ : ∃ g, w5.heap.size = g := ⟨_, rfl⟩
  have hq : PPE V Fs Ft gq b1 b2 ⟨me, pe, sd0 win tries, tk0, false⟩ := by
    have hls := dc.lt HS.out
    have hlt := HT.out.2.lt
    have h45 := hb45.size
    refine ⟨?_, ?_, ?_, ?_, ?_, ?_, ?_, fun j => ?_, dc.keep HS.out (G := fun _ => False) (chg0 (hb45.trans (hb5.mono h45))) (fun _ _ g => g), HT.out.below hb5, fun k hk ht => ?_, fun hk => ?_, fun hk => ?_, HM.out, HP.out, HE.out⟩
    all_goals try (rw [← hV, ← hgq]; simp [ob])
    · have := hls k hk
      have := HFT.out k ht
      have e : w4.drew.heap.size = w4.heap.size := rfl
      omega
    · have := hls gq hk
      omega
    · have := hlt gq hk
      omega
  have HQ9 := Lib.hid hq
  have HB9 : Hid (Below w.heap.size w V) := HB4.out.trans ((hb45.trans (hb5.mono hb45.size)).mono HB4.out.size)
  have HN9 : Hid (∀ k, GP Fs Ft gq k → w.heap.size ≤ k) := fun k hk => by
    have h1 := HB3.out.size
    have h2 := HB4.out.size
    have h3 := hb45.size
    rcases hk with rfl | hk | hk
    · omega
    · have := HF.out k hk; omega
    · have := HFT.out k hk
      have e : w4.drew.heap.size = w4.heap.size := rfl
      omega
  rw [hV]
  try simp only [hgq]
  clear hq hV hgq hb5 hb45 q0 q1 q2 q3
  go_wp2_with fail
  exact bodyPost_ret (v := .tuple #[.pointer (some ⟨gq, 0, none⟩), .int .i64 0]) (by simp [results, Tryz.results9, go_sem]) rfl ⟨HB9.out, .inr ⟨⟨HM.out, HP.out, HE.out, HN.out⟩, gq, _, rfl, ⟨Fs, Ft, b1, b2, HQ9.out, rfl⟩, HN9.out⟩⟩
end Go.Proofs.YthnajpckhoomgaaGreat
namespace Go.Proofs.YthnajpckhoomgaaGreat
set_option maxRecDepth 100000
set_option linter.unusedVariables false
open Go.RowKit

open Go.WideShapes Go.ChangeShapes
theorem underEC9 : Tryz.prog.underlying 23 = some (.struct (Tryz.prog.fieldsOf 23)) := by kernel_rfl
theorem underFR9 : Tryz.prog.underlying 42 = some (.struct (Tryz.prog.fieldsOf 42)) := by kernel_rfl
theorem underPT9 : Tryz.prog.underlying 77 = some (.struct (Tryz.prog.fieldsOf 77)) := by kernel_rfl
theorem underBE9 : Tryz.prog.underlying 72 = some (.struct (Tryz.prog.fieldsOf 72)) := by kernel_rfl
theorem underBT9 : Tryz.prog.underlying 69 = some (.struct (Tryz.prog.fieldsOf 69)) := by kernel_rfl
theorem underPK9 : Tryz.prog.underlying 75 = some (.struct (Tryz.prog.fieldsOf 75)) := by kernel_rfl
theorem underECS9 : Tryz.prog.underlying 70 = some (.slice 23) := by kernel_rfl
theorem underOBS9 : Tryz.prog.underlying 51 = some (.slice 39) := by kernel_rfl
theorem underAKS9 : Tryz.prog.underlying 73 = some (.slice 112) := by kernel_rfl
theorem underSTR9 : Tryz.prog.underlying 9 = some .string := by kernel_rfl
theorem ec_form {H : Type} {enc : TypeId × Value → H} {w : World} {base b0 : Nat} {spare : Nat → Bool} {held : Bool} {r' : Reach} {v : Value} {d' : DataW H} {p' : List MemPlace}
    (hv : Value.okWide Tryz.prog w r' b0 23 v) (h : DataW.Trod enc Tryz.prog w base spare held 23 v d' p') : ∃ n : Nd, v = .agg #[.int .i64 n.1, .int .i64 n.2] := by
  obtain ⟨cs, rfl, hs⟩ := okWide_struct underEC9 hv
  obtain ⟨c0, c1, rfl⟩ := array2' (hs.trans (by kernel_rfl))
  obtain ⟨fuel, hf⟩ := h
  obtain ⟨xs, m, _, _, _, hl, hx⟩ := DataW.trod_struct underEC9 hf
  obtain ⟨i, rfl, _⟩ := int_cell (cell_form (j := 0) (T := 3) (O := 0) (v := c0) hl hx (by kernel_rfl) (by kernel_rfl) rfl)
  obtain ⟨p, rfl, _⟩ := int_cell (cell_form (j := 1) (T := 3) (O := 1) (v := c1) hl hx (by kernel_rfl) (by kernel_rfl) rfl)
  exact ⟨(i, p), rfl⟩
theorem slice_cell {H : Type} {enc : TypeId × Value → H} {w : World} {base n : Nat} {spare : Nat → Bool} {held : Bool} {v : Value} {T E : TypeId} (hT : Tryz.prog.underlying T = some (.slice E)) (h : ∃ y, DataW.trod enc Tryz.prog w base spare held n T [v] = some y) : ∃ q : Option Addr × Nat × Nat, v = .slice q.1 q.2.1 q.2.2 := by
  obtain ⟨y, hy⟩ := h
  rcases Deep.open_slice hT hy with ⟨hcs, _⟩ | ⟨x, l, c, m, n, D, Pl, hcs, _⟩
  · simp at hcs
    exact ⟨(none, 0, 0), hcs⟩
  · simp at hcs
    exact ⟨(some x, l, c), hcs⟩
theorem list11 {cs : List Value} (h : cs.length = 11) : ∃ c0 c1 c2 c3 c4 c5 c6 c7 c8 c9 c10, cs = [c0, c1, c2, c3, c4, c5, c6, c7, c8, c9, c10] := by
  match cs, h with
  | [c0, c1, c2, c3, c4, c5, c6, c7, c8, c9, c10], _ => exact ⟨c0, c1, c2, c3, c4, c5, c6, c7, c8, c9, c10, rfl⟩
theorem pt_trod {H : Type} {enc : TypeId × Value → H} {w : World} {base n' : Nat} {spare : Nat → Bool} {held : Bool} {cs : List Value} {X : DataW H × List MemPlace} (hl11 : cs.length = 11)
    (hf : DataW.trod enc Tryz.prog w base spare held n' 77 cs = some X) : ∃ r : RPt, cs = r.cl := by
  obtain ⟨c0, c1, c2, c3, c4, c5, c6, c7, c8, c9, c10, rfl⟩ := list11 hl11
  obtain ⟨xs, M, _, _, _, hl, hx⟩ := DataW.trod_struct underPT9 hf
  obtain ⟨k, rfl, _⟩ := int_cell (cell_form (j := 0) (T := 3) (O := 0) (v := c0) hl hx (by kernel_rfl) (by kernel_rfl) rfl)
  obtain ⟨y1, h1⟩ := part_form (j := 1) (T := 72) (O := 1) (K := 2) hl hx (by kernel_rfl) (by kernel_rfl)
  obtain ⟨x1, M1, _, _, _, hl1, hx1⟩ := DataW.trod_struct underBE9 h1
  obtain ⟨be, rfl, _⟩ := int_cell (cell_form (j := 0) (T := 3) (O := 0) (v := c1) hl1 hx1 (by kernel_rfl) (by kernel_rfl) rfl)
  obtain ⟨q1, rfl⟩ := slice_cell underECS9 (cell_form (j := 1) (T := 70) (O := 1) (v := c2) hl1 hx1 (by kernel_rfl) (by kernel_rfl) rfl)
  obtain ⟨y2, h2⟩ := part_form (j := 2) (T := 69) (O := 3) (K := 2) hl hx (by kernel_rfl) (by kernel_rfl)
  obtain ⟨x2, M2, _, _, _, hl2, hx2⟩ := DataW.trod_struct underBT9 h2
  obtain ⟨bn, rfl, _⟩ := int_cell (cell_form (j := 0) (T := 3) (O := 0) (v := c3) hl2 hx2 (by kernel_rfl) (by kernel_rfl) rfl)
  obtain ⟨q2, rfl⟩ := slice_cell underOBS9 (cell_form (j := 1) (T := 51) (O := 1) (v := c4) hl2 hx2 (by kernel_rfl) (by kernel_rfl) rfl)
  obtain ⟨q3, rfl⟩ := slice_cell underAKS9 (cell_form (j := 3) (T := 73) (O := 5) (v := c5) hl hx (by kernel_rfl) (by kernel_rfl) rfl)
  obtain ⟨y4, h4⟩ := part_form (j := 4) (T := 75) (O := 6) (K := 5) hl hx (by kernel_rfl) (by kernel_rfl)
  obtain ⟨x4, M4, _, _, _, hl4, hx4⟩ := DataW.trod_struct underPK9 h4
  obtain ⟨s, rfl, _⟩ := int_cell (cell_form (j := 0) (T := 3) (O := 0) (v := c6) hl4 hx4 (by kernel_rfl) (by kernel_rfl) rfl)
  obtain ⟨d, rfl, _⟩ := int_cell (cell_form (j := 1) (T := 3) (O := 1) (v := c7) hl4 hx4 (by kernel_rfl) (by kernel_rfl) rfl)
  obtain ⟨t, rfl, _⟩ := int_cell (cell_form (j := 2) (T := 3) (O := 2) (v := c8) hl4 hx4 (by kernel_rfl) (by kernel_rfl) rfl)
  obtain ⟨n, rfl, _⟩ := int_cell (cell_form (j := 3) (T := 3) (O := 3) (v := c9) hl4 hx4 (by kernel_rfl) (by kernel_rfl) rfl)
  obtain ⟨y5, h5⟩ := cell_form (j := 4) (T := 9) (O := 4) (v := c10) hl4 hx4 (by kernel_rfl) (by kernel_rfl) rfl
  obtain ⟨str, hstr, _⟩ := DataW.trod_string underSTR9 h5
  simp only [List.cons.injEq, and_true] at hstr
  subst hstr
  exact ⟨⟨k, be, q1.1, q1.2.1, q1.2.2, bn, q2.1, q2.2.1, q2.2.2, q3.1, q3.2.1, q3.2.2, s, d, t, n, str⟩, rfl⟩
/-- A frame as an argument: its parts' cells. -/
theorem fr_form {H : Type} {enc : TypeId × Value → H} {w : World} {base b0 : Nat} {spare : Nat → Bool} {held : Bool} {r' : Reach} {v : Value} {d' : DataW H} {p' : List MemPlace}
    (hv : Value.okWide Tryz.prog w r' b0 42 v) (h : DataW.Trod enc Tryz.prog w base spare held 42 v d' p') : ∃ (x : Hd4) (a : Option Addr) (c : Nat) (rs : List RPt), v = .agg #[.int .i64 x.1, .int .i64 x.2.1, .int .i64 x.2.2.1, .int .i64 x.2.2.2, .slice a rs.length c] ∧ Gs RP w (.slice a rs.length c) rs := by
  obtain ⟨cs, rfl, hs⟩ := okWide_struct underFR9 hv
  obtain ⟨c0, c1, c2, c3, c4, rfl⟩ : ∃ c0 c1 c2 c3 c4, cs = #[c0, c1, c2, c3, c4] := by
    have hl : cs.toList.length = 5 := by rw [Array.length_toList]; exact hs.trans (by kernel_rfl)
    match h9 : cs.toList, hl with
    | [c0, c1, c2, c3, c4], _ => exact ⟨c0, c1, c2, c3, c4, Array.ext' h9⟩
  obtain ⟨fuel, hf⟩ := h
  obtain ⟨xs, m, _, _, _, hl, hx⟩ := DataW.trod_struct underFR9 hf
  obtain ⟨f1, rfl, _⟩ := int_cell (cell_form (j := 0) (T := 3) (O := 0) (v := c0) hl hx (by kernel_rfl) (by kernel_rfl) rfl)
  obtain ⟨f2, rfl, _⟩ := int_cell (cell_form (j := 1) (T := 3) (O := 1) (v := c1) hl hx (by kernel_rfl) (by kernel_rfl) rfl)
  obtain ⟨f3, rfl, _⟩ := int_cell (cell_form (j := 2) (T := 3) (O := 2) (v := c2) hl hx (by kernel_rfl) (by kernel_rfl) rfl)
  obtain ⟨f4, rfl, _⟩ := int_cell (cell_form (j := 3) (T := 3) (O := 3) (v := c3) hl hx (by kernel_rfl) (by kernel_rfl) rfl)
  obtain ⟨y1, h1⟩ := cell_form (j := 4) (T := 40) (O := 4) (v := c4) hl hx (by kernel_rfl) (by kernel_rfl) rfl
  obtain ⟨a, cap, ys, rfl, ho⟩ := gs_trod (R := RP) (fun n' cs X h1 h2 => pt_trod h1 h2) h1
  exact ⟨(f1, f2, f3, f4), a, cap, ys, rfl, ho⟩
end Go.Proofs.YthnajpckhoomgaaGreat
