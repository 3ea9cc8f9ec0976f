/- Texts Ya7, Ya9 of this proof, in one. No conditions but on lengths. -/
import Derived.Test.YtdigjklhfimnbaaGreatRows
import Derived.Test.YtdigjklhfimnbaaGreatU36
import Derived.Test.YtdigjklhfimnbaaGreatU38
import Derived.ArgAppend
import Derived.Below
import Derived.BigQuiet
import Derived.BigRegion
import Derived.Calls
import Derived.ChangeAlike
import Derived.ChangeArms
import Derived.ChangeKeysEq
import Derived.ChangeMade
import Derived.ChangeOld
import Derived.Deep.Cut
import Derived.Deep.CutBlock
import Derived.Deep.LoopGhost
import Derived.Deep.QuietTactic
import Derived.Deep.RegionHeld
import Derived.Deep.RegionLaw
import Derived.Deep.RegionWith
import Derived.Deep.Slices
import Derived.Defers
import Derived.Ground.GgzProg
import Derived.Ground.Names2Prog
import Derived.Laws.AppendOwnNone
import Derived.Laws.BitsLemmas
import Derived.Laws.BytesArg
import Derived.Laws.LoneSync
import Derived.Laws.OwnMore
import Derived.Laws.Pointers
import Derived.Laws.StructEq
import Derived.Lib.ConvBytes
import Derived.Lib.Hide
import Derived.Lib.OwnBridge
import Derived.Lib.QuietBelow
import Derived.Lib.SliceRun
import Derived.Lib.SlicesCompact
import Derived.LoopIn
import Derived.LoopTactic
import Derived.Maps.AppendAt
import Derived.Maps.Own
import Derived.Maps.OwnOps
import Derived.Maps.OwnSet
import Derived.Maps.RangeWalk
import Derived.Maps.Views
import Derived.OpenShut
import Derived.Orders
import Derived.Outline
import Derived.OwnWalkIn
import Derived.ProofKit
import Derived.RangeFuncBox
import Derived.RangeFuncCalls
import Derived.RangeFuncLeaves
import Derived.RangeFuncNested
import Derived.RegionCalls
import Derived.RegionTactic
import Derived.Shelf.RegionOpen
import Derived.Shelf.RegionOpenPlain
import Derived.Shelf.SlIterI.Nil
import Derived.Shelf.Slices.CompactI
import Derived.Shelf.Slices.In.SortNone
import Derived.Shelf.Sort.Plain
import Derived.ShutString
import Derived.Sort.Grow
import Derived.StillTail
import Derived.TacticsInMore
import Derived.WalkKit
import Derived.WalkLawsBesides
import Derived.WalkSpells
import Derived.WideShapes
namespace Go.Proofs.YtdigjklhfimnbaaGreat
set_option maxRecDepth 100000
set_option linter.unusedVariables false
open Go.RowKit

section
variable {w w' : World} {F : Nat → Prop} {b : Nat} {p : Pr}
/-- One ack, laid down, and one part that has it. -/
theorem ackrow (w : World) (x : Ak) (S : Nat) (G : Nat → Prop) (hG : ∀ k, G k → k < w.heap.size) (hS : S ≤ w.heap.size) {W1 W2 : World} (h1 : w.alloc (.cells #[.int .i64 x.1, .int .i64 x.2.1, .int .i64 x.2.2.1, .int .i64 x.2.2.2] 212) = W1) (h2 : W1.alloc (.cells #[.int .i64 3, .int .i64 0, .slice none 0 0, .int .i64 0, .slice none 0 0, .slice (some ⟨w.heap.size, 0, none⟩) 1 1, .int .i64 0, .int .i64 0, .int .i64 0, .int .i64 0, .string ⟨#[]⟩] 148) = W2) : PaW W2 S G (.slice (some ⟨W1.heap.size, 0, none⟩) 1 1) [ptA x] := by
  have hs1 : W1.heap.size = w.heap.size + 1 := by rw [← h1]; simp
  have hb2 : Below W1.heap.size W1 W2 := h2 ▸ (Below.refl _ W1).alloc (Nat.le_refl _) _
  have hA1 : As W1 (.slice (some ⟨w.heap.size, 0, none⟩) 1 1) [x] := by
    have h := World.ownsRow_lit (e := 212) (size := 4) w #[.int .i64 x.1, .int .i64 x.2.1, .int .i64 x.2.2.1, .int .i64 x.2.2.2] 1 (Nat.le_refl _) (by decide) rfl
    rw [h1] at h
    exact (Gs_of_own (R := RA) (ys := [x]) (by have e : gflat RA [x] = RA.cl x := gflat_one (R := RA) x; rw [e]; exact h)).1
  refine ⟨[⟨3, 0, none, 0, 0, 0, none, 0, 0, some ⟨w.heap.size, 0, none⟩, 1, 1, 0, 0, 0, 0, ⟨#[]⟩⟩], rfl, ?_, fun g hg hk => ?_, fun i hi => ?_⟩
  · have h := World.ownsRow_lit (e := 148) (size := 11) W1 (#[.int .i64 3, .int .i64 0, .slice none 0 0, .int .i64 0, .slice none 0 0, .slice (some ⟨w.heap.size, 0, none⟩) 1 1, .int .i64 0, .int .i64 0, .int .i64 0, .int .i64 0, .string ⟨#[]⟩]) 1 (base := S) (by omega) (by decide) rfl
    rw [h2] at h
    have e : gflat RP [(⟨3, 0, none, 0, 0, 0, none, 0, 0, some ⟨w.heap.size, 0, none⟩, 1, 1, 0, 0, 0, 0, ⟨#[]⟩⟩ : RPt)] = RP.cl _ := gflat_one (R := RP) _
    exact (congrArg (fun z => World.ownsRow W2 S 148 11 (.slice (some ⟨W1.heap.size, 0, none⟩) 1 1) 1 z) e).mpr h
  · have hg2 : W1.heap.size = g := by simpa [Value.ownBlock] using hg
    have := hG _ hk
    omega
  · obtain rfl : i = 0 := by have h9 : i < 1 := hi; omega
    refine ⟨⟨rfl, rfl, el_nil9 _, rfl, Os_nil _, hA1.below hb2, rfl, rfl, rfl, rfl, rfl⟩, rfl, fun h => absurd rfl h, fun _ a ha => ?_⟩
    cases ha
    have hlt : w.heap.size < W2.heap.size := by have := hb2.size; omega
    refine ⟨hlt, fun hk => ?_⟩
    rcases hk with hk | hk
    · exact absurd (hG _ hk) (Nat.lt_irrefl _)
    · have hk2 : W1.heap.size = w.heap.size := by simpa [Value.ownBlock] using hk
      omega
set_option maxHeartbeats 8000000 in
theorem prowed_any (h : PP w F b p) : Calls Tryz.prog 120 #[.pointer (some ⟨b, 0, none⟩)] w fun e w' => ∃ r, e = .returned r ∧ ∃ F', PP w' F' b (offP p) ∧ Nx w w' F F' ∧ PaW w' w.heap.size (Ab F' w.heap.size) r (owedL p) := by
  obtain ⟨Fs, Ft, b1, b2, h, rfl⟩ := h
  have HH := Lib.hid h
  have C1 := absw_any b 6 p.o w h.c6 (h.fz 6)
  obtain ⟨o, ho⟩ : ∃ o, p.o = o := ⟨_, rfl⟩
  have HO := Lib.hid ho
  rw [ho] at C1
  clear ho h
  go_enter Tryz.func120, Tryz.ntmps120
  go_wp2_with fail
  refine C1.mono ?_
  rintro e w1 ⟨rfl, hw1⟩
  obtain ⟨hx, hn⟩ : PPE w1 Fs Ft b b1 b2 ⟨p.me, p.pe, p.s, p.t, false⟩ ∧ Nx w w1 (GP Fs Ft b) (GP Fs Ft b) := by
    rw [hw1]
    exact HH.out.ostep false
  have HX := Lib.hid hx
  have HN := Lib.hid hn
  clear hw1 hn C1
  have c5 := hx.c5
  clear hx
  cases o
  · go_wp2_with fail
    go_ret
    exact ⟨_, rfl, _, ⟨Fs, Ft, b1, b2, HX.out, rfl⟩, HN.out, by unfold owedL; rw [HO.out]; exact PaW.nil _ _ _⟩
  obtain ⟨m, hm⟩ : ∃ m, mk p.t.nx (srt p.t.nx (nums p.t.H)) 16 = m := ⟨_, rfl⟩
  have CT := tack_any HX.out.t
  have HM : Hid (ackP p = (p.pe.1, p.pe.2, p.t.nx, m)) := by show _ = _; rw [← hm]; rfl
  dsimp only at CT
  rw [hm] at CT
  have CT2 := Lib.hid CT
  clear hm CT
  go_wp2_with fail
  refine CT2.out.mono ?_
  rintro e w2 ⟨Ft2, rfl, ht, hc, _, hF⟩
  obtain ⟨hx, hn⟩ := HX.out.tstep hc ht hF
  have HN2 := Lib.hid (HN.out.trans hn)
  obtain ⟨V, hV⟩ : ∃ V, w2.alloc (.cells #[.int .i64 0, .int .i64 0, .int .i64 p.t.nx, .int .i64 m] 212) = V := ⟨_, rfl⟩
  obtain ⟨g0, hg0⟩ : ∃ g0, w2.heap.size = g0 := ⟨_, rfl⟩
  have hb : Below w2.heap.size w2 V := hV ▸ (Below.refl _ w2).alloc (Nat.le_refl _) _
  have hr : OwnA V g0 (0, 0, p.t.nx, m) := hg0 ▸ hV ▸ owna_alloc w2 0 0 p.t.nx m 212 w2.heap.size rfl
  have HNF : Hid (¬ GP Fs Ft2 b g0) := fun hk => by have := hx.lt g0 hk; omega
  have hxv := hx.below hb
  have HXV := Lib.hid hxv
  have HNV := Lib.hid (HN2.out.trans (.below hb))
  have HGV : Hid (w.heap.size ≤ g0) := by rw [← hg0]; exact HN2.out.1.size
  have HV := Lib.hid hV
  have HG := Lib.hid hg0
  clear ht hc hF hx hn hV hg0 hb CT2 c5
  go_upto_region 4 with (fail)
  rw [HV.out]
  try simp only [HG.out]
  obtain ⟨⟨r0, r1, r2, r3⟩, rf⟩ := hr
  have c2 := hxv.c2
  have c3 := hxv.c3
  clear hxv
  go_region
  all_goals
    obtain ⟨V2, hV2⟩ : ∃ V2, ((V.setCell ⟨g0, 0, none⟩ (.int .i64 p.pe.1)).setCell ⟨g0, 1, none⟩ (.int .i64 p.pe.2)).drew = V2 := ⟨_, rfl⟩
    obtain ⟨e0, e1, e2, e3⟩ : V2.cell? ⟨g0, 0, none⟩ = some (.int .i64 p.pe.1) ∧ V2.cell? ⟨g0, 1, none⟩ = some (.int .i64 p.pe.2) ∧ V2.cell? ⟨g0, 2, none⟩ = some (.int .i64 p.t.nx) ∧ V2.cell? ⟨g0, 3, none⟩ = some (.int .i64 m) := by
      rw [← hV2]
      refine ⟨?_, ?_, ?_, ?_⟩ <;> simp [go_sem, r0, r1, r2, r3]
    have hx2 : PPE V2 Fs Ft2 b b1 b2 ⟨p.me, p.pe, p.s, p.t, false⟩ := hV2 ▸ HXV.out.keep (G := fun k => k = g0) (Chg.drew (Chg.setCell (F := fun k => k = g0) (p := ⟨g0, 1, none⟩) (Chg.setCell (F := fun k => k = g0) (p := ⟨g0, 0, none⟩) (Chg.refl _ V) (.inl rfl) _) (.inl rfl) _)) (fun k hk e => HNF.out (e ▸ hk))
    have hn2 : Nx w V2 (GP Fs Ft b) (GP Fs Ft2 b) := hV2 ▸ ⟨Chg.drew (Chg.setCell (p := ⟨g0, 1, none⟩) (Chg.setCell (p := ⟨g0, 0, none⟩) HNV.out.1 (.inr HGV.out) _) (.inr HGV.out) _), HNV.out.2⟩
    have hrow := ackrow V2 (p.pe.1, p.pe.2, p.t.nx, m) w.heap.size (Ab (GP Fs Ft2 b) w.heap.size) (fun k hk => hk.elim (hx2.lt k) (fun h => Nat.lt_of_lt_of_le h hn2.1.size)) hn2.1.size rfl rfl
    have hb2 : Below V2.heap.size V2 (((V2.alloc (.cells #[.int .i64 p.pe.1, .int .i64 p.pe.2, .int .i64 p.t.nx, .int .i64 m] 212))).alloc (.cells #[.int .i64 3, .int .i64 0, .slice none 0 0, .int .i64 0, .slice none 0 0, .slice (some ⟨V2.heap.size, 0, none⟩) 1 1, .int .i64 0, .int .i64 0, .int .i64 0, .int .i64 0, .string ⟨#[]⟩] 148)) := ((Below.refl _ V2).alloc (Nat.le_refl _) _).alloc (by simp) _
    have HX9 := Lib.hid (hx2.below hb2)
    have HN9 := Lib.hid (hn2.trans (.below hb2))
    simp only [World.size_alloc] at hrow
    have HR9 := Lib.hid hrow
    rw [hV2]
    clear hV2 hx2 hn2 hrow hb2 r0 r1 r2 r3 rf c2 c3
    go_wp2_with fail
    go_ret
    exact ⟨_, rfl, _, ⟨Fs, Ft2, b1, b2, HX9.out, rfl⟩, HN9.out, by unfold owedL; rw [HO.out, HM.out]; exact HR9.out⟩
end
end Go.Proofs.YtdigjklhfimnbaaGreat
namespace Go.Proofs.YtdigjklhfimnbaaGreat
set_option maxRecDepth 100000
set_option linter.unusedVariables false
open Go.RowKit

theorem frs_step (ow : List Pt) (L : List Bt) {k : Nat} (h : k < L.length) : (frsL ow L).take (k + 1) = (frsL ow L).take k ++ [(if k = 0 then ow else []) ++ [ptB (L.getD k zb)]] := by
  cases L with
  | nil => exact absurd h (Nat.not_lt_zero _)
  | cons x l =>
    cases k with
    | zero => rfl
    | succ k =>
      have hk : k < l.length := by rw [List.length_cons] at h; omega
      show (ow ++ [ptB x]) :: (l.map fun x => [ptB x]).take (k + 1) = (ow ++ [ptB x]) :: (l.map fun x => [ptB x]).take k ++ [[] ++ [ptB (l.getD k zb)]]
      rw [List.cons_append, List.nil_append, List.take_add_one]
      congr 2
      rw [List.getElem?_map, List.getD_eq_getElem?_getD, List.getElem?_eq_getElem hk]
      rfl
theorem frs_end (ow : List Pt) (L : List Bt) : frsL ow L = (frsL ow L).take L.length ++ (if L.length = 0 then (if ow = [] then [] else [ow]) else []) := by
  cases L with
  | nil => show (if ow = [] then [] else [ow]) = [] ++ _; rw [List.nil_append]; rfl
  | cons x l =>
    have e : (frsL ow (x :: l)).length = (x :: l).length := by show ((ow ++ [ptB x]) :: l.map fun x => [ptB x]).length = _; rw [List.length_cons, List.length_map]; rfl
    rw [if_neg (by rw [List.length_cons]; omega), List.append_nil, ← e, List.take_length]
theorem owed_len (p : Pr) : (owedL p).length ≤ 1 := by unfold owedL; split <;> simp
section
variable {w w' : World} {F : Nat → Prop} {b : Nat} {p : Pr}
theorem prpso_any (h : PP w F b p) : Calls Tryz.prog 77 #[.pointer (some ⟨b, 0, none⟩)] w fun e w' => ∃ g u F', e = .returned (.func (Fn.func 121) #[] #[.pointer (some ⟨g, 0, none⟩)]) ∧ PP w' F' b (offP p) ∧ Nx w w' F F' ∧ w'.cell? ⟨g, 0, none⟩ = some u ∧ (∀ j, w'.frozen? ⟨g, j, none⟩ = false) ∧ w.heap.size ≤ g ∧ g < w'.heap.size ∧ ¬ F' g ∧ u.ownBlock ≠ some g ∧ PaW w' w.heap.size (fun k => Ab F' w.heap.size k ∨ k = g) u (owedL p) := by
  have C := Lib.hid (prowed_any h)
  clear h
  go_enter Tryz.func77, Tryz.ntmps77
  go_wp2_with fail
  refine C.out.mono ?_
  rintro e w1 ⟨r, rfl, F1, hp, hn, hr⟩
  obtain ⟨a, c, rfl⟩ := hr.form
  have hb : Below w1.heap.size w1 (w1.alloc (.cells #[.slice a (owedL p).length c] 49)) := (Below.refl _ w1).alloc (Nat.le_refl _) _
  have hnF : ¬ F1 w1.heap.size := fun hk => absurd (hp.lt _ hk) (Nat.lt_irrefl _)
  have hno : (Value.slice a (owedL p).length c).ownBlock ≠ some w1.heap.size := fun e => absurd (hr.lt _ e).2 (Nat.lt_irrefl _)
  have hnb : ∀ g, (Value.slice a (owedL p).length c).ownBlock = some g → ¬ g = w1.heap.size := fun g hg e => hno (e ▸ hg)
  have hr2 : PaW (w1.alloc (.cells #[.slice a (owedL p).length c] 49)) w.heap.size (fun k => Ab F1 w.heap.size k ∨ k = w1.heap.size) (.slice a (owedL p).length c) (owedL p) := hr.nx ⟨chg0 hb, fun k hk => hk.elim .inl (fun e => .inr (Nat.le_of_eq e.symm))⟩
  have HP := Lib.hid (hp.below hb)
  have HN := Lib.hid (hn.trans (.below hb))
  have HS : Hid (w.heap.size ≤ w1.heap.size) := hn.1.size
  have HNF := Lib.hid hnF
  have HNO := Lib.hid hno
  have HR2 := Lib.hid hr2
  clear hp hn hr hb hnF hno hnb hr2 C
  go_wp2_with fail
  go_ret
  exact ⟨w1.heap.size, _, F1, rfl, HP.out, HN.out, by simp, fun j => by simp, HS.out, by simp, HNF.out, HNO.out, HR2.out⟩
end
end Go.Proofs.YtdigjklhfimnbaaGreat
