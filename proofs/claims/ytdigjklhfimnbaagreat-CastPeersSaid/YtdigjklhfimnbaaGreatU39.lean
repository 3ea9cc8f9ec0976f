/- Texts Ya3, Ya4 of this proof, in one. No conditions but on lengths. -/
import Derived.Test.YtdigjklhfimnbaaGreatRows
import Derived.Test.YtdigjklhfimnbaaGreatU30
import Derived.Test.YtdigjklhfimnbaaGreatU38
import Derived.ArgAppend
import Derived.Below
import Derived.BigQuiet
import Derived.Calls
import Derived.ChangeAlike
import Derived.ChangeArms
import Derived.ChangeKeysEq
import Derived.ChangeMade
import Derived.ChangeOld
import Derived.Deep.Cut
import Derived.Deep.CutBlock
import Derived.Deep.LoopGhost
import Derived.Deep.QuietTactic
import Derived.Deep.RegionHeld
import Derived.Deep.RegionLaw
import Derived.Deep.RegionWith
import Derived.Deep.Slices
import Derived.Defers
import Derived.Ground.GgzProg
import Derived.Ground.Names2Prog
import Derived.Laws.AppendOwnNone
import Derived.Laws.BitsLemmas
import Derived.Laws.BytesArg
import Derived.Laws.LoneSync
import Derived.Laws.OwnMore
import Derived.Laws.Pointers
import Derived.Laws.StructEq
import Derived.Lib.ConvBytes
import Derived.Lib.Hide
import Derived.Lib.OwnBridge
import Derived.Lib.QuietBelow
import Derived.Lib.SliceRun
import Derived.Lib.SlicesCompact
import Derived.LoopIn
import Derived.LoopTactic
import Derived.Maps.AppendAt
import Derived.Maps.Own
import Derived.Maps.OwnOps
import Derived.Maps.OwnSet
import Derived.Maps.RangeWalk
import Derived.Maps.Views
import Derived.OpenShut
import Derived.Orders
import Derived.Outline
import Derived.OwnWalkIn
import Derived.ProofKit
import Derived.RangeFuncBox
import Derived.RangeFuncCalls
import Derived.RangeFuncLeaves
import Derived.RangeFuncNested
import Derived.RegionCalls
import Derived.RegionTactic
import Derived.Shelf.RegionOpen
import Derived.Shelf.RegionOpenPlain
import Derived.Shelf.SlIterI.Nil
import Derived.Shelf.Slices.CompactI
import Derived.Shelf.Slices.In.SortNone
import Derived.Shelf.Sort.Plain
import Derived.ShutString
import Derived.Sort.Grow
import Derived.StillTail
import Derived.TacticsInMore
import Derived.WalkKit
import Derived.WalkLawsBesides
import Derived.WalkSpells
import Derived.WideShapes
namespace Go.Proofs.YtdigjklhfimnbaaGreat
set_option maxRecDepth 100000
set_option linter.unusedVariables false
open Go.RowKit

/-- An echo's two cells. -/
def NdAt (w : World) (g : Nat) (n : Nd) : Prop := w.cell? ⟨g, 0, none⟩ = some (.int .i64 n.1) ∧ w.cell? ⟨g, 1, none⟩ = some (.int .i64 n.2)
theorem NdAt.below {w w' : World} {g : Nat} {n : Nd} (h : NdAt w g n) (hb : Below w.heap.size w w') : NdAt w' g n := ⟨(hb.cell (p := ⟨g, 0, none⟩) (World.block_lt_of_cell? w _ h.1)).trans h.1, (hb.cell (p := ⟨g, 1, none⟩) (World.block_lt_of_cell? w _ h.2)).trans h.2⟩
set_option maxHeartbeats 4000000 in
theorem prnew_any (me pe : Nd) (win tries : Int) (w : World) : Calls Tryz.prog 9 #[.agg #[.int .i64 me.1, .int .i64 me.2], .agg #[.int .i64 pe.1, .int .i64 pe.2], .int .i64 win, .int .i64 tries] w fun e w' => Below w.heap.size w w' ∧ ((¬ (NdOk me ∧ NdOk pe ∧ me.1 ≠ pe.1 ∧ nwOk win tries) ∧ e = .returned (.tuple #[.pointer none, .int .i64 1])) ∨ ((NdOk me ∧ NdOk pe ∧ me.1 ≠ pe.1 ∧ nwOk win tries) ∧ ∃ b F, e = .returned (.tuple #[.pointer (some ⟨b, 0, none⟩), .int .i64 0]) ∧ PP w' F b ⟨me, pe, sd0 win tries, tk0, false⟩ ∧ ∀ k, F k → w.heap.size ≤ k)) := by
  obtain ⟨W1, hW1⟩ : ∃ W1, (w.alloc (.cells #[.int .i64 me.1, .int .i64 me.2] 23)).alloc (.cells #[.int .i64 pe.1, .int .i64 pe.2] 23) = W1 := ⟨_, rfl⟩
  have HB : Hid (Below w.heap.size w W1) := hW1 ▸ ((Below.refl _ w).alloc (Nat.le_refl _) _).alloc (by simp) _
  obtain ⟨g0, hg0⟩ : ∃ g0, w.heap.size = g0 := ⟨_, rfl⟩
  have HQ : Hid (NdAt W1 g0 me ∧ NdAt W1 (g0 + 1) pe) := by
    rw [← hW1, ← hg0]
    exact ⟨⟨by simp, by simp⟩, ⟨by simp, by simp⟩⟩
  have C1 := prnode_any me W1
  have HW := Lib.hid hW1
  have HG := Lib.hid hg0
  clear hW1 hg0
  go_enter Tryz.func9, Tryz.ntmps9
  go_upto_region 1 with (fail)
  rw [HW.out]
  try simp only [HG.out]
  obtain ⟨q0, q1⟩ := HQ.out.1
  obtain ⟨q2, q3⟩ := HQ.out.2
  by_cases hm : NdOk me
  rotate_left
  · have d1 : decide (NdOk me) = false := decide_eq_false hm
    rw [d1] at C1
    clear d1
    go_wp2_with fail
    refine C1.mono ?_
    rintro e w2 ⟨rfl, hb⟩
    have HB2 := Lib.hid (HB.out.trans (hb.mono HB.out.size))
    have Q2 : Hid (NdAt w2 g0 me ∧ NdAt w2 (g0 + 1) pe) := ⟨HQ.out.1.below hb, HQ.out.2.below hb⟩
    have HM := Lib.hid hm
    clear hb q0 q1 q2 q3 hm C1
    obtain ⟨q0, q1⟩ := Q2.out.1
    obtain ⟨q2, q3⟩ := Q2.out.2
    go_wp2_with fail
    exact bodyPost_ret (v := .tuple #[.pointer none, .int .i64 1]) (by simp [results, Tryz.results9, go_sem]) rfl ⟨HB2.out, .inl ⟨fun h => HM.out h.1, rfl⟩⟩
  have d1 : decide (NdOk me) = true := decide_eq_true hm
  rw [d1] at C1
  clear d1
  go_wp2_with fail
  refine C1.mono ?_
  rintro e w2 ⟨rfl, hb⟩
  have HB2 := Lib.hid (HB.out.trans (hb.mono HB.out.size))
  have Q2 : Hid (NdAt w2 g0 me ∧ NdAt w2 (g0 + 1) pe) := ⟨HQ.out.1.below hb, HQ.out.2.below hb⟩
  have HM := Lib.hid hm
  clear hb q0 q1 q2 q3 hm C1
  obtain ⟨q0, q1⟩ := Q2.out.1
  obtain ⟨q2, q3⟩ := Q2.out.2
  have C2 := prnode_any pe w2
  by_cases hp : NdOk pe
  rotate_left
  · have d1 : decide (NdOk pe) = false := decide_eq_false hp
    rw [d1] at C2
    clear d1
    go_wp2_with fail
    refine C2.mono ?_
    rintro e w3 ⟨rfl, hb⟩
    have HB3 := Lib.hid (HB2.out.trans (hb.mono HB2.out.size))
    have Q3 : Hid (NdAt w3 g0 me ∧ NdAt w3 (g0 + 1) pe) := ⟨Q2.out.1.below hb, Q2.out.2.below hb⟩
    have HP := Lib.hid hp
    clear hb q0 q1 q2 q3 hp C2
    obtain ⟨q0, q1⟩ := Q3.out.1
    obtain ⟨q2, q3⟩ := Q3.out.2
    go_wp2_with fail
    exact bodyPost_ret (v := .tuple #[.pointer none, .int .i64 1]) (by simp [results, Tryz.results9, go_sem]) rfl ⟨HB3.out, .inl ⟨fun h => HP.out h.2.1, rfl⟩⟩
  have d1 : decide (NdOk pe) = true := decide_eq_true hp
  rw [d1] at C2
  clear d1
  go_wp2_with fail
  refine C2.mono ?_
  rintro e w3 ⟨rfl, hb⟩
  have HB3 := Lib.hid (HB2.out.trans (hb.mono HB2.out.size))
  have Q3 : Hid (NdAt w3 g0 me ∧ NdAt w3 (g0 + 1) pe) := ⟨Q2.out.1.below hb, Q2.out.2.below hb⟩
  have HP := Lib.hid hp
  clear hb q0 q1 q2 q3 hp C2
  obtain ⟨q0, q1⟩ := Q3.out.1
  obtain ⟨q2, q3⟩ := Q3.out.2
  by_cases he : me.1 = pe.1
  · have d2 : (me.1 == pe.1) = true := by simpa using he
    have HE := Lib.hid he
    clear he
    go_wp2_with fail
    exact bodyPost_ret (v := .tuple #[.pointer none, .int .i64 1]) (by simp [results, Tryz.results9, go_sem]) rfl ⟨HB3.out, .inl ⟨fun h => h.2.2.1 HE.out, rfl⟩⟩
  have d2 : (me.1 == pe.1) = false := by simpa using he
  have HE := Lib.hid he
  clear he
  have CS := Lib.hid (dc.new win tries w3)
  go_wp2_with fail
  refine CS.out.mono ?_
  rintro e w4 ⟨hb, h4 | ⟨h4, b1, Fs, rfl, hs, hFs⟩⟩
  · obtain ⟨h4, rfl⟩ := h4
    have HB4 := Lib.hid (HB3.out.trans (hb.mono HB3.out.size))
    have HN := Lib.hid h4
    clear hb h4 CS q0 q1 q2 q3
    go_wp2_with fail
    exact bodyPost_ret (v := .tuple #[.pointer none, .int .i64 1]) (by simp [results, Tryz.results9, go_sem]) rfl ⟨HB4.out, .inl ⟨fun h => HN.out h.2.2.2, rfl⟩⟩
  have HB4 := Lib.hid (HB3.out.trans (hb.mono HB3.out.size))
  have HN := Lib.hid h4
  have HS := Lib.hid hs
  have HF := Lib.hid hFs
  have HS34 : Hid (w3.heap.size ≤ w4.heap.size) := hb.size
  have Q4 : Hid (NdAt w4 g0 me ∧ NdAt w4 (g0 + 1) pe) := ⟨Q3.out.1.below hb, Q3.out.2.below hb⟩
  clear hb h4 hs hFs CS q0 q1 q2 q3
  obtain ⟨q0, q1⟩ := Q4.out.1
  obtain ⟨q2, q3⟩ := Q4.out.2
  have CT := Lib.hid (tnew_any w4.drew)
  go_upto_region 6 with (fail)
  go_region_held (fun w' => (w'.cell? ⟨g0, 0, none⟩ = some (.int .i64 me.1) ∧ w'.cell? ⟨g0, 1, none⟩ = some (.int .i64 me.2)) ∧ w'.cell? ⟨g0 + 1, 0, none⟩ = some (.int .i64 pe.1) ∧ w'.cell? ⟨g0 + 1, 1, none⟩ = some (.int .i64 pe.2)) (first | exact ⟨⟨q0, q1⟩, q2, q3⟩ | exact Q5.out | go_keep) (first | (go_at_call 47; refine CT.out.mono ?_; rintro e w5 ⟨b2, Ft, rfl, ht, hFt, hb⟩; have HT := Lib.hid ht; have HFT := Lib.hid hFt; have HB5 := Lib.hid hb; have Q5 : Hid (NdAt w5 g0 me ∧ NdAt w5 (g0 + 1) pe) := ⟨NdAt.below (w := w4.drew) Q4.out.1 hb, NdAt.below (w := w4.drew) Q4.out.2 hb⟩; clear ht hFt hb))
  have hb45 : Below w4.heap.size w4 w5 := ((Below.refl w4.heap.size w4).drew).trans HB5.out
  obtain ⟨V, hV⟩ : ∃ V, w5.alloc (.cells #[.int .i64 me.1, .int .i64 me.2, .int .i64 pe.1, .int .i64 pe.2, .pointer (some ⟨b1, 0, none⟩), .pointer (some ⟨b2, 0, none⟩), .int .u32 0] 101) = V := ⟨_, rfl⟩
  have hb5 : Below w5.heap.size w5 V := hV ▸ (Below.refl _ w5).alloc (Nat.le_refl _) _
  obtain ⟨gq, hgq⟩ : ∃ g, w5.heap.size = g := ⟨_, rfl⟩
  have hq : PPE V Fs Ft gq b1 b2 ⟨me, pe, sd0 win tries, tk0, false⟩ := by
    have hls := dc.lt HS.out
    have hlt := HT.out.2.lt
    have h45 := hb45.size
    refine ⟨?_, ?_, ?_, ?_, ?_, ?_, ?_, fun j => ?_, dc.keep HS.out (G := fun _ => False) (chg0 (hb45.trans (hb5.mono h45))) (fun _ _ g => g), HT.out.below hb5, fun k hk ht => ?_, fun hk => ?_, fun hk => ?_, HM.out, HP.out, HE.out⟩
    all_goals try (rw [← hV, ← hgq]; simp [ob])
    · have := hls k hk
      have := HFT.out k ht
      have e : w4.drew.heap.size = w4.heap.size := rfl
      omega
    · have := hls gq hk
      omega
    · have := hlt gq hk
      omega
  have HQ9 := Lib.hid hq
  have HB9 : Hid (Below w.heap.size w V) := HB4.out.trans ((hb45.trans (hb5.mono hb45.size)).mono HB4.out.size)
  have HN9 : Hid (∀ k, GP Fs Ft gq k → w.heap.size ≤ k) := fun k hk => by
    have h1 := HB3.out.size
    have h2 := HB4.out.size
    have h3 := hb45.size
    rcases hk with rfl | hk | hk
    · omega
    · have := HF.out k hk; omega
    · have := HFT.out k hk
      have e : w4.drew.heap.size = w4.heap.size := rfl
      omega
  rw [hV]
  try simp only [hgq]
  clear hq hV hgq hb5 hb45 q0 q1 q2 q3
  go_wp2_with fail
  exact bodyPost_ret (v := .tuple #[.pointer (some ⟨gq, 0, none⟩), .int .i64 0]) (by simp [results, Tryz.results9, go_sem]) rfl ⟨HB9.out, .inr ⟨⟨HM.out, HP.out, HE.out, HN.out⟩, gq, _, rfl, ⟨Fs, Ft, b1, b2, HQ9.out, rfl⟩, HN9.out⟩⟩
end Go.Proofs.YtdigjklhfimnbaaGreat
namespace Go.Proofs.YtdigjklhfimnbaaGreat
set_option maxRecDepth 100000
set_option linter.unusedVariables false
open Go.RowKit

theorem nx_drew {w W1 : World} (G : Nat → Prop) (hb : Below w.heap.size w W1) : Nx w W1.drew G G := ⟨(chg0 hb).drew, fun k hk => .inl hk⟩
section
variable {w w' : World} {F : Nat → Prop} {b : Nat} {p : Pr}
set_option maxHeartbeats 2000000 in
theorem prpush_any (y : Ob) (h : PP w F b p) : Calls Tryz.prog 11 #[.pointer (some ⟨b, 0, none⟩), .agg #[.int .i64 y.k, .int .i64 y.x, .bool y.n, .int .i64 y.t, .int .i64 y.o, .int .i64 y.r, .int .i64 y.d, .int .i64 y.i, .int .i64 y.p, .int .i64 y.q, .int .i64 y.s, .int .i64 y.m]] w fun e w' => e = .returned (.int .i64 (pushR p.s y).1) ∧ ∃ F', PP w' F' b ⟨p.me, p.pe, (pushR p.s y).2, p.t, p.o⟩ ∧ Nx w w' F F' := by
  obtain ⟨Fs, Ft, b1, b2, h, rfl⟩ := h
  obtain ⟨W1, hW1⟩ : ∃ W1, w.alloc (.cells #[.int .i64 y.k, .int .i64 y.x, .bool y.n, .int .i64 y.t, .int .i64 y.o, .int .i64 y.r, .int .i64 y.d, .int .i64 y.i, .int .i64 y.p, .int .i64 y.q, .int .i64 y.s, .int .i64 y.m] 41) = W1 := ⟨_, rfl⟩
  have hb : Below w.heap.size w W1 := hW1 ▸ (Below.refl _ w).alloc (Nat.le_refl _) _
  obtain ⟨g0, hg0⟩ : ∃ g0, w.heap.size = g0 := ⟨_, rfl⟩
  obtain ⟨k0, k1, k2, k3, k4, k5, k6, k7, k8, k9, k10, k11⟩ : W1.cell? ⟨g0, 0, none⟩ = some (.int .i64 y.k) ∧ W1.cell? ⟨g0, 1, none⟩ = some (.int .i64 y.x) ∧ W1.cell? ⟨g0, 2, none⟩ = some (.bool y.n) ∧ W1.cell? ⟨g0, 3, none⟩ = some (.int .i64 y.t) ∧ W1.cell? ⟨g0, 4, none⟩ = some (.int .i64 y.o) ∧ W1.cell? ⟨g0, 5, none⟩ = some (.int .i64 y.r) ∧ W1.cell? ⟨g0, 6, none⟩ = some (.int .i64 y.d) ∧ W1.cell? ⟨g0, 7, none⟩ = some (.int .i64 y.i) ∧ W1.cell? ⟨g0, 8, none⟩ = some (.int .i64 y.p) ∧ W1.cell? ⟨g0, 9, none⟩ = some (.int .i64 y.q) ∧ W1.cell? ⟨g0, 10, none⟩ = some (.int .i64 y.s) ∧ W1.cell? ⟨g0, 11, none⟩ = some (.int .i64 y.m) := by
    rw [← hW1, ← hg0]
    refine ⟨?_, ?_, ?_, ?_, ?_, ?_, ?_, ?_, ?_, ?_, ?_, ?_⟩ <;> simp
  have h1 := h.below hb
  have hd : PPE W1.drew Fs Ft b b1 b2 p := h1.keep (G := fun _ => False) ((Chg.refl _ W1).drew) (fun _ _ g => g)
  have HD := Lib.hid hd
  have HN := Lib.hid (nx_drew (GP Fs Ft b) hb)
  have C := Lib.hid (dc.push y hd.s)
  have c4 := h1.c4
  have HGL : Hid (g0 < W1.drew.heap.size) := World.block_lt_of_cell? W1 _ k0
  have HGF : Hid (¬ Fs g0) := fun hk => by have := dc.lt h.s g0 hk; omega
  have HW := Lib.hid hW1
  have HG := Lib.hid hg0
  clear hW1 hg0 hb h1 hd h
  go_enter Tryz.func11, Tryz.ntmps11
  go_upto_region 3 with (fail)
  rw [HW.out]
  try simp only [HG.out]
  go_region_held (fun w' => w'.cell? ⟨b, 4, none⟩ = some (.pointer (some ⟨b1, 0, none⟩)) ∧ w'.cell? ⟨g0, 0, none⟩ = some (.int .i64 y.k) ∧ w'.cell? ⟨g0, 1, none⟩ = some (.int .i64 y.x) ∧ w'.cell? ⟨g0, 2, none⟩ = some (.bool y.n) ∧ w'.cell? ⟨g0, 3, none⟩ = some (.int .i64 y.t) ∧ w'.cell? ⟨g0, 4, none⟩ = some (.int .i64 y.o) ∧ w'.cell? ⟨g0, 5, none⟩ = some (.int .i64 y.r) ∧ w'.cell? ⟨g0, 6, none⟩ = some (.int .i64 y.d) ∧ w'.cell? ⟨g0, 7, none⟩ = some (.int .i64 y.i) ∧ w'.cell? ⟨g0, 8, none⟩ = some (.int .i64 y.p) ∧ w'.cell? ⟨g0, 9, none⟩ = some (.int .i64 y.q) ∧ w'.cell? ⟨g0, 10, none⟩ = some (.int .i64 y.s) ∧ w'.cell? ⟨g0, 11, none⟩ = some (.int .i64 y.m)) (first | exact ⟨c4, k0, k1, k2, k3, k4, k5, k6, k7, k8, k9, k10, k11⟩ | exact S2 | go_keep) (first | (go_at_call 48; refine C.out.mono ?_; rintro e w2 ⟨rfl, hc, F', hp, hF⟩; obtain ⟨hx, hn⟩ := HD.out.sstep hc hp hF; have HX := Lib.hid hx; have HN2 := Lib.hid (HN.out.trans hn); have S2 := (⟨hx.c4, (hc.cell HGL.out HGF.out).trans k0, (hc.cell HGL.out HGF.out).trans k1, (hc.cell HGL.out HGF.out).trans k2, (hc.cell HGL.out HGF.out).trans k3, (hc.cell HGL.out HGF.out).trans k4, (hc.cell HGL.out HGF.out).trans k5, (hc.cell HGL.out HGF.out).trans k6, (hc.cell HGL.out HGF.out).trans k7, (hc.cell HGL.out HGF.out).trans k8, (hc.cell HGL.out HGF.out).trans k9, (hc.cell HGL.out HGF.out).trans k10, (hc.cell HGL.out HGF.out).trans k11⟩ : w2.cell? ⟨b, 4, none⟩ = some (.pointer (some ⟨b1, 0, none⟩)) ∧ w2.cell? ⟨g0, 0, none⟩ = some (.int .i64 y.k) ∧ w2.cell? ⟨g0, 1, none⟩ = some (.int .i64 y.x) ∧ w2.cell? ⟨g0, 2, none⟩ = some (.bool y.n) ∧ w2.cell? ⟨g0, 3, none⟩ = some (.int .i64 y.t) ∧ w2.cell? ⟨g0, 4, none⟩ = some (.int .i64 y.o) ∧ w2.cell? ⟨g0, 5, none⟩ = some (.int .i64 y.r) ∧ w2.cell? ⟨g0, 6, none⟩ = some (.int .i64 y.d) ∧ w2.cell? ⟨g0, 7, none⟩ = some (.int .i64 y.i) ∧ w2.cell? ⟨g0, 8, none⟩ = some (.int .i64 y.p) ∧ w2.cell? ⟨g0, 9, none⟩ = some (.int .i64 y.q) ∧ w2.cell? ⟨g0, 10, none⟩ = some (.int .i64 y.s) ∧ w2.cell? ⟨g0, 11, none⟩ = some (.int .i64 y.m)); clear hc hp hF hx hn))
  all_goals
    go_wp2_with fail
    go_ret
    exact ⟨rfl, _, ⟨F', Ft, b1, b2, HX.out, rfl⟩, HN2.out⟩
theorem pridle_any (h : PP w F b p) : Calls Tryz.prog 17 #[.pointer (some ⟨b, 0, none⟩)] w fun e w' => e = .returned (.bool (idleB p)) ∧ Below w.heap.size w w' := by
  obtain ⟨Fs, Ft, b1, b2, h, rfl⟩ := h
  have HH := Lib.hid h
  obtain ⟨q, hq⟩ : ∃ q, idleB p = q := ⟨_, rfl⟩
  rw [hq]
  have HQ := Lib.hid hq
  clear hq
  obtain ⟨h0, Z, vW, vO, hz⟩ := h.s
  have C1 := Lib.hid (pwait_any hz (Nat.le_trans h0.wl (by decide)))
  have c4 := h.c4
  clear hz h0 h
  go_enter Tryz.func17, Tryz.ntmps17
  go_wp2_with fail
  refine C1.out.mono ?_
  rintro e w2 ⟨⟨a, c, rfl, hr⟩, hb⟩
  have H2 := Lib.hid (HH.out.below hb)
  have HB2 := Lib.hid hb
  clear hr hb C1 c4
  by_cases hW : p.s.W.length = 0
  rotate_left
  · have hW2 : ((p.s.W.length : Int) == 0) = false := by simpa using hW
    have e9 : idleB p = false := by unfold idleB; rw [decide_eq_false hW]; rfl
    have HE := Lib.hid e9
    clear hW e9
    have c4 := H2.out.c4
    go_wp2_with fail
    go_ret
    exact ⟨congrArg (fun x => Ending.returned (.bool x)) (HE.out.symm.trans HQ.out), HB2.out⟩
  rw [hW]
  have HWW := Lib.hid hW
  clear hW
  obtain ⟨h0, Z, vW, vO, hz⟩ := H2.out.s
  have C2 := Lib.hid (pout_any hz h0)
  have c4 := H2.out.c4
  clear hz h0
  go_wp2_with fail
  refine C2.out.mono ?_
  rintro e w3 ⟨⟨a3, c3, rfl, hr⟩, hb⟩
  have H3 := Lib.hid (H2.out.below hb)
  have HB3 := Lib.hid (HB2.out.trans (hb.mono HB2.out.size))
  have hol : p.s.out.length = p.s.L.length := List.length_map ..
  rw [hol]
  clear hr hb C2 c4 hol
  by_cases hL : p.s.L.length = 0
  rotate_left
  · have hL2 : ((p.s.L.length : Int) == 0) = false := by simpa using hL
    have e9 : idleB p = false := by unfold idleB; rw [decide_eq_false hL, Bool.and_false]; rfl
    have HE := Lib.hid e9
    clear hL e9
    have c4 := H3.out.c4
    go_wp2_with fail
    go_ret
    exact ⟨congrArg (fun x => Ending.returned (.bool x)) (HE.out.symm.trans HQ.out), HB3.out⟩
  rw [hL]
  have C3 := abld_any b 6 p.o w3 H3.out.c6
  have e9 : idleB p = !p.o := by unfold idleB; rw [decide_eq_true HWW.out, decide_eq_true hL]; rfl
  have HE := Lib.hid e9
  clear hL e9
  have c4 := H3.out.c4
  go_wp2_with fail
  refine C3.mono ?_
  rintro e w4 ⟨rfl, rfl⟩
  go_wp2_with fail
  go_ret
  exact ⟨congrArg (fun x => Ending.returned (.bool x)) (HE.out.symm.trans HQ.out), HB3.out⟩
end
end Go.Proofs.YtdigjklhfimnbaaGreat
