/- Beacons in memory of their own: the reference's Own. No conditions but on lengths. -/
import Derived.Test.YtaflgabjpcfgpaaBeq
namespace Go.Proofs.Ytaflgabjpcfgpaa
set_option maxRecDepth 100000
open Go.RowKit

/-- At the list of a plain region's operations: a whole row of echoes behind. -/
theorem eapp_any {ops : Array Oper} {rest : List Oper} {o : Oper} {a : Act} {Q : Exit → Act → World → Prop} {w : World} (hgd : o.guard = none) (s x : Operand)
    (ho : o.op = .call { callee := .builtin .append, args := #[s, x], argTypes := #[22, 22] }) (base : Nat) (ys : List (Int × Int))
    (hs : a.eval s = .slice none 0 0) (hx : Es w (a.eval x) ys) (hl : ys.length ≤ 3000) (hbase : base ≤ w.heap.size)
    (h : ∀ aX cX w', OwE w' base (.slice aX ys.length cX) ys → Below base w w' → w.heap.size ≤ w'.heap.size → wpList Try.prog ops Q rest (a.put o.dst (.slice aX ys.length cX)) w') : wpList Try.prog ops Q (o :: rest) a w := by
  refine gapp_any (R := RE) hgd s x ho base [] ys (by rw [hs]; exact gown_nil (R := RE) w base) hx (Nat.le_trans (Nat.le_of_eq (Nat.zero_add _)) hl) hbase ?_
  intro v' w' h1 h2 h3
  have h4 : OwE w' base v' ys := h1
  obtain ⟨aX, cX, rfl⟩ := h4.form
  exact h aX cX w' h4 h2 h3
set_option maxHeartbeats 8000000 in
theorem rown_any (M : Int) (v : Value) (ys : List (Int × Int)) (w : World) (hy : Es w v ys) (hl : ys.length ≤ 3000) :
    Calls Try.prog 8 #[.agg #[.int .i64 M, v]] w fun e w' => (∃ u', e = .returned (.agg #[.int .i64 M, u']) ∧ OwE w' w.heap.size u' ys) ∧ Below w.heap.size w w' := by
  obtain ⟨a, c, rfl⟩ := hy.form
  obtain ⟨W1, hW1⟩ : ∃ W1, W1 = w.alloc (.cells #[.int .i64 M, .slice a ys.length c] 24) := ⟨_, rfl⟩
  obtain ⟨w2, hw2⟩ : ∃ w2, w2 = W1.alloc (.cells #[.int .i64 0, .slice none 0 0] 24) := ⟨_, rfl⟩
  obtain ⟨V0, hV0⟩ : ∃ V0, V0 = w2.alloc (.cells #[.int .i64 M, .slice none 0 0] 24) := ⟨_, rfl⟩
  have hs1 : W1.heap.size = w.heap.size + 1 := by rw [hW1]; simp
  obtain ⟨g0, hg0⟩ : ∃ g0, w2.heap.size = g0 := ⟨_, rfl⟩
  have hs2 : g0 = w.heap.size + 2 := by rw [← hg0, hw2]; simp; omega
  have hb1 : Below w.heap.size w W1 := by rw [hW1]; exact (Below.refl _ w).alloc (Nat.le_refl _) _
  have hb2 : Below W1.heap.size W1 w2 := by rw [hw2]; exact (Below.refl _ W1).alloc (Nat.le_refl _) _
  have hb3 : Below w2.heap.size w2 V0 := by rw [hV0]; exact (Below.refl _ w2).alloc (Nat.le_refl _) _
  have OX := Lib.hid (((show OwnB2 W1 w.heap.size M (.slice a ys.length c) by rw [hW1]; exact ownb2_alloc w M (.slice a ys.length c) 24 w.heap.size rfl).below hb2).below hb3)
  have OR := Lib.hid ((show OwnB2 w2 W1.heap.size 0 (.slice none 0 0) by rw [hw2]; exact ownb2_alloc W1 0 (.slice none 0 0) 24 W1.heap.size rfl).below hb3)
  have HOB := Lib.hid (show OwnB2 V0 g0 M (.slice none 0 0) by rw [hV0]; exact ownb2_alloc w2 M (.slice none 0 0) 24 g0 hg0.symm)
  have HGS : Hid (V0.heap.size = g0 + 1) := by show _ = _; rw [← hg0, hV0]; simp
  have HY := Lib.hid (((hy.below hb1).below hb2).below hb3)
  have HB : Hid (Below w.heap.size w V0) := (hb1.trans (hb2.mono hb1.size)).trans (hb3.mono (by omega))
  rw [hs1] at OR
  clear hy hb1 hb2 hb3
  obtain ⟨⟨x0, x1⟩, xf⟩ := OX.out
  obtain ⟨⟨o0, o1⟩, of⟩ := HOB.out
  go_enter Try.func8, Try.ntmps8
  go_upto_region 2 with (fail)
  rw [← hs2, ← hW1, ← hw2, ← hV0]
  have HS2 := Lib.hid hs2
  clear hs2 hV0 hw2 hW1 hs1 hg0
  clear W1
  go_upto_region 3 with (at_builtin; go_loud (skip; refine eapp_any rfl (.tmp 8) (.tmp 10) rfl (g0 + 1) ys rfl HY.out hl (Nat.le_of_eq HGS.out.symm) ?_; intro aX cX wh hrow2 hbel2 hsz2; have OW2 := Lib.hid hrow2; have HB2 := Lib.hid hbel2; have O1 := HOB.out.low (Nat.lt_succ_self _) hbel2; have OY := Lib.hid O1; obtain ⟨⟨q0, q1⟩, qf⟩ := O1; clear hrow2 hbel2))
  have OOz := Lib.hid (OY.out.set1 (.slice aX ys.length cX))
  have OWz := Lib.hid (OW2.out.set (Nat.lt_succ_self g0) 1 (u := .slice aX ys.length cX))
  have HWz := Lib.hid (HB2.out.mono (Nat.le_succ _))
  have HWz2 := Lib.hid (HWz.out.setCell (p := ⟨g0, 1, none⟩) (Nat.le_refl _) (.slice aX ys.length cX))
  have HRz := Lib.hid (OR.out.low (by have := HS2.out; omega) HWz2.out)
  have HBz := Lib.hid (HB.out.trans (HWz2.out.mono (by have := HS2.out; omega)))
  clear OW2 OY HB2 q0 q1 qf x0 x1 xf o0 o1 of HWz HWz2
  generalize wh.setCell ⟨g0, 1, none⟩ (.slice aX ys.length cX) = wz at *
  obtain ⟨⟨z0, z1⟩, zf⟩ := HRz.out
  obtain ⟨o0, o1⟩ := OOz.out.1
  go_wp2_with fail
  have hs := (HRz.out.set M (.slice aX ys.length cX)).1
  have hbs := belb_set2 (b := w.heap.size + 1) HBz.out (by omega) M (.slice aX ys.length cX)
  have hos : OwE _ (g0 + 1) _ ys := eown_set2 (b := w.heap.size + 1) OWz.out (by have := HS2.out; omega) M (.slice aX ys.length cX)
  generalize ((wz.setCell ⟨(w.heap.size + 1), 0, none⟩ (.int .i64 M)).setCell ⟨(w.heap.size + 1), 1, none⟩ (.slice aX ys.length cX)) = W5 at *
  obtain ⟨s0_, s1_⟩ := hs
  exact bodyPost_ret (v := .agg #[.int .i64 M, .slice aX ys.length cX]) (by simp [results, Try.results8, go_sem, s0_, s1_]) rfl ⟨⟨_, rfl, hos.mono (by have := HS2.out; omega)⟩, hbs⟩
#print axioms rown_any
end Go.Proofs.Ytaflgabjpcfgpaa
