/- The program's views: Forget. Conditions on lengths. The program's views: what is wanted, and which order the places are sorted in. The program's views: Below, Above. Conditions on lengths. -/
import Derived.Test.YtmimgpnogjgliaaPc
import Derived.Test.YtmimgpnogjgliaaVb
import Derived.Test.YtmimgpnogjgliaaSk7
import Derived.Lib.SliceRun
namespace Go.Proofs.Ytmimgpnogjgliaa
set_option maxRecDepth 100000
open Go.RowKit

/-- A row of views that may be written: from S on. -/
def VRow (S : Nat) (w : World) (a : Option Addr) (ds : List Vw) : Prop := ∀ i, i < ds.length → ∃ b, a = some ⟨b, 0, none⟩ ∧ S ≤ b ∧ C7 w b (i * 7) (ds.getD i zVw) ∧ ∀ k, w.frozen? ⟨b, k, none⟩ = false
theorem C7.blk {w : World} {b o : Nat} {y : Vw} (h : C7 w b o y) : b < w.heap.size := World.block_lt_of_cell? w _ h.1
theorem VRow.below {S : Nat} {w w' : World} {a : Option Addr} {ds : List Vw} (h : VRow S w a ds) (hb : Below w.heap.size w w') : VRow S w' a ds := fun i hi => by
  obtain ⟨b, h1, h2, h3, h4⟩ := h i hi
  exact ⟨b, h1, h2, h3.below hb h3.blk, fun k => (hb.frozen (p := ⟨b, k, none⟩) h3.blk).trans (h4 k)⟩
theorem vrow_of_own {S : Nat} {w : World} {a : Option Addr} {c : Nat} {l : List Vw} (h : OwV w S (.slice a l.length c) l) : VRow S w a l := fun i hi => by
  obtain ⟨b, off, e1, h3, h4⟩ := (h.vs).at hi
  subst e1
  have h5 : w.ownsRow S RV.T RV.K (.slice (some ⟨b, off, none⟩) l.length c) l.length (gflat RV l) := h
  have h6 := h5.2
  rcases h6 with ⟨h7, _⟩ | ⟨g, cap, cur, h7, h8, _⟩
  · cases h7
  · simp only [Value.slice.injEq, Option.some.injEq, Addr.mk.injEq] at h7
    obtain ⟨⟨rfl, rfl, _⟩, _⟩ := h7
    rw [Nat.zero_add] at h4
    exact ⟨b, rfl, h8, h4, fun k => World.ownsRow.frozenAt h5 k⟩
theorem c7_set {w : World} {b o : Nat} {y : Vw} (h : C7 w b o y) (i : Int) : C7 ((((((w.setCell ⟨b, o + 1, none⟩ (.bool true)).setCell ⟨b, o + 2, none⟩ (.int .i64 0)).setCell ⟨b, o + 3, none⟩ (.int .i64 0)).setCell ⟨b, o + 4, none⟩ (.int .i64 0)).setCell ⟨b, o + 5, none⟩ (.int .i64 0)).setCell ⟨b, o + 6, none⟩ (.int .i64 i)) b o (y.1, nulX i) := by
  obtain ⟨h0, h1, h2, h3, h4, h5, h6⟩ := h
  refine ⟨?_, ?_, ?_, ?_, ?_, ?_, ?_⟩ <;> simp [go_sem, h0, h1, h2, h3, h4, h5, h6, nulX]
theorem c7_off1 {w : World} {b o o' : Nat} {y : Vw} {u : Value} (h : C7 w b o y) (hn : o' < o ∨ o + 7 ≤ o') : C7 (w.setCell ⟨b, o', none⟩ u) b o y := by
  obtain ⟨h0, h1, h2, h3, h4, h5, h6⟩ := h
  have e : ∀ j, j < 7 → (w.setCell ⟨b, o', none⟩ u).cell? ⟨b, o + j, none⟩ = w.cell? ⟨b, o + j, none⟩ := fun j hj => World.cell?_setCell_other _ _ _ _ (by intro e; simp only [Addr.mk.injEq] at e; omega)
  exact ⟨(e 0 (by omega)).trans h0, (e 1 (by omega)).trans h1, (e 2 (by omega)).trans h2, (e 3 (by omega)).trans h3, (e 4 (by omega)).trans h4, (e 5 (by omega)).trans h5, (e 6 (by omega)).trans h6⟩
theorem vbel_setN {B : Nat} {a w : World} {b : Nat} (h : Below B a w) (hB : B ≤ b) (o : Nat) (i : Int) : Below B a ((((((w.setCell ⟨b, o + 1, none⟩ (.bool true)).setCell ⟨b, o + 2, none⟩ (.int .i64 0)).setCell ⟨b, o + 3, none⟩ (.int .i64 0)).setCell ⟨b, o + 4, none⟩ (.int .i64 0)).setCell ⟨b, o + 5, none⟩ (.int .i64 0)).setCell ⟨b, o + 6, none⟩ (.int .i64 i)) :=
  (((((h.setCell (by exact hB) _).setCell (by exact hB) _).setCell (by exact hB) _).setCell (by exact hB) _).setCell (by exact hB) _).setCell (by exact hB) _
theorem vrow_set {S : Nat} {w : World} {b k : Nat} {ds : List Vw} (h : VRow S w (some ⟨b, 0, none⟩) ds) (hk : k < ds.length) (_ : S ≤ b) (x : Hx) (hx : x = nulX x.2.2.2.2.2 := by rfl) :
    VRow S ((((((w.setCell ⟨b, k * 7 + 1, none⟩ (.bool true)).setCell ⟨b, k * 7 + 2, none⟩ (.int .i64 0)).setCell ⟨b, k * 7 + 3, none⟩ (.int .i64 0)).setCell ⟨b, k * 7 + 4, none⟩ (.int .i64 0)).setCell ⟨b, k * 7 + 5, none⟩ (.int .i64 0)).setCell ⟨b, k * 7 + 6, none⟩ (.int .i64 x.2.2.2.2.2)) (some ⟨b, 0, none⟩) (ds.set k ((ds.getD k zVw).1, x)) := by
  intro i hi
  rw [List.length_set] at hi
  obtain ⟨b', h1, h2, h3, h4⟩ := h i hi
  obtain rfl : b = b' := by simpa using h1
  refine ⟨b, rfl, h2, ?_, fun j => by simpa using h4 j⟩
  by_cases e : k = i
  · subst e
    have e2 : (ds.set k ((ds.getD k zVw).1, x)).getD k zVw = ((ds.getD k zVw).1, nulX x.2.2.2.2.2) := by rw [← hx]; simp [List.getD, hk]
    rw [e2]
    exact c7_set h3 _
  · have e2 : (ds.set k ((ds.getD k zVw).1, x)).getD i zVw = ds.getD i zVw := by simp [List.getD, e]
    rw [e2]
    exact c7_off1 (c7_off1 (c7_off1 (c7_off1 (c7_off1 (c7_off1 h3 (by omega)) (by omega)) (by omega)) (by omega)) (by omega)) (by omega)
theorem for_mid (l : List Vw) (lv : Lv) (keep : Int) (k : Nat) (h : k < l.length) :
    k < (forL (l.take k) lv keep ++ l.drop k).length ∧ (forL (l.take k) lv keep ++ l.drop k).getD k zVw = l.getD k zVw ∧
    (fgt lv keep (l.getD k zVw) = l.getD k zVw → forL (l.take (k + 1)) lv keep ++ l.drop (k + 1) = forL (l.take k) lv keep ++ l.drop k) ∧
    ∀ z, fgt lv keep (l.getD k zVw) = z → (forL (l.take k) lv keep ++ l.drop k).set k z = forL (l.take (k + 1)) lv keep ++ l.drop (k + 1) := by
  have e0 : l.drop k = l.getD k zVw :: l.drop (k + 1) := by rw [List.drop_eq_getElem_cons h]; simp [List.getD, h]
  have e1 : (forL (l.take k) lv keep).length = k := by unfold forL; rw [List.length_map, List.length_take]; omega
  have e2 := for_step l lv keep k h
  refine ⟨?_, ?_, ?_, ?_⟩
  · rw [List.length_append, e1, List.length_drop]; omega
  · rw [e0]
    simp only [List.getD]
    rw [List.getElem?_append_right (by omega), e1, Nat.sub_self]
    simp
  · intro hf
    rw [e2, hf, e0]; simp
  · intro z hz
    rw [e2, hz, e0, List.set_append_right _ _ (by omega), e1, Nat.sub_self]
    simp
end Go.Proofs.Ytmimgpnogjgliaa

namespace Go.Proofs.Ytmimgpnogjgliaa
set_option maxRecDepth 100000
open Go.RowKit

theorem vbel1_any (x own : Hx) (bo : Nat) (w : World) (ho : Cells6 w bo own.1 own.2.1 own.2.2.1 own.2.2.2.1 own.2.2.2.2.1 own.2.2.2.2.2) (hbo : bo < w.heap.size) : Calls Try.prog 50 #[hxV x, .pointer (some ⟨bo, 0, none⟩)] w fun e w' => e = .returned (.bool (lsx x own)) ∧ Below w.heap.size w w' := by
  obtain ⟨V, hV⟩ : ∃ V, w.alloc (.cells #[.bool x.1, .int .i64 x.2.1, .int .i64 x.2.2.1, .int .i64 x.2.2.2.1, .int .i64 x.2.2.2.2.1, .int .i64 x.2.2.2.2.2] 24) = V := ⟨_, rfl⟩
  have hb0 : Below w.heap.size w V := hV ▸ (Below.refl _ w).alloc (Nat.le_refl _) _
  obtain ⟨⟨a0, a1, a2, a3, a4, a5⟩, _⟩ := (hV ▸ own6_alloc w x.1 x.2.1 x.2.2.1 x.2.2.2.1 x.2.2.2.2.1 x.2.2.2.2.2 24 w.heap.size rfl : Own6 V w.heap.size x.1 x.2.1 x.2.2.1 x.2.2.2.1 x.2.2.2.2.1 x.2.2.2.2.2)
  have hc : Cells6 V bo own.1 own.2.1 own.2.2.1 own.2.2.2.1 own.2.2.2.2.1 own.2.2.2.2.2 := by
    obtain ⟨h0, h1, h2, h3, h4, h5⟩ := ho
    exact ⟨(hb0.cell (p := ⟨bo, 0, none⟩) hbo).trans h0, (hb0.cell (p := ⟨bo, 1, none⟩) hbo).trans h1, (hb0.cell (p := ⟨bo, 2, none⟩) hbo).trans h2, (hb0.cell (p := ⟨bo, 3, none⟩) hbo).trans h3, (hb0.cell (p := ⟨bo, 4, none⟩) hbo).trans h4, (hb0.cell (p := ⟨bo, 5, none⟩) hbo).trans h5⟩
  obtain ⟨o0, o1, o2, o3, o4, o5⟩ := hc
  have HB := Lib.hid hb0
  have HV := Lib.hid hV
  have C := Lib.hid (fun W => less_any x.1 x.2.1 x.2.2.1 x.2.2.2.1 x.2.2.2.2.1 x.2.2.2.2.2 own.1 own.2.1 own.2.2.1 own.2.2.2.1 own.2.2.2.2.1 own.2.2.2.2.2 W)
  clear hb0 hV ho
  go_enter Try.func50, Try.ntmps50
  go_upto_region 1 with (fail)
  rw [HV.out]
  go_wp2_with fail
  refine (C.out _).mono ?_
  rintro e w1 ⟨rfl, hb⟩
  have HB1 := Lib.hid (HB.out.trans (hb.mono HB.out.size))
  clear hb
  go_wp2_with fail
  go_ret
  exact ⟨rfl, HB1.out⟩
theorem vabo1_any (x own : Hx) (bo : Nat) (w : World) (ho : Cells6 w bo own.1 own.2.1 own.2.2.1 own.2.2.2.1 own.2.2.2.2.1 own.2.2.2.2.2) (hbo : bo < w.heap.size) : Calls Try.prog 51 #[hxV x, .pointer (some ⟨bo, 0, none⟩)] w fun e w' => e = .returned (.bool (lsx own x)) ∧ Below w.heap.size w w' := by
  obtain ⟨V, hV⟩ : ∃ V, w.alloc (.cells #[.bool x.1, .int .i64 x.2.1, .int .i64 x.2.2.1, .int .i64 x.2.2.2.1, .int .i64 x.2.2.2.2.1, .int .i64 x.2.2.2.2.2] 24) = V := ⟨_, rfl⟩
  have hb0 : Below w.heap.size w V := hV ▸ (Below.refl _ w).alloc (Nat.le_refl _) _
  obtain ⟨⟨a0, a1, a2, a3, a4, a5⟩, _⟩ := (hV ▸ own6_alloc w x.1 x.2.1 x.2.2.1 x.2.2.2.1 x.2.2.2.2.1 x.2.2.2.2.2 24 w.heap.size rfl : Own6 V w.heap.size x.1 x.2.1 x.2.2.1 x.2.2.2.1 x.2.2.2.2.1 x.2.2.2.2.2)
  have hc : Cells6 V bo own.1 own.2.1 own.2.2.1 own.2.2.2.1 own.2.2.2.2.1 own.2.2.2.2.2 := by
    obtain ⟨h0, h1, h2, h3, h4, h5⟩ := ho
    exact ⟨(hb0.cell (p := ⟨bo, 0, none⟩) hbo).trans h0, (hb0.cell (p := ⟨bo, 1, none⟩) hbo).trans h1, (hb0.cell (p := ⟨bo, 2, none⟩) hbo).trans h2, (hb0.cell (p := ⟨bo, 3, none⟩) hbo).trans h3, (hb0.cell (p := ⟨bo, 4, none⟩) hbo).trans h4, (hb0.cell (p := ⟨bo, 5, none⟩) hbo).trans h5⟩
  obtain ⟨o0, o1, o2, o3, o4, o5⟩ := hc
  have HB := Lib.hid hb0
  have HV := Lib.hid hV
  have C := Lib.hid (fun W => less_any own.1 own.2.1 own.2.2.1 own.2.2.2.1 own.2.2.2.2.1 own.2.2.2.2.2 x.1 x.2.1 x.2.2.1 x.2.2.2.1 x.2.2.2.2.1 x.2.2.2.2.2 W)
  clear hb0 hV ho
  go_enter Try.func51, Try.ntmps51
  go_upto_region 1 with (fail)
  rw [HV.out]
  go_wp2_with fail
  refine (C.out _).mono ?_
  rintro e w1 ⟨rfl, hb⟩
  have HB1 := Lib.hid (HB.out.trans (hb.mono HB.out.size))
  clear hb
  go_wp2_with fail
  go_ret
  exact ⟨rfl, HB1.out⟩
/-- The height at a place. -/
def hgt (l : List Vw) (i : Int) : Hx := (l.getD i.toNat zVw).2
set_option maxHeartbeats 4000000 in
/-- The comparison of two places of l: l lies at what block bl holds. -/
theorem vup1_any (v : Value) (l : List Vw) (bl : Nat) (x y : Int) (w : World) (hv : Vs w v l) (hbl : w.cell? ⟨bl, 0, none⟩ = some v) (hx : 0 ≤ x ∧ x.toNat < l.length) (hy : 0 ≤ y ∧ y.toNat < l.length) :
    Calls Try.prog 62 #[.int .i64 x, .int .i64 y, .pointer (some ⟨bl, 0, none⟩)] w fun e w' => e = .returned (.int .i64 (cmpX (hgt l x) (hgt l y))) ∧ Below w.heap.size w w' := by
  obtain ⟨i, rfl⟩ : ∃ i : Nat, x = (i : Int) := ⟨x.toNat, by omega⟩
  obtain ⟨j, rfl⟩ : ∃ j : Nat, y = (j : Int) := ⟨y.toNat, by omega⟩
  have hi : i < l.length := by have := hx.2; omega
  have hj : j < l.length := by have := hy.2; omega
  obtain ⟨a, c, rfl⟩ := hv.form
  obtain ⟨b2, off, rfl, hB, _⟩ := hv.at hi
  obtain ⟨x1, hx1⟩ : ∃ x1, l.getD i zVw = x1 := ⟨_, rfl⟩
  obtain ⟨y1, hy1⟩ : ∃ y1, l.getD j zVw = y1 := ⟨_, rfl⟩
  have e1 : hgt l (i : Int) = x1.2 := by unfold hgt; rw [Int.toNat_natCast, hx1]
  have e2 : hgt l (j : Int) = y1.2 := by unfold hgt; rw [Int.toNat_natCast, hy1]
  rw [e1, e2]
  have hlt := World.block_lt_of_cell? w _ hbl
  have kc : ∀ w', Below w.heap.size w w' → w'.cell? ⟨bl, 0, none⟩ = some (.slice (some ⟨b2, off, none⟩) l.length c) ∧ C7 w' b2 (off + i * 7) x1 ∧ C7 w' b2 (off + j * 7) y1 := fun w' hb => by
    have h1 := (hv.below hb).all hi
    have h2 := (hv.below hb).all hj
    rw [hx1] at h1
    rw [hy1] at h2
    exact ⟨(hb.cell (p := ⟨bl, 0, none⟩) hlt).trans hbl, h1.2, h2.2⟩
  simp only [C7] at kc
  have cX := fun W => vcmp_any x1.2 y1.2 W
  clear hv hbl hx hy hx1 hy1 e1 e2
  go_enter Try.func62, Try.ntmps62
  go_upto_region 1 with (fail)
  refine wp_region_typed (C := fun w' => Below w.heap.size w w') (X := fun w w' => Below w.heap.size w w') (n := 17) (by kernel_rfl) (by kernel_rfl) rfl (fun w => Below.refl _ w) (Below.refl _ _).drew ?_
  refine w_is (fun w => Below.refl _ w) _ (.inl rfl) (fun ρ w hC hc hfn hf => by have e2 : ρ (.tmp 2) = _ := hf 2 (by decide); (conv => lhs; simp [execOp, go_sem, hc, e2, kc w hC])) ?_
  refine w_is (fun w => Below.refl _ w) _ (.inl rfl) (fun ρ w hC hc hfn hf => by have e0 : ρ (.tmp 0) = _ := hf 0 (by decide); (conv => lhs; simp [execOp, go_sem, hc, e0])) ?_
  refine w_is (fun w => Below.refl _ w) _ (.inl rfl) (fun ρ w hC hc hfn hf => by have e6 : ρ (.tmp 6) = _ := hf 6 (by decide); have e7 : ρ (.tmp 7) = _ := hf 7 (by decide); (conv => lhs; simp [execOp, go_sem, hc, e6, e7, hi])) ?_
  refine w_is (fun w => Below.refl _ w) _ (.inl rfl) (fun ρ w hC hc hfn hf => by have e8 : ρ (.tmp 8) = _ := hf 8 (by decide); (conv => lhs; simp [execOp, go_sem, hc, e8])) ?_
  refine w_is (fun w => Below.refl _ w) _ (.inl rfl) (fun ρ w hC hc hfn hf => by have e9 : ρ (.tmp 9) = _ := hf 9 (by decide); (conv => lhs; simp [execOp, go_sem, hc, e9, kc w hC])) ?_
  refine w_is (fun w => Below.refl _ w) _ (.inl rfl) (fun ρ w hC hc hfn hf => by have e2 : ρ (.tmp 2) = _ := hf 2 (by decide); (conv => lhs; simp [execOp, go_sem, hc, e2, kc w hC])) ?_
  refine w_is (fun w => Below.refl _ w) _ (.inl rfl) (fun ρ w hC hc hfn hf => by have e1 : ρ (.tmp 1) = _ := hf 1 (by decide); (conv => lhs; simp [execOp, go_sem, hc, e1])) ?_
  refine w_is (fun w => Below.refl _ w) _ (.inl rfl) (fun ρ w hC hc hfn hf => by have e11 : ρ (.tmp 11) = _ := hf 11 (by decide); have e12 : ρ (.tmp 12) = _ := hf 12 (by decide); (conv => lhs; simp [execOp, go_sem, hc, e11, e12, hj])) ?_
  refine w_is (fun w => Below.refl _ w) _ (.inl rfl) (fun ρ w hC hc hfn hf => by have e13 : ρ (.tmp 13) = _ := hf 13 (by decide); (conv => lhs; simp [execOp, go_sem, hc, e13])) ?_
  refine w_is (fun w => Below.refl _ w) _ (.inl rfl) (fun ρ w hC hc hfn hf => by have e14 : ρ (.tmp 14) = _ := hf 14 (by decide); (conv => lhs; simp [execOp, go_sem, hc, e14, kc w hC])) ?_
  refine w_call (Is _) (fun _ _ _ h _ => h) 63 (.inl rfl) (fun ρ w hC hc hfn hf => by have e10 : ρ (.tmp 10) = _ := hf 10 (by decide); have e15 : ρ (.tmp 15) = _ := hf 15 (by decide); exact ⟨_, by (conv => lhs; simp [execOp, resolve, invoke, go_sem, hc, hfn, e10, e15]), tc_below hC (cX w)⟩) ?_
  refine w_is (fun w => Below.refl _ w) _ (.inl rfl) (fun ρ w hC hc hfn hf => by have e16 : ρ (.tmp 16) = _ := hf 16 (by decide); (conv => lhs; simp [execOp, go_sem, hc, e16])) ?_
  intro A V5 hC hn hd hf
  have y0 : A.eval (.tmp 0) = _ := Eq.trans (hf 0) (by conv => lhs; simp [go_sem])
  have y1 : A.eval (.tmp 1) = _ := Eq.trans (hf 1) (by conv => lhs; simp [go_sem])
  have y2 : A.eval (.tmp 2) = _ := Eq.trans (hf 2) (by conv => lhs; simp [go_sem])
  have y3 : A.eval (.tmp 3) = _ := Eq.trans (hf 3) (by conv => lhs; simp [go_sem])
  have y4 : A.eval (.tmp 4) = _ := Eq.trans (hf 4) (by conv => lhs; simp [go_sem])
  have y5 : A.eval (.tmp 5) = _ := hf 5
  have y6 : A.eval (.tmp 6) = _ := hf 6
  have y7 : A.eval (.tmp 7) = _ := hf 7
  have y8 : A.eval (.tmp 8) = _ := hf 8
  have y9 : A.eval (.tmp 9) = _ := hf 9
  have y10 : A.eval (.tmp 10) = _ := hf 10
  have y11 : A.eval (.tmp 11) = _ := hf 11
  have y12 : A.eval (.tmp 12) = _ := hf 12
  have y13 : A.eval (.tmp 13) = _ := hf 13
  have y14 : A.eval (.tmp 14) = _ := hf 14
  have y15 : A.eval (.tmp 15) = _ := hf 15
  have y16 : A.eval (.tmp 16) = _ := hf 16
  clear hf
  have hA := frame_eq hn
  rw [show List.range 17 = [0, 1, 2, 3, 4, 5, 6, 7, 8, 9, 10, 11, 12, 13, 14, 15, 16] from rfl, hd] at hA
  simp only [List.map_cons, List.map_nil, y0, y1, y2, y3, y4, y5, y6, y7, y8, y9, y10, y11, y12, y13, y14, y15, y16] at hA
  clear y0 y1 y2 y3 y4 y5 y6 y7 y8 y9 y10 y11 y12 y13 y14 y15 y16
  clear hn hd
  subst hA
  go_wp2_with fail
  go_ret
  exact ⟨rfl, hC⟩
/-- Places that may be sorted: f wants their heights. -/
def okI (l : List Vw) (f : Hx → Bool) (i : Int) : Prop := 0 ≤ i ∧ i.toNat < l.length ∧ f (hgt l i) = true
def ltI (l : List Vw) (f : Hx → Bool) (x y : Int) : Prop := okI l f x ∧ okI l f y ∧ (lsx (hgt l x) (hgt l y) = true ∨ (lsx (hgt l y) (hgt l x) = false ∧ x < y))
theorem cmpX_neg {x y : Hx} : cmpX x y < 0 ↔ lsx x y = true := by
  unfold cmpX
  by_cases h : lsx x y = true
  · rw [if_pos h]; exact ⟨fun _ => h, fun _ => by decide⟩
  · rw [if_neg h]
    refine ⟨fun h2 => ?_, fun h2 => absurd h2 h⟩
    by_cases h3 : lsx y x = true
    · rw [if_pos h3] at h2; exact absurd h2 (by decide)
    · rw [if_neg h3] at h2; exact absurd h2 (by decide)
theorem sordI (l : List Vw) (f : Hx → Bool) (hf : ∀ h, f h = true → tld h = true) : SOrd (okI l f) (fun x y => cmpX (hgt l x) (hgt l y)) (ltI l f) where
  tr := fun x y z h k => by
    obtain ⟨ox, oy, h⟩ := h
    obtain ⟨_, oz, k⟩ := k
    refine ⟨ox, oz, ?_⟩
    have tx := hf _ ox.2.2
    have ty := hf _ oy.2.2
    have tz := hf _ oz.2.2
    have nt : ∀ {a b c : Hx}, tld a = true → tld b = true → tld c = true → lsx a b = false → lsx b c = false → lsx a c = false := fun {a b c} ha hb hc h1 h2 => clV_nt (x := (0, a)) (y := (0, b)) (z := (0, c)) ha hb hc h1 h2
    rcases h with h | ⟨h, h'⟩
    · rcases k with k | ⟨k, _⟩
      · exact .inl (lsx_tr h k)
      · cases hxz : lsx (hgt l x) (hgt l z) with
        | true => exact .inl rfl
        | false => rw [nt tx tz ty hxz k] at h; cases h
    · rcases k with k | ⟨k, k'⟩
      · cases hxz : lsx (hgt l x) (hgt l z) with
        | true => exact .inl rfl
        | false => rw [nt ty tx tz h hxz] at k; cases k
      · exact .inr ⟨nt tz ty tx k h, by omega⟩
  yes := fun x y ox oy _ h => ⟨oy, ox, .inl (cmpX_neg.1 h)⟩
  no := fun x y ox oy hxy h => ⟨ox, oy, .inr ⟨by
    cases e : lsx (hgt l y) (hgt l x) with
    | true => exact absurd (cmpX_neg.2 e) h
    | false => rfl, hxy⟩⟩
/-- The places among the first k that are wanted. -/
def wantI (l : List Vw) (f : Hx → Bool) (k : Nat) : List Int := ((List.range k).filter (fun i : Nat => f (l.getD i zVw).2)).map (fun i : Nat => (i : Int))
theorem want_step (l : List Vw) (f : Hx → Bool) (k : Nat) : wantI l f (k + 1) = wantI l f k ++ if f (l.getD k zVw).2 = true then [(k : Int)] else [] := by
  unfold wantI
  rw [List.range_succ, List.filter_append, List.map_append]
  congr 1
  cases hd : f (l.getD k zVw).2 with
  | true => rw [if_pos rfl, List.filter_cons_of_pos (p := fun i : Nat => f (l.getD i zVw).2) hd]; rfl
  | false => rw [if_neg (by simp), List.filter_cons_of_neg (p := fun i : Nat => f (l.getD i zVw).2) (by rw [hd]; simp)]; rfl
theorem want_len (l : List Vw) (f : Hx → Bool) (k : Nat) : (wantI l f k).length ≤ k := by
  unfold wantI
  rw [List.length_map]
  exact Nat.le_trans (List.length_filter_le _ _) (by simp)
theorem want_rise (l : List Vw) (f : Hx → Bool) (k : Nat) : (wantI l f k).Pairwise (· < ·) := by
  unfold wantI
  rw [List.pairwise_map]
  exact (List.Pairwise.imp (fun h => by omega) List.pairwise_lt_range).sublist List.filter_sublist
theorem want_ok (l : List Vw) (f : Hx → Bool) {k : Nat} (hk : k ≤ l.length) : ∀ x ∈ wantI l f k, okI l f x := by
  intro x hx
  unfold wantI at hx
  obtain ⟨i, hi, rfl⟩ := List.mem_map.1 hx
  obtain ⟨h1, h2⟩ := List.mem_filter.1 hi
  have := List.mem_range.1 h1
  exact ⟨by omega, by simp; omega, by unfold hgt; rw [Int.toNat_natCast]; exact h2⟩
theorem want_vw (l : List Vw) (f : Hx → Bool) {k : Nat} (hk : k ≤ l.length) : (wantI l f k).map (fun i => l.getD i.toNat zVw) = (l.take k).filter (fun y => f y.2) := by
  induction k with
  | zero => rfl
  | succ k ih =>
    rw [want_step, List.map_append, ih (by omega), vtake_succ l k (by omega), List.filter_append]
    congr 1
    cases hd : f (l.getD k zVw).2 with
    | true => rw [if_pos rfl, List.filter_cons_of_pos (p := fun y : Vw => f y.2) hd]; simp
    | false => rw [if_neg (by simp), List.filter_cons_of_neg (p := fun y : Vw => f y.2) (by rw [hd]; simp)]; rfl
theorem idx_lt {D : List Int} (hD : D.Pairwise (· < ·)) {x y : Int} (hx : x ∈ D) (hy : y ∈ D) (h : x < y) : D.idxOf x < D.idxOf y := by
  have h1 := List.idxOf_lt_length_iff.2 hx
  have h2 := List.idxOf_lt_length_iff.2 hy
  have e1 : D[D.idxOf x] = x := List.getElem_idxOf h1
  have e2 : D[D.idxOf y] = y := List.getElem_idxOf h2
  rcases Nat.lt_trichotomy (D.idxOf x) (D.idxOf y) with h3 | h3 | h3
  · exact h3
  · have : D[D.idxOf x] = D[D.idxOf y] := by congr 1
    omega
  · have := List.pairwise_iff_getElem.1 hD _ _ h2 h1 h3
    omega
theorem zip_idx {D : List Int} (hD : D.Pairwise (· < ·)) (g : Int → Vw) : (D.map g).zipIdx 0 = D.map (fun i => (g i, D.idxOf i)) := by
  refine List.ext_getElem (by simp) fun i h1 h2 => ?_
  have h3 : i < D.length := by simpa using h2
  have hnd : D.Nodup := List.Pairwise.imp (fun h e => by omega) hD
  simp only [List.getElem_zipIdx, List.getElem_map, Nat.zero_add]
  rw [List.Nodup.idxOf_getElem hnd i h3]
/-- What the places are, sorted: the document's order of the views. -/
theorem srt_vord {l : List Vw} {f : Hx → Bool} (hf : ∀ h, f h = true → tld h = true) {S : List Int} (h : Srt (ltI l f) (wantI l f l.length) S) : S.map (fun i => (l.getD i.toNat zVw).1) = (vordL (l.filter (fun y => f y.2))).map (·.1) := by
  have hD := want_rise l f l.length
  have hv := want_vw l f (Nat.le_refl l.length)
  rw [List.take_length] at hv
  have h1 := vord_stb (l := l.filter (fun y => f y.2)) (fun y hy => hf _ (List.mem_filter.1 hy).2) (zs := S.map (fun i => (l.getD i.toNat zVw, (wantI l f l.length).idxOf i)))
    (by rw [← hv, zip_idx hD]; exact h.1.map _)
    (by
      rw [List.pairwise_map]
      refine List.Pairwise.imp_of_mem (fun {a b} ha hb hab => ?_) h.2
      obtain ⟨_, _, hab⟩ := hab
      rcases hab with hab | ⟨hab, hlt⟩
      · exact .inl hab
      · exact .inr ⟨hab, idx_lt hD (h.1.mem_iff.1 ha) (h.1.mem_iff.1 hb) hlt⟩)
  rw [← h1, List.map_map, List.map_map]
  rfl
end Go.Proofs.Ytmimgpnogjgliaa

namespace Go.Proofs.Ytmimgpnogjgliaa
set_option maxRecDepth 100000
open Go.RowKit

theorem sx_of_own {w : World} {S : Nat} {a : Option Addr} {c : Nat} {xs : List Int} (h : OwI w S (.slice a xs.length c) xs) (h0 : xs ≠ []) : ∃ g, a = some ⟨g, 0, none⟩ ∧ S ≤ g ∧ g < w.heap.size ∧ SR w g 0 xs ∧ xs.length ≤ c := by
  have h1 : w.ownsRow S RI.T RI.K (.slice a xs.length c) xs.length (gflat RI xs) := h
  have hp : 0 < xs.length := List.length_pos_iff.2 h0
  rcases h1.2 with ⟨_, h2⟩ | ⟨g, cap, cur, h7, h8, h9, h10, _⟩
  · omega
  · simp only [Value.slice.injEq] at h7
    obtain ⟨rfl, _, rfl⟩ := h7
    have hz := Gs_of_own (R := RI) h1
    have hg : g < w.heap.size := (h1.lt g rfl).2
    refine ⟨g, rfl, h8, hg, fun i hi => ⟨?_, World.ownsRow.frozenAt h1 (0 + i)⟩, h10⟩
    have h3 := (Gs.all (R := RI) hz.1 hi).2 0 (show 0 < 1 by decide)
    rw [show 0 + i * RI.K + 0 = 0 + i by show 0 + i * 1 + 0 = 0 + i; omega] at h3
    exact h3
/-- The Id at a place. -/
def idI (l : List Vw) (i : Int) : Int := (l.getD i.toNat zVw).1
theorem sx_set {B : Nat} {w0 w : World} {b off : Nat} {ds : List Int} (h : SX B w0 b off w ds) {i : Nat} (hi : i < ds.length) (z : Int) : SX B w0 b off (w.setCell ⟨b, off + i, none⟩ (.int .i64 z)) (ds.set i z) := by
  refine ⟨h.bel.setCell (p := ⟨b, off + i, none⟩) h.hB _, ?_, h.hB, by simpa using h.lt⟩
  intro k hk
  rw [List.length_set] at hk
  refine ⟨?_, by simpa using h.f hk⟩
  by_cases e : k = i
  · subst e
    rw [World.cell?_setCell_same' _ _ _ (by rw [h.c hk]; rfl)]
    simp [List.getD, hk]
  · rw [World.cell?_setCell_other _ _ _ _ (by intro e'; simp only [Addr.mk.injEq] at e'; omega), h.c hk]
    simp [List.getD, Ne.symm e]
theorem ids_mid (l : List Vw) (S : List Int) (k : Nat) (h : k < S.length) :
    k < ((S.take k).map (idI l) ++ S.drop k).length ∧ ((S.take k).map (idI l) ++ S.drop k).getD k 0 = S.getD k 0 ∧ ((S.take k).map (idI l) ++ S.drop k).set k (idI l (S.getD k 0)) = (S.take (k + 1)).map (idI l) ++ S.drop (k + 1) := by
  have e1 : ((S.take k).map (idI l)).length = k := by rw [List.length_map, List.length_take]; omega
  refine ⟨?_, ?_, ?_⟩
  · rw [List.length_append, e1, List.length_drop]; omega
  · rw [drop_q h]
    exact gd_mid _ _ _ e1.symm
  · rw [drop_q h, set_mid _ _ _ _ e1.symm, take_q h, List.map_append]
    simp
set_option maxHeartbeats 16000000 in
theorem vupwB_any (v : Value) (l : List Vw) (f : Hx → Bool) (hf : ∀ h, f h = true → tld h = true) (cbw : Value) (w : World) (hv : Vs w v l) (hl : l.length ≤ 1000)
    (hw : ∀ x W, Below w.heap.size w W → Calls Try.prog 50 #[hxV x, cbw] W fun e w' => e = .returned (.bool (f x)) ∧ Below W.heap.size W w') :
    Calls Try.prog 49 #[v, .func (.func 50) #[] #[cbw]] w fun e w' => ∃ r, e = .returned r ∧ Zs w' r ((vordL (l.filter (fun y => f y.2))).map (·.1)) ∧ Below w.heap.size w w' := by
  obtain ⟨R, hR⟩ : ∃ R, (vordL (l.filter (fun y => f y.2))).map (·.1) = R := ⟨_, rfl⟩
  rw [hR]
  obtain ⟨a, c, rfl⟩ := hv.form
  obtain ⟨w1, hw1⟩ : ∃ w1, w.alloc (.cells #[.slice a l.length c] 22) = w1 := ⟨_, rfl⟩
  have hb0 : Below w.heap.size w w1 := hw1 ▸ (Below.refl _ w).alloc (Nat.le_refl _) _
  have hc0 : w1.cell? ⟨w.heap.size, 0, none⟩ = some (.slice a l.length c) := by rw [← hw1]; simp
  have hs1 : w1.heap.size = w.heap.size + 1 := by rw [← hw1]; simp
  have HR := Lib.hid hR
  have HV := Lib.hid (hv.below hb0)
  have HB0 := Lib.hid hb0
  have HC0 := Lib.hid hc0
  have HS1 := Lib.hid hs1
  have HW1 := Lib.hid hw1
  have HWW := Lib.hid hw
  have HFF := Lib.hid hf
  clear hv hb0 hs1 hw1 hw hf hR
  go_enter Try.func49, Try.ntmps49
  go_upto_region 2 with (fail)
  rw [HW1.out]
  go_wp2_with fail
  clear hc0
  go_loopw [5, 12] (fun ov i wr => ∃ (k : Nat) (ax : Option Addr) (cx : Nat) (xs : List Int), k ≤ l.length ∧ i = .int .i64 k ∧ ov = .slice ax xs.length cx ∧ Hid (wantI l f k = xs) ∧ Hid (OwI wr w1.heap.size (.slice ax xs.length cx) xs) ∧ Hid (xs = [] → ax = none ∧ cx = 0) ∧ Hid (Below w1.heap.size w1 wr)) (fun _ i _ => l.length - (intOf i).toNat)
  case atStart => exact ⟨0, none, 0, [], Nat.zero_le _, rfl, rfl, rfl, OwI_nil w1 _, fun _ => ⟨rfl, rfl⟩, Below.refl _ _⟩
  case round =>
    obtain ⟨k, ax, cx, xs, hk, rfl, rfl, HF, HO, HN, HB⟩ := hrel
    have hxl : xs.length ≤ k := by
      have h1 := want_len l f k
      rw [HF.out] at h1
      exact h1
    by_cases hlt : k < l.length
    · have hst := want_step l f k
      rw [HF.out] at hst
      obtain ⟨b2, off, rfl, hB, p0, p1, p2, p3, p4, p5, p6⟩ := (HV.out.below HB.out).at hlt
      obtain ⟨y, hy⟩ : ∃ y, l.getD k zVw = y := ⟨_, rfl⟩
      rw [hy] at p0 p1 p2 p3 p4 p5 p6 hst
      clear hy
      obtain ⟨V, hV⟩ : ∃ V, wr.alloc (.cells #[.int .i64 y.1, .bool y.2.1, .int .i64 y.2.2.1, .int .i64 y.2.2.2.1, .int .i64 y.2.2.2.2.1, .int .i64 y.2.2.2.2.2.1, .int .i64 y.2.2.2.2.2.2] 43) = V := ⟨_, rfl⟩
      have hbv : Below wr.heap.size wr V := hV ▸ (Below.refl _ wr).alloc (Nat.le_refl _) _
      have OY := Lib.hid (hV ▸ ownV_alloc wr y wr.heap.size rfl 43 : OwnV V wr.heap.size y)
      have HBV := Lib.hid (HB.out.trans (hbv.mono HB.out.size))
      have HOV := Lib.hid (HO.out.below hbv)
      have CW := Lib.hid (HWW.out y.2 V (HB0.out.trans (HBV.out.mono HB0.out.size)))
      obtain ⟨⟨d0, d1, d2, d3, d4, d5, d6⟩, df⟩ := OY.out
      simp only [Nat.zero_add] at d1 d2 d3 d4 d5 d6
      go_upto_region 5 with (fail)
      clear p0 p1 p2 p3 p4 p5 p6 hV hbv hB HO
      have HLE1 : Hid (xs.length ≤ 3000) := by show _ ≤ _; omega
      cases g3 : f y.2 with
      | true =>
        rw [g3] at CW
        rw [g3, if_pos rfl] at hst
        have HST := Lib.hid hst
        clear hst g3
        go_wp2_with fail
        refine CW.out.mono ?_
        rintro e V2 ⟨rfl, hb2⟩
        have HB5 := Lib.hid (HBV.out.trans (hb2.mono HBV.out.size))
        have HO5 := Lib.hid (HOV.out.below hb2)
        have HSW : Hid (w1.heap.size ≤ V2.heap.size) := HB5.out.size
        clear hb2 d0 d1 d2 d3 d4 d5 d6 df
        go_wp2_with (at_builtin; refine iapp1_any rfl (.tmp 21) (.tmp 23) rfl V2 (k : Int) rfl w1.heap.size (.slice ax xs.length cx) xs rfl rfl HO5.out HLE1.out HSW.out ?_; intro g1 cap1 wa ho9 hb9; have HO1 := Lib.hid ho9; have HA1 := Lib.hid hb9; clear ho9 hb9)
        go_roundw
        case rel => exact ⟨k + 1, some ⟨g1, 0, none⟩, cap1, xs ++ [(k : Int)], by omega, by go_num, by rw [List.length_append]; rfl, HST.out, by have h9 := HO1.out; rw [List.length_append]; exact h9, fun h => absurd h (by simp), HB5.out.trans HA1.out⟩
        case measure => simp [intOf]; omega
      | false =>
        rw [g3] at CW
        rw [g3, if_neg (by simp), List.append_nil] at hst
        have HST := Lib.hid hst
        clear hst g3
        go_wp2_with fail
        refine CW.out.mono ?_
        rintro e V2 ⟨rfl, hb2⟩
        have HB5 := Lib.hid (HBV.out.trans (hb2.mono HBV.out.size))
        have HO5 := Lib.hid (HOV.out.below hb2)
        clear hb2 d0 d1 d2 d3 d4 d5 d6 df
        go_wp2_with fail
        go_roundw
        case rel => exact ⟨k + 1, ax, cx, xs, by omega, by go_num, rfl, HST.out, HO5.out, HN.out, HB5.out⟩
        case measure => simp [intOf]; omega
    · obtain rfl : k = l.length := by omega
      obtain ⟨wo, hwo⟩ : ∃ wo, wo = wr := ⟨_, rfl⟩
      subst hwo
      by_cases hx0 : xs = []
      · obtain ⟨rfl, rfl⟩ := HN.out hx0
        subst hx0
        have hrn : R = [] := by
          have h1 := srt_vord (l := l) (f := f) HFF.out (S := []) (by rw [HF.out]; exact srt_nil _)
          rw [← HR.out, ← h1]
          rfl
        have HRN := Lib.hid hrn
        have HBX := Lib.hid (HB0.out.trans (HB.out.mono HB0.out.size))
        have C := Lib.hid (ssf_nil (cbv := .pointer (some ⟨w.heap.size, 0, none⟩)) wo)
        clear hrn
        show Code.wp _ _ _ _ _
        simp only [List.length_nil]
        go_wp2_with fail
        refine C.out.mono ?_
        rintro e w2 ⟨rfl, rfl⟩
        go_wp2_with fail
        go_loopw [31] (fun i wq => i = .int .i64 0 ∧ w2 = wq) (fun _ _ => 0)
        case atStart => exact ⟨rfl, rfl⟩
        case round =>
          obtain ⟨rfl, rfl⟩ := hrel
          go_wp2_with fail
          go_ret
          exact ⟨_, rfl, by rw [HRN.out]; exact ⟨by simp, .inl ⟨none, 0, rfl, fun _ => rfl, rfl⟩⟩, HBX.out⟩
      · obtain ⟨g, rfl, hg1, hg2, hrow, hcap⟩ := sx_of_own HO.out hx0
        obtain ⟨n, hn⟩ : ∃ n, xs.length = n := ⟨_, rfl⟩
        have hnb : n ≤ 1000 := by omega
        have hbw : Below w1.heap.size wo wo := Below.refl _ _
        have hsx : SX w1.heap.size wo g 0 wo xs := ⟨hbw, hrow, hg1, hg2⟩
        have hCC : CmpC (.pointer (some ⟨w.heap.size, 0, none⟩)) w1.heap.size wo (okI l f) (fun x y => cmpX (hgt l x) (hgt l y)) := fun W x y hb ox oy => by
          have hb9 := HB.out.trans hb
          exact vup1_any _ l w.heap.size x y W (HV.out.below hb9) ((hb9.cell (p := ⟨w.heap.size, 0, none⟩) (by show w.heap.size < w1.heap.size; have := HS1.out; omega)).trans HC0.out) ⟨ox.1, ox.2.1⟩ ⟨oy.1, oy.2.1⟩
        have hri := want_rise l f l.length
        have hok := want_ok l f (Nat.le_refl l.length)
        rw [HF.out] at hri hok
        have C := Lib.hid (ssf_any (cap := cx) (sordI l f HFF.out) hCC xs hri hok wo hsx hn.symm (by omega))
        have HOKI := Lib.hid hok
        have HNN := Lib.hid hn
        have HCP := Lib.hid hcap
        rw [hn]
        clear hCC hri hok hn hsx hrow hcap hbw hg1 hg2 hx0
        go_wp2_with fail
        refine C.out.mono ?_
        rintro e w2 ⟨rfl, S, hs, hsrt⟩
        have HS2 := Lib.hid hs
        have hsl : S.length = n := by rw [hsrt.1.length_eq, HNN.out]
        have HSL := Lib.hid hsl
        have hro : S.map (fun i => (l.getD i.toNat zVw).1) = R := by rw [← HR.out]; exact srt_vord HFF.out (by rw [HF.out]; exact hsrt)
        have HRO := Lib.hid hro
        have HOS := Lib.hid (show ∀ x ∈ S, okI l f x from fun x hx => HOKI.out x (hsrt.1.mem_iff.1 hx))
        clear hs hsl hro hsrt C
        go_wp2_with fail
        go_loopw [31] (fun i wq => ∃ k : Nat, k ≤ n ∧ i = .int .i64 k ∧ Hid (SX w1.heap.size wo g 0 wq ((S.take k).map (idI l) ++ S.drop k))) (fun i _ => n - (intOf i).toNat)
        case atStart => exact ⟨0, Nat.zero_le _, rfl, HS2.out⟩
        case round =>
          obtain ⟨k, hk, rfl, HS3⟩ := hrel
          clear HS2
          by_cases hlt2 : k < n
          · obtain ⟨m1, m2, m3⟩ := ids_mid l S k (by have := HSL.out; omega)
            have hmem : S.getD k 0 ∈ S := gd_mem (by have := HSL.out; omega)
            obtain ⟨ox1, ox2, _⟩ := HOS.out _ hmem
            obtain ⟨j, hj⟩ : ∃ j : Nat, S.getD k 0 = (j : Int) := ⟨(S.getD k 0).toNat, by omega⟩
            rw [hj] at m2 m3 ox2
            have hjl : j < l.length := by have := ox2; omega
            have hb9 : Below w1.heap.size w1 wr := HB.out.trans HS3.out.bel
            obtain ⟨b2, off, rfl, hB, p0, p1, p2, p3, p4, p5, p6⟩ := (HV.out.below hb9).at hjl
            have hbx : wr.cell? ⟨w.heap.size, 0, none⟩ = some (.slice (some ⟨b2, off, none⟩) l.length c) := (hb9.cell (p := ⟨w.heap.size, 0, none⟩) (by show w.heap.size < w1.heap.size; have := HS1.out; omega)).trans HC0.out
            obtain ⟨d, hd⟩ : ∃ d, (S.take k).map (idI l) ++ S.drop k = d := ⟨_, rfl⟩
            rw [hd] at HS3 m1 m2 m3
            have r0 := HS3.out.c m1
            have f0 := HS3.out.f m1
            rw [Nat.zero_add] at r0 f0
            rw [m2] at r0
            obtain ⟨z, hz⟩ : ∃ z, idI l (j : Int) = z := ⟨_, rfl⟩
            have hz2 : (l.getD j zVw).1 = z := by rw [← hz]; unfold idI; rw [Int.toNat_natCast]
            rw [hz] at m3
            rw [hz2] at p0
            have HS5 := sx_set HS3.out m1 z
            rw [m3, Nat.zero_add] at HS5
            have HS6 := Lib.hid HS5
            clear HS5 hd hz hz2 m1 m2 m3 hmem ox1 ox2 hj hB hb9 HS3 p1 p2 p3 p4 p5 p6
            go_wp2_with fail
            go_roundw
            case rel => exact ⟨k + 1, by omega, by go_num, HS6⟩
            case measure => simp [intOf]; omega
          · obtain rfl : k = n := by omega
            have h1 := HS3.out
            have e1 : (S.take k).map (idI l) ++ S.drop k = R := by
              rw [← HRO.out, List.take_of_length_le (by have := HSL.out; omega), List.drop_eq_nil_of_le (by have := HSL.out; omega), List.append_nil]
              rfl
            rw [e1] at h1
            have hrl : R.length = k := by rw [← HRO.out, List.length_map]; exact HSL.out
            have hzs : Zs wr (.slice (some ⟨g, 0, none⟩) k cx) R := ⟨by have := HNN.out; omega, .inr ⟨g, 0, cx, by rw [hrl], by have := HCP.out; have := HNN.out; omega, fun i hi => h1.c hi⟩⟩
            have HZS := Lib.hid hzs
            have HBX := Lib.hid (HB0.out.trans ((HB.out.trans h1.bel).mono HB0.out.size))
            clear h1 hrl hzs e1
            go_wp2_with fail
            go_ret
            exact ⟨_, rfl, HZS.out, HBX.out⟩
set_option maxHeartbeats 16000000 in
theorem vupwA_any (v : Value) (l : List Vw) (f : Hx → Bool) (hf : ∀ h, f h = true → tld h = true) (cbw : Value) (w : World) (hv : Vs w v l) (hl : l.length ≤ 1000)
    (hw : ∀ x W, Below w.heap.size w W → Calls Try.prog 51 #[hxV x, cbw] W fun e w' => e = .returned (.bool (f x)) ∧ Below W.heap.size W w') :
    Calls Try.prog 49 #[v, .func (.func 51) #[] #[cbw]] w fun e w' => ∃ r, e = .returned r ∧ Zs w' r ((vordL (l.filter (fun y => f y.2))).map (·.1)) ∧ Below w.heap.size w w' := by
  obtain ⟨R, hR⟩ : ∃ R, (vordL (l.filter (fun y => f y.2))).map (·.1) = R := ⟨_, rfl⟩
  rw [hR]
  obtain ⟨a, c, rfl⟩ := hv.form
  obtain ⟨w1, hw1⟩ : ∃ w1, w.alloc (.cells #[.slice a l.length c] 22) = w1 := ⟨_, rfl⟩
  have hb0 : Below w.heap.size w w1 := hw1 ▸ (Below.refl _ w).alloc (Nat.le_refl _) _
  have hc0 : w1.cell? ⟨w.heap.size, 0, none⟩ = some (.slice a l.length c) := by rw [← hw1]; simp
  have hs1 : w1.heap.size = w.heap.size + 1 := by rw [← hw1]; simp
  have HR := Lib.hid hR
  have HV := Lib.hid (hv.below hb0)
  have HB0 := Lib.hid hb0
  have HC0 := Lib.hid hc0
  have HS1 := Lib.hid hs1
  have HW1 := Lib.hid hw1
  have HWW := Lib.hid hw
  have HFF := Lib.hid hf
  clear hv hb0 hs1 hw1 hw hf hR
  go_enter Try.func49, Try.ntmps49
  go_upto_region 2 with (fail)
  rw [HW1.out]
  go_wp2_with fail
  clear hc0
  go_loopw [5, 12] (fun ov i wr => ∃ (k : Nat) (ax : Option Addr) (cx : Nat) (xs : List Int), k ≤ l.length ∧ i = .int .i64 k ∧ ov = .slice ax xs.length cx ∧ Hid (wantI l f k = xs) ∧ Hid (OwI wr w1.heap.size (.slice ax xs.length cx) xs) ∧ Hid (xs = [] → ax = none ∧ cx = 0) ∧ Hid (Below w1.heap.size w1 wr)) (fun _ i _ => l.length - (intOf i).toNat)
  case atStart => exact ⟨0, none, 0, [], Nat.zero_le _, rfl, rfl, rfl, OwI_nil w1 _, fun _ => ⟨rfl, rfl⟩, Below.refl _ _⟩
  case round =>
    obtain ⟨k, ax, cx, xs, hk, rfl, rfl, HF, HO, HN, HB⟩ := hrel
    have hxl : xs.length ≤ k := by
      have h1 := want_len l f k
      rw [HF.out] at h1
      exact h1
    by_cases hlt : k < l.length
    · have hst := want_step l f k
      rw [HF.out] at hst
      obtain ⟨b2, off, rfl, hB, p0, p1, p2, p3, p4, p5, p6⟩ := (HV.out.below HB.out).at hlt
      obtain ⟨y, hy⟩ : ∃ y, l.getD k zVw = y := ⟨_, rfl⟩
      rw [hy] at p0 p1 p2 p3 p4 p5 p6 hst
      clear hy
      obtain ⟨V, hV⟩ : ∃ V, wr.alloc (.cells #[.int .i64 y.1, .bool y.2.1, .int .i64 y.2.2.1, .int .i64 y.2.2.2.1, .int .i64 y.2.2.2.2.1, .int .i64 y.2.2.2.2.2.1, .int .i64 y.2.2.2.2.2.2] 43) = V := ⟨_, rfl⟩
      have hbv : Below wr.heap.size wr V := hV ▸ (Below.refl _ wr).alloc (Nat.le_refl _) _
      have OY := Lib.hid (hV ▸ ownV_alloc wr y wr.heap.size rfl 43 : OwnV V wr.heap.size y)
      have HBV := Lib.hid (HB.out.trans (hbv.mono HB.out.size))
      have HOV := Lib.hid (HO.out.below hbv)
      have CW := Lib.hid (HWW.out y.2 V (HB0.out.trans (HBV.out.mono HB0.out.size)))
      obtain ⟨⟨d0, d1, d2, d3, d4, d5, d6⟩, df⟩ := OY.out
      simp only [Nat.zero_add] at d1 d2 d3 d4 d5 d6
      go_upto_region 5 with (fail)
      clear p0 p1 p2 p3 p4 p5 p6 hV hbv hB HO
      have HLE1 : Hid (xs.length ≤ 3000) := by show _ ≤ _; omega
      cases g3 : f y.2 with
      | true =>
        rw [g3] at CW
        rw [g3, if_pos rfl] at hst
        have HST := Lib.hid hst
        clear hst g3
        go_wp2_with fail
        refine CW.out.mono ?_
        rintro e V2 ⟨rfl, hb2⟩
        have HB5 := Lib.hid (HBV.out.trans (hb2.mono HBV.out.size))
        have HO5 := Lib.hid (HOV.out.below hb2)
        have HSW : Hid (w1.heap.size ≤ V2.heap.size) := HB5.out.size
        clear hb2 d0 d1 d2 d3 d4 d5 d6 df
        go_wp2_with (at_builtin; refine iapp1_any rfl (.tmp 21) (.tmp 23) rfl V2 (k : Int) rfl w1.heap.size (.slice ax xs.length cx) xs rfl rfl HO5.out HLE1.out HSW.out ?_; intro g1 cap1 wa ho9 hb9; have HO1 := Lib.hid ho9; have HA1 := Lib.hid hb9; clear ho9 hb9)
        go_roundw
        case rel => exact ⟨k + 1, some ⟨g1, 0, none⟩, cap1, xs ++ [(k : Int)], by omega, by go_num, by rw [List.length_append]; rfl, HST.out, by have h9 := HO1.out; rw [List.length_append]; exact h9, fun h => absurd h (by simp), HB5.out.trans HA1.out⟩
        case measure => simp [intOf]; omega
      | false =>
        rw [g3] at CW
        rw [g3, if_neg (by simp), List.append_nil] at hst
        have HST := Lib.hid hst
        clear hst g3
        go_wp2_with fail
        refine CW.out.mono ?_
        rintro e V2 ⟨rfl, hb2⟩
        have HB5 := Lib.hid (HBV.out.trans (hb2.mono HBV.out.size))
        have HO5 := Lib.hid (HOV.out.below hb2)
        clear hb2 d0 d1 d2 d3 d4 d5 d6 df
        go_wp2_with fail
        go_roundw
        case rel => exact ⟨k + 1, ax, cx, xs, by omega, by go_num, rfl, HST.out, HO5.out, HN.out, HB5.out⟩
        case measure => simp [intOf]; omega
    · obtain rfl : k = l.length := by omega
      obtain ⟨wo, hwo⟩ : ∃ wo, wo = wr := ⟨_, rfl⟩
      subst hwo
      by_cases hx0 : xs = []
      · obtain ⟨rfl, rfl⟩ := HN.out hx0
        subst hx0
        have hrn : R = [] := by
          have h1 := srt_vord (l := l) (f := f) HFF.out (S := []) (by rw [HF.out]; exact srt_nil _)
          rw [← HR.out, ← h1]
          rfl
        have HRN := Lib.hid hrn
        have HBX := Lib.hid (HB0.out.trans (HB.out.mono HB0.out.size))
        have C := Lib.hid (ssf_nil (cbv := .pointer (some ⟨w.heap.size, 0, none⟩)) wo)
        clear hrn
        show Code.wp _ _ _ _ _
        simp only [List.length_nil]
        go_wp2_with fail
        refine C.out.mono ?_
        rintro e w2 ⟨rfl, rfl⟩
        go_wp2_with fail
        go_loopw [31] (fun i wq => i = .int .i64 0 ∧ w2 = wq) (fun _ _ => 0)
        case atStart => exact ⟨rfl, rfl⟩
        case round =>
          obtain ⟨rfl, rfl⟩ := hrel
          go_wp2_with fail
          go_ret
          exact ⟨_, rfl, by rw [HRN.out]; exact ⟨by simp, .inl ⟨none, 0, rfl, fun _ => rfl, rfl⟩⟩, HBX.out⟩
      · obtain ⟨g, rfl, hg1, hg2, hrow, hcap⟩ := sx_of_own HO.out hx0
        obtain ⟨n, hn⟩ : ∃ n, xs.length = n := ⟨_, rfl⟩
        have hnb : n ≤ 1000 := by omega
        have hbw : Below w1.heap.size wo wo := Below.refl _ _
        have hsx : SX w1.heap.size wo g 0 wo xs := ⟨hbw, hrow, hg1, hg2⟩
        have hCC : CmpC (.pointer (some ⟨w.heap.size, 0, none⟩)) w1.heap.size wo (okI l f) (fun x y => cmpX (hgt l x) (hgt l y)) := fun W x y hb ox oy => by
          have hb9 := HB.out.trans hb
          exact vup1_any _ l w.heap.size x y W (HV.out.below hb9) ((hb9.cell (p := ⟨w.heap.size, 0, none⟩) (by show w.heap.size < w1.heap.size; have := HS1.out; omega)).trans HC0.out) ⟨ox.1, ox.2.1⟩ ⟨oy.1, oy.2.1⟩
        have hri := want_rise l f l.length
        have hok := want_ok l f (Nat.le_refl l.length)
        rw [HF.out] at hri hok
        have C := Lib.hid (ssf_any (cap := cx) (sordI l f HFF.out) hCC xs hri hok wo hsx hn.symm (by omega))
        have HOKI := Lib.hid hok
        have HNN := Lib.hid hn
        have HCP := Lib.hid hcap
        rw [hn]
        clear hCC hri hok hn hsx hrow hcap hbw hg1 hg2 hx0
        go_wp2_with fail
        refine C.out.mono ?_
        rintro e w2 ⟨rfl, S, hs, hsrt⟩
        have HS2 := Lib.hid hs
        have hsl : S.length = n := by rw [hsrt.1.length_eq, HNN.out]
        have HSL := Lib.hid hsl
        have hro : S.map (fun i => (l.getD i.toNat zVw).1) = R := by rw [← HR.out]; exact srt_vord HFF.out (by rw [HF.out]; exact hsrt)
        have HRO := Lib.hid hro
        have HOS := Lib.hid (show ∀ x ∈ S, okI l f x from fun x hx => HOKI.out x (hsrt.1.mem_iff.1 hx))
        clear hs hsl hro hsrt C
        go_wp2_with fail
        go_loopw [31] (fun i wq => ∃ k : Nat, k ≤ n ∧ i = .int .i64 k ∧ Hid (SX w1.heap.size wo g 0 wq ((S.take k).map (idI l) ++ S.drop k))) (fun i _ => n - (intOf i).toNat)
        case atStart => exact ⟨0, Nat.zero_le _, rfl, HS2.out⟩
        case round =>
          obtain ⟨k, hk, rfl, HS3⟩ := hrel
          clear HS2
          by_cases hlt2 : k < n
          · obtain ⟨m1, m2, m3⟩ := ids_mid l S k (by have := HSL.out; omega)
            have hmem : S.getD k 0 ∈ S := gd_mem (by have := HSL.out; omega)
            obtain ⟨ox1, ox2, _⟩ := HOS.out _ hmem
            obtain ⟨j, hj⟩ : ∃ j : Nat, S.getD k 0 = (j : Int) := ⟨(S.getD k 0).toNat, by omega⟩
            rw [hj] at m2 m3 ox2
            have hjl : j < l.length := by have := ox2; omega
            have hb9 : Below w1.heap.size w1 wr := HB.out.trans HS3.out.bel
            obtain ⟨b2, off, rfl, hB, p0, p1, p2, p3, p4, p5, p6⟩ := (HV.out.below hb9).at hjl
            have hbx : wr.cell? ⟨w.heap.size, 0, none⟩ = some (.slice (some ⟨b2, off, none⟩) l.length c) := (hb9.cell (p := ⟨w.heap.size, 0, none⟩) (by show w.heap.size < w1.heap.size; have := HS1.out; omega)).trans HC0.out
            obtain ⟨d, hd⟩ : ∃ d, (S.take k).map (idI l) ++ S.drop k = d := ⟨_, rfl⟩
            rw [hd] at HS3 m1 m2 m3
            have r0 := HS3.out.c m1
            have f0 := HS3.out.f m1
            rw [Nat.zero_add] at r0 f0
            rw [m2] at r0
            obtain ⟨z, hz⟩ : ∃ z, idI l (j : Int) = z := ⟨_, rfl⟩
            have hz2 : (l.getD j zVw).1 = z := by rw [← hz]; unfold idI; rw [Int.toNat_natCast]
            rw [hz] at m3
            rw [hz2] at p0
            have HS5 := sx_set HS3.out m1 z
            rw [m3, Nat.zero_add] at HS5
            have HS6 := Lib.hid HS5
            clear HS5 hd hz hz2 m1 m2 m3 hmem ox1 ox2 hj hB hb9 HS3 p1 p2 p3 p4 p5 p6
            go_wp2_with fail
            go_roundw
            case rel => exact ⟨k + 1, by omega, by go_num, HS6⟩
            case measure => simp [intOf]; omega
          · obtain rfl : k = n := by omega
            have h1 := HS3.out
            have e1 : (S.take k).map (idI l) ++ S.drop k = R := by
              rw [← HRO.out, List.take_of_length_le (by have := HSL.out; omega), List.drop_eq_nil_of_le (by have := HSL.out; omega), List.append_nil]
              rfl
            rw [e1] at h1
            have hrl : R.length = k := by rw [← HRO.out, List.length_map]; exact HSL.out
            have hzs : Zs wr (.slice (some ⟨g, 0, none⟩) k cx) R := ⟨by have := HNN.out; omega, .inr ⟨g, 0, cx, by rw [hrl], by have := HCP.out; have := HNN.out; omega, fun i hi => h1.c hi⟩⟩
            have HZS := Lib.hid hzs
            have HBX := Lib.hid (HB0.out.trans ((HB.out.trans h1.bel).mono HB0.out.size))
            clear h1 hrl hzs e1
            go_wp2_with fail
            go_ret
            exact ⟨_, rfl, HZS.out, HBX.out⟩
set_option maxHeartbeats 4000000 in
theorem vbel_any (v : Value) (l : List Vw) (own : Hx) (w : World) (hv : Vs w v l) (hl : l.length ≤ 1000) :
    Calls Try.prog 27 #[v, hxV own] w fun e w' => ∃ r, e = .returned r ∧ Zs w' r (belV l own) ∧ Below w.heap.size w w' := by
  obtain ⟨w1, hw1⟩ : ∃ w1, w.alloc (.cells #[.bool own.1, .int .i64 own.2.1, .int .i64 own.2.2.1, .int .i64 own.2.2.2.1, .int .i64 own.2.2.2.2.1, .int .i64 own.2.2.2.2.2] 24) = w1 := ⟨_, rfl⟩
  have hb0 : Below w.heap.size w w1 := hw1 ▸ (Below.refl _ w).alloc (Nat.le_refl _) _
  have ov : Own6 w1 w.heap.size own.1 own.2.1 own.2.2.1 own.2.2.2.1 own.2.2.2.2.1 own.2.2.2.2.2 := hw1 ▸ own6_alloc w own.1 own.2.1 own.2.2.1 own.2.2.2.1 own.2.2.2.2.1 own.2.2.2.2.2 24 w.heap.size rfl
  have hlt : w.heap.size < w1.heap.size := World.block_lt_of_cell? w1 _ ov.1.1
  have C := Lib.hid (vupwB_any v l (fun x => lsx x own) (fun x h => by have h1 := (lsx_iff _ _).1 h; exact h1.1) (.pointer (some ⟨w.heap.size, 0, none⟩)) w1 (hv.below hb0) hl (fun x W hb => vbel1_any x own w.heap.size W (ov.below hb).1 (Nat.lt_of_lt_of_le hlt hb.size)))
  obtain ⟨R, hR⟩ : ∃ R, belV l own = R := ⟨_, rfl⟩
  rw [hR]
  have hC : (vordL (l.filter (fun y => lsx y.2 own))).map (·.1) = R := hR
  rw [hC] at C
  have HB0 := Lib.hid hb0
  have HW1 := Lib.hid hw1
  obtain ⟨a, c, rfl⟩ := hv.form
  clear hv hb0 hw1 ov hlt hR hC
  go_enter Try.func27, Try.ntmps27
  go_upto_region 1 with (fail)
  rw [HW1.out]
  go_wp2_with fail
  refine C.out.mono ?_
  rintro e w2 ⟨r, rfl, hz, hb⟩
  have HZ := Lib.hid hz
  have HB := Lib.hid (HB0.out.trans (hb.mono HB0.out.size))
  clear hz hb
  go_wp2_with fail
  go_ret
  exact ⟨_, rfl, HZ.out, HB.out⟩
set_option maxHeartbeats 4000000 in
theorem vabo_any (v : Value) (l : List Vw) (own : Hx) (w : World) (hv : Vs w v l) (hl : l.length ≤ 1000) :
    Calls Try.prog 28 #[v, hxV own] w fun e w' => ∃ r, e = .returned r ∧ Zs w' r (aboV l own) ∧ Below w.heap.size w w' := by
  obtain ⟨w1, hw1⟩ : ∃ w1, w.alloc (.cells #[.bool own.1, .int .i64 own.2.1, .int .i64 own.2.2.1, .int .i64 own.2.2.2.1, .int .i64 own.2.2.2.2.1, .int .i64 own.2.2.2.2.2] 24) = w1 := ⟨_, rfl⟩
  have hb0 : Below w.heap.size w w1 := hw1 ▸ (Below.refl _ w).alloc (Nat.le_refl _) _
  have ov : Own6 w1 w.heap.size own.1 own.2.1 own.2.2.1 own.2.2.2.1 own.2.2.2.2.1 own.2.2.2.2.2 := hw1 ▸ own6_alloc w own.1 own.2.1 own.2.2.1 own.2.2.2.1 own.2.2.2.2.1 own.2.2.2.2.2 24 w.heap.size rfl
  have hlt : w.heap.size < w1.heap.size := World.block_lt_of_cell? w1 _ ov.1.1
  have C := Lib.hid (vupwA_any v l (fun x => lsx own x) (fun x h => by have h1 := (lsx_iff _ _).1 h; exact h1.2.1) (.pointer (some ⟨w.heap.size, 0, none⟩)) w1 (hv.below hb0) hl (fun x W hb => vabo1_any x own w.heap.size W (ov.below hb).1 (Nat.lt_of_lt_of_le hlt hb.size)))
  obtain ⟨R, hR⟩ : ∃ R, aboV l own = R := ⟨_, rfl⟩
  rw [hR]
  have hC : (vordL (l.filter (fun y => lsx own y.2))).map (·.1) = R := hR
  rw [hC] at C
  have HB0 := Lib.hid hb0
  have HW1 := Lib.hid hw1
  obtain ⟨a, c, rfl⟩ := hv.form
  clear hv hb0 hw1 ov hlt hR hC
  go_enter Try.func28, Try.ntmps28
  go_upto_region 1 with (fail)
  rw [HW1.out]
  go_wp2_with fail
  refine C.out.mono ?_
  rintro e w2 ⟨r, rfl, hz, hb⟩
  have HZ := Lib.hid hz
  have HB := Lib.hid (HB0.out.trans (hb.mono HB0.out.size))
  clear hz hb
  go_wp2_with fail
  go_ret
  exact ⟨_, rfl, HZ.out, HB.out⟩
end Go.Proofs.Ytmimgpnogjgliaa
