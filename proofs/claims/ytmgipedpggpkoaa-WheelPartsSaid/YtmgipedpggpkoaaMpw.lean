/- A map that is made once, in a field beside its Once. -/
import Derived.Test.YtmgipedpggpkoaaOnc
import Derived.Maps.Own
import Derived.Maps.OwnOps
import Derived.Maps.OwnSet
namespace Go.Proofs.Ytmgipedpggpkoaa
set_option maxRecDepth 100000
open Go.RowKit Go.Maps

/-- The wheel's own cells at block b: its Once, the map's block where it has been made. -/
structure WQ (w : World) (b : Nat) (o : Option Nat) : Prop where
  c0 : w.cell? ⟨b, 0, none⟩ = some (.int .u32 (if o.isSome then 1 else 0))
  c1 : w.cell? ⟨b, 1, none⟩ = some (.int .i32 0)
  c3 : w.cell? ⟨b, 3, none⟩ = some (.map o)
  fz : ∀ j, w.frozen? ⟨b, j, none⟩ = false
theorem WQ.lt {w : World} {b : Nat} {o : Option Nat} (h : WQ w b o) : b < w.heap.size := World.block_lt_of_cell? w _ h.c0
theorem WQ.chg {F : Nat → Prop} {w w' : World} {b : Nat} {o : Option Nat} (h : WQ w b o) (hc : Chg F w w') (hn : ¬ F b) : WQ w' b o :=
  ⟨(hc.cell h.lt hn).trans h.c0, (hc.cell h.lt hn).trans h.c1, (hc.cell h.lt hn).trans h.c3, fun j => (hc.frozen h.lt hn).trans (h.fz j)⟩
/-- A map of the program's own: it reads as D. -/
def MapI (w : World) (bm n : Nat) (D : DataW Unit) : Prop := w.ownsMap Try.prog 3 (plainElem Try.prog 3) bm n D
theorem MapI.chg {F : Nat → Prop} {w w' : World} {bm n : Nat} {D : DataW Unit} (h : MapI w bm n D) (hc : Chg F w w') (hn : ¬ F bm) : MapI w' bm n D := by
  obtain ⟨es, clock, h1, h2⟩ := h
  exact ⟨es, clock, (hc.block bm (Array.getElem?_eq_some_iff.1 h1).1 hn).trans h1, h2⟩
theorem times_old (b bm : Nat) (w : World) (h : WQ w b (some bm)) : Calls Try.prog 21 #[.pointer (some ⟨b, 0, none⟩)] w fun e w' => e = .returned (.map (some bm)) ∧ Below w.heap.size w w' := by
  obtain ⟨w1, hw1⟩ : ∃ w1, w.alloc (.cells #[.pointer (some ⟨b, 0, none⟩)] 23) = w1 := ⟨_, rfl⟩
  have hb1 : Below w.heap.size w w1 := hw1 ▸ (Below.refl _ w).alloc (Nat.le_refl _) _
  have h1 := h.chg (F := fun _ => False) (chg0 hb1) (fun h => h)
  have C1 := Lib.hid (fun fv => once_done ⟨b, 0, none⟩ fv w1 h1.c0)
  have HB := Lib.hid hb1
  have c3 := h1.c3
  have p0 : w1.cell? ⟨w.heap.size, 0, none⟩ = some (.pointer (some ⟨b, 0, none⟩)) := by rw [← hw1]; simp
  have hmf : ∀ (fn : Fn) (first cap : Array Value) (w : World), (Instr.makeFunc fn first cap).run Try.prog w = .ok (.func fn first cap) w := fun _ _ _ _ => rfl
  clear h hb1 h1
  go_enter Try.func21, Try.ntmps21
  go_upto_region 1 with (fail)
  clear hw1
  go_wp2_with (go_at_call 25; refine (C1.out _).mono ?_; rintro e w2 ⟨rfl, rfl⟩)
  go_ret
  exact ⟨rfl, HB.out⟩
theorem cl_any (b g : Nat) (w : World) (hp : w.cell? ⟨g, 0, none⟩ = some (.pointer (some ⟨b, 0, none⟩))) (c3 : w.cell? ⟨b, 3, none⟩ = some (.map none)) (f3 : w.frozen? ⟨b, 3, none⟩ = false) :
    Calls Try.prog 26 #[.pointer (some ⟨g, 0, none⟩)] w fun e w' => e = .returned (.tuple #[]) ∧ w' = (w.setCell ⟨b, 3, none⟩ (.map (some w.heap.size))).alloc (.map #[] 0) := by
  have hmm := @run_makeMap Try.prog
  have hb : b < w.heap.size := World.block_lt_of_cell? w _ c3
  have hbel : Below w.heap.size w (w.alloc (.map #[] 0)) := (Below.refl _ w).alloc (Nat.le_refl _) _
  have c4 : (w.alloc (.map #[] 0)).cell? ⟨b, 3, none⟩ = some (.map none) := (hbel.cell (p := ⟨b, 3, none⟩) hb).trans c3
  have f4 : (w.alloc (.map #[] 0)).frozen? ⟨b, 3, none⟩ = false := (hbel.frozen (p := ⟨b, 3, none⟩) hb).trans f3
  clear hbel
  go_enter Try.func26, Try.ntmps26
  go_wp2_with fail
  go_end0
  exact ⟨rfl, rfl⟩
theorem times_new (b : Nat) (w : World) (h : WQ w b none) : Calls Try.prog 21 #[.pointer (some ⟨b, 0, none⟩)] w fun e w' => ∃ bm, e = .returned (.map (some bm)) ∧ WQ w' b (some bm) ∧ MapI w' bm 0 (.map []) ∧ w.heap.size ≤ bm ∧ Chg (fun k => k = b) w w' := by
  obtain ⟨w1, hw1⟩ : ∃ w1, w.alloc (.cells #[.pointer (some ⟨b, 0, none⟩)] 23) = w1 := ⟨_, rfl⟩
  have hb1 : Below w.heap.size w w1 := hw1 ▸ (Below.refl _ w).alloc (Nat.le_refl _) _
  have h1 := h.chg (F := fun _ => False) (chg0 hb1) (fun h => h)
  have p0 : w1.cell? ⟨w.heap.size, 0, none⟩ = some (.pointer (some ⟨b, 0, none⟩)) := by rw [← hw1]; simp
  have hs1 : w1.heap.size = w.heap.size + 1 := by rw [← hw1]; simp
  have hbs : b < w.heap.size := h.lt
  -- the world in which the function is called
  obtain ⟨w2, hw2⟩ : ∃ w2, w1.setCell ⟨b, 1, none⟩ (.int .i32 1) = w2 := ⟨_, rfl⟩
  have hg2 : Chg (fun k => k = b) w1 w2 := hw2 ▸ Chg.setCell (F := fun k => k = b) (p := ⟨b, 1, none⟩) (Chg.refl _ w1) (.inl rfl) _
  have hs2 : w2.heap.size = w1.heap.size := by rw [← hw2]; simp [World.setCell]
  have p2 : w2.cell? ⟨w.heap.size, 0, none⟩ = some (.pointer (some ⟨b, 0, none⟩)) := (hg2.cell (by omega) (by omega)).trans p0
  have d0 : w2.cell? ⟨b, 0, none⟩ = some (.int .u32 0) := hw2 ▸ (World.cell?_setCell_other _ _ _ _ (by simp)).trans h1.c0
  have d1 : w2.cell? ⟨b, 1, none⟩ = some (.int .i32 1) := hw2 ▸ World.cell?_setCell_same w1 _ _ h1.c1
  have d3 : w2.cell? ⟨b, 3, none⟩ = some (.map none) := hw2 ▸ (World.cell?_setCell_other _ _ _ _ (by simp)).trans h1.c3
  have e2 : ∀ j, w2.frozen? ⟨b, j, none⟩ = false := fun j => by rw [← hw2]; simp [go_sem, h1.fz]
  -- the map, and its block laid into the field
  have hlt2 : b < w2.heap.size := by omega
  obtain ⟨u, hu⟩ : ∃ u, w2.setCell ⟨b, 3, none⟩ (.map (some w2.heap.size)) = u := ⟨_, rfl⟩
  have hus : u.heap.size = w2.heap.size := by rw [← hu]; simp [World.setCell]
  have hgu : Chg (fun k => k = b) w2 u := hu ▸ Chg.setCell (F := fun k => k = b) (p := ⟨b, 3, none⟩) (Chg.refl _ w2) (.inl rfl) _
  have hb3 : Below u.heap.size u (u.alloc (.map #[] 0)) := (Below.refl _ u).alloc (Nat.le_refl _) _
  have hltu : b < u.heap.size := by omega
  obtain ⟨w3, hw3⟩ : ∃ w3, u.alloc (.map #[] 0) = w3 := ⟨_, rfl⟩
  have hg3 : Chg (fun k => k = b) w2 w3 := hw3 ▸ hgu.alloc _
  rw [hw3] at hb3
  have x0 : w3.cell? ⟨b, 0, none⟩ = some (.int .u32 0) := (hb3.cell (p := ⟨b, 0, none⟩) hltu).trans (hu ▸ (World.cell?_setCell_other _ _ _ _ (by simp)).trans d0)
  have x1 : w3.cell? ⟨b, 1, none⟩ = some (.int .i32 1) := (hb3.cell (p := ⟨b, 1, none⟩) hltu).trans (hu ▸ (World.cell?_setCell_other _ _ _ _ (by simp)).trans d1)
  have x3 : w3.cell? ⟨b, 3, none⟩ = some (.map (some w2.heap.size)) := (hb3.cell (p := ⟨b, 3, none⟩) hltu).trans (hu ▸ World.cell?_setCell_same _ _ _ d3)
  have xf : ∀ j, w3.frozen? ⟨b, j, none⟩ = false := fun j => by
    refine (hb3.frozen (p := ⟨b, j, none⟩) hltu).trans ?_
    rw [← hu, World.frozen?_setCell]
    exact e2 j
  have hm3 : MapI w3 w2.heap.size 0 (.map []) := by
    have hm : MapI (u.alloc (.map #[] 0)) u.heap.size 0 (.map []) := World.ownsMap_made u _ _ _
    rw [hw3, hus] at hm
    exact hm
  have hcl := cl_any b w.heap.size w2 p2 d3 (e2 3)
  rw [hu, hw3] at hcl
  have C1 := Lib.hid (once_first b 0 (.pointer (some ⟨w.heap.size, 0, none⟩)) w1 (fun w' => w' = w3) h1.c0 h1.c1 (h1.fz 1) (by
    rw [show (0 + 1 : Nat) = 1 from rfl, hw2]
    refine hcl.mono ?_
    rintro e w' ⟨rfl, rfl⟩
    exact ⟨rfl, ⟨x0, x1, xf 0, xf 1⟩, rfl⟩))
  -- behind it
  obtain ⟨w4, hw4⟩ : ∃ w4, onceEnd w3 b 0 = w4 := ⟨_, rfl⟩
  have hg4 : Chg (fun k => k = b) w3 w4 := hw4 ▸ Chg.setCell (F := fun k => k = b) (p := ⟨b, 1, none⟩) (Chg.setCell (F := fun k => k = b) (p := ⟨b, 0, none⟩) ((Chg.refl _ w3).drew) (.inl rfl) _) (.inl rfl) _
  have y0 : w4.cell? ⟨b, 0, none⟩ = some (.int .u32 1) := hw4 ▸ (World.cell?_setCell_other _ _ _ _ (by simp)).trans (World.cell?_setCell_same w3.drew _ _ x0)
  have y1 : w4.cell? ⟨b, 1, none⟩ = some (.int .i32 0) := hw4 ▸ World.cell?_setCell_same _ _ _ ((World.cell?_setCell_other _ _ _ _ (by simp)).trans (show w3.drew.cell? ⟨b, 1, none⟩ = some (.int .i32 1) from x1))
  have y3 : w4.cell? ⟨b, 3, none⟩ = some (.map (some w2.heap.size)) := hw4 ▸ (World.cell?_setCell_other _ _ _ _ (by simp)).trans ((World.cell?_setCell_other _ _ _ _ (by simp)).trans (show w3.drew.cell? ⟨b, 3, none⟩ = some (.map (some w2.heap.size)) from x3))
  have yf : ∀ j, w4.frozen? ⟨b, j, none⟩ = false := fun j => by rw [← hw4]; simp [onceEnd, go_sem, xf]
  have hq4 : Hid (WQ w4 b (some w2.heap.size)) := ⟨y0, y1, y3, yf⟩
  have hm4 : Hid (MapI w4 w2.heap.size 0 (.map [])) := hm3.chg hg4 (by omega)
  have hg : Hid (Chg (fun k => k = b) w w4) := (((chg0 hb1).trans (G := fun k => k = b) hg2 (fun _ _ h => h)).trans hg3 (fun _ _ h => h)).trans hg4 (fun _ _ h => h)
  have p4 : w4.cell? ⟨w.heap.size, 0, none⟩ = some (.pointer (some ⟨b, 0, none⟩)) := (hg4.cell (Nat.lt_of_lt_of_le (by omega) hg3.size) (by omega)).trans ((hg3.cell (by omega) (by omega)).trans p2)
  have HSZ : Hid (w.heap.size ≤ w2.heap.size) := by show _ ≤ _; omega
  have hmf : ∀ (fn : Fn) (first cap : Array Value) (w : World), (Instr.makeFunc fn first cap).run Try.prog w = .ok (.func fn first cap) w := fun _ _ _ _ => rfl
  clear h h1 hb1 hs1 hg2 hs2 p2 d0 d1 d3 e2 hb3 hg3 x0 x1 x3 xf hm3 hcl hg4 y0 y1 yf hlt2 hw2 hw3 hu hus hgu hltu
  go_enter Try.func21, Try.ntmps21
  go_upto_region 1 with (fail)
  clear hw1
  go_wp2_with (go_at_call 25; refine C1.out.mono ?_; rintro e w9 ⟨rfl, w8, -, hw8, hw9⟩; rw [hw8, hw4] at hw9; subst hw9; clear p0 hw4)
  go_ret
  exact ⟨_, rfl, hq4.out, hm4.out, HSZ.out, hg.out⟩
end Go.Proofs.Ytmgipedpggpkoaa
