/- A height read out of bytes. No conditions. -/
import Derived.Test.YtkgckmlphfafjaaFrm
import Derived.StillTailTactics
namespace Go.Proofs.Ytkgckmlphfafjaa
open Go.RowKit Go.Sort

/-- The reader: its bytes, its place, its error. -/
def Rd (w : World) (b : Nat) (v : Value) (at' e : Int) : Prop :=
  w.cell? ⟨b, 0, none⟩ = some v ∧ w.cell? ⟨b, 1, none⟩ = some (.int .i64 at') ∧ w.cell? ⟨b, 2, none⟩ = some (.int .i64 e) ∧ ∀ k, w.frozen? ⟨b, k, none⟩ = false

/-- Nothing but one block has turned. -/
structure Only (b : Nat) (w w' : World) : Prop where
  os : w'.os = w.os
  tape : w'.tape = w.tape
  output : w'.output = w.output
  size : w'.heap.size = w.heap.size
  block : ∀ k, k ≠ b → w'.heap[k]? = w.heap[k]?
theorem Only.trans {b : Nat} {w1 w2 w3 : World} (h : Only b w1 w2) (h' : Only b w2 w3) : Only b w1 w3 :=
  ⟨h'.os.trans h.os, h'.tape.trans h.tape, h'.output.trans h.output, h'.size.trans h.size, fun k hk => (h'.block k hk).trans (h.block k hk)⟩
theorem Only.below {b B : Nat} {w w' : World} (h : Only b w w') (hB : B ≤ b) : Below B w w' :=
  ⟨h.os, h.tape, h.output, Nat.le_of_eq h.size.symm, fun k hk => h.block k (by omega)⟩
theorem setCell_size (w : World) (p : Addr) (u : Value) : (w.setCell p u).heap.size = w.heap.size := by simp
theorem Only.set {b : Nat} {w w' : World} (h : Only b w w') (j : Nat) (u : Value) : Only b w (w'.setCell ⟨b, j, none⟩ u) := by
  have hb : Below b w' (w'.setCell ⟨b, j, none⟩ u) := (Below.refl b w').setCell (Nat.le_refl _) u
  exact ⟨hb.os.trans h.os, hb.tape.trans h.tape, hb.output.trans h.output, (setCell_size _ _ _).trans h.size, fun k hk => (Below.heap_setCell w' ⟨b, j, none⟩ u k hk).trans (h.block k hk)⟩
theorem Only.set2 {b : Nat} {w w' : World} (h : Only b w w') (x y : Value) : Only b w ((w'.setCell ⟨b, 1, none⟩ x).setCell ⟨b, 2, none⟩ y) := (h.set 1 x).set 2 y
theorem Only.cell {b : Nat} {w w' : World} (h : Only b w w') {p : Addr} (hp : p.block ≠ b) : w'.cell? p = w.cell? p := World.cell?_of_block (w := w) (h.block p.block hp)
theorem Only.frozen {b : Nat} {w w' : World} (h : Only b w w') {p : Addr} (hp : p.block ≠ b) : w'.frozen? p = w.frozen? p := World.frozen?_of_block (w := w) (h.block p.block hp)
theorem Own6.only {w w' : World} {b g : Nat} {n : Bool} {t o r d i : Int} (h : Own6 w g n t o r d i) (ho : Only b w w') (hg : g ≠ b) : Own6 w' g n t o r d i := by
  obtain ⟨⟨h0, h1, h2, h3, h4, h5⟩, hf⟩ := h
  exact ⟨⟨(ho.cell (p := ⟨g, 0, none⟩) hg).trans h0, (ho.cell (p := ⟨g, 1, none⟩) hg).trans h1, (ho.cell (p := ⟨g, 2, none⟩) hg).trans h2, (ho.cell (p := ⟨g, 3, none⟩) hg).trans h3, (ho.cell (p := ⟨g, 4, none⟩) hg).trans h4, (ho.cell (p := ⟨g, 5, none⟩) hg).trans h5⟩, fun k => (ho.frozen (p := ⟨g, k, none⟩) hg).trans (hf k)⟩
theorem Rd.set {w : World} {b : Nat} {v : Value} {x y : Int} (h : Rd w b v x y) (x' y' : Int) : Rd ((w.setCell ⟨b, 1, none⟩ (.int .i64 x')).setCell ⟨b, 2, none⟩ (.int .i64 y')) b v x' y' := by
  obtain ⟨h0, h1, h2, hf⟩ := h
  refine ⟨?_, ?_, ?_, fun k => ?_⟩ <;> simp [go_sem, h0, h1, h2, hf]

def shortS (xs : List Int) (s : Int × Int) : Int × Int × Int := if s.2 = 0 then getS xs s.1 1 else (0, s)
def longS (xs : List Int) (s : Int × Int) : Int × Int × Int := if s.2 = 0 then getIntS xs s.1 else (0, s)

set_option maxHeartbeats 4000000 in
theorem step_ok (b : Nat) (v : Value) (at' : Int) (x y z : Int) (w : World) (h : Rd w b v at' 0) :
    Calls Try.prog 47 #[.pointer (some ⟨b, 0, none⟩), .int .i64 x, .int .i64 y, .int .i64 z] w fun e w' => e = .returned (.int .i64 x) ∧ w' = (w.setCell ⟨b, 1, none⟩ (.int .i64 y)).setCell ⟨b, 2, none⟩ (.int .i64 z) := by
  obtain ⟨h0, h1, h2, hf⟩ := h
  go_enter Try.func47, Try.ntmps47
  go_wp2_with fail
  go_ret
  exact ⟨rfl, rfl⟩
set_option maxHeartbeats 4000000 in
theorem step_no (b : Nat) (v : Value) (at' e0 : Int) (x y z : Int) (w : World) (h : Rd w b v at' e0) (he : e0 ≠ 0) :
    Calls Try.prog 47 #[.pointer (some ⟨b, 0, none⟩), .int .i64 x, .int .i64 y, .int .i64 z] w fun e w' => e = .returned (.int .i64 0) ∧ w' = w := by
  obtain ⟨h0, h1, h2, hf⟩ := h
  have hne : (e0 == 0) = false := by simpa using he
  have HE := Lib.hid he
  clear he
  go_enter Try.func47, Try.ntmps47
  go_wp2_with fail
  go_ret
  exact ⟨rfl, rfl⟩



set_option maxHeartbeats 4000000 in
theorem short_any (b : Nat) (v : Value) (at' e0 : Int) (xs : List Int) (w : World) (h : Rd w b v at' e0) (hv : Bs w v xs) :
    Calls Try.prog 41 #[.pointer (some ⟨b, 0, none⟩)] w fun e w' => e = .returned (.int .i64 (shortS xs (at', e0)).1) ∧ Rd w' b v (shortS xs (at', e0)).2.1 (shortS xs (at', e0)).2.2 ∧ Only b w w' := by
  have hR := h
  have CG : ∀ w, Bs w v xs → Calls Try.prog 48 #[v, .int .i64 at', .int .i64 1] w fun e w' => e = .returned (tri (getS xs at' 1)) ∧ w = w' := fun w hv => get_any v xs at' 1 w hv
  replace CG : Calls Try.prog 48 #[v, .int .i64 at', .int .i64 1] w.drew fun e w' => e = .returned (tri (getS xs at' 1)) ∧ w.drew = w' := CG w.drew hv
  obtain ⟨h0, h1, h2, hf⟩ := h
  obtain ⟨g1, g2, g3, hg⟩ : ∃ g1 g2 g3, getS xs at' 1 = (g1, g2, g3) := ⟨_, _, _, rfl⟩
  simp only [hg, tri] at CG
  by_cases he : e0 = 0
  · subst he
    have hs : shortS xs (at', 0) = (g1, (g2, g3)) := by simp [shortS, hg]
    rw [hs]
    clear hs hg
    go_enter Try.func41, Try.ntmps41
    go_wp2_with fail
    refine wp_region_still_tail 13 (by kernel_rfl) (by kernel_rfl) ?_
    simp only [List.take_succ_cons, List.take_zero, List.drop_succ_cons, List.drop_zero]
    iterate 9 still_step
    still_call (CG.mono fun e w' ⟨he, hw⟩ => ⟨he, hw.symm⟩)
    iterate 3 still_step
    refine wpStill_nil ?_
    change wpList _ _ _ _ _ w.drew
    have hR2 : Rd w.drew b v at' 0 := hR
    have hO : Only b w w.drew := ⟨rfl, rfl, rfl, rfl, fun _ _ => rfl⟩
    clear hR hv CG h0 h1 h2 hf
    generalize w.drew = w2 at *
    go_wp2_with (go_at_call 47; refine (step_ok b v at' _ _ _ _ hR2).mono ?_; rintro e w' ⟨rfl, rfl⟩)
    go_ret
    exact ⟨rfl, hR2.set _ _, hO.set2 _ _⟩
  · have hs : shortS xs (at', e0) = (0, (at', e0)) := by simp [shortS, he]
    rw [hs]
    have HE := Lib.hid he
    clear hs hg he
    go_enter Try.func41, Try.ntmps41
    go_wp2_with fail
    refine wp_region_still_tail 13 (by kernel_rfl) (by kernel_rfl) ?_
    simp only [List.take_succ_cons, List.take_zero, List.drop_succ_cons, List.drop_zero]
    iterate 9 still_step
    still_call (CG.mono fun e w' ⟨he, hw⟩ => ⟨he, hw.symm⟩)
    iterate 3 still_step
    refine wpStill_nil ?_
    change wpList _ _ _ _ _ w.drew
    have hR2 : Rd w.drew b v at' e0 := hR
    have hO : Only b w w.drew := ⟨rfl, rfl, rfl, rfl, fun _ _ => rfl⟩
    clear hR hv CG h0 h1 h2 hf
    generalize w.drew = w2 at *
    go_wp2_with (go_at_call 47; refine (step_no b v at' e0 _ _ _ _ hR2 HE.out).mono ?_; rintro e w' ⟨rfl, rfl⟩)
    go_ret
    exact ⟨rfl, hR2, hO⟩

set_option maxHeartbeats 4000000 in
theorem long_any (b : Nat) (v : Value) (at' e0 : Int) (xs : List Int) (w : World) (h : Rd w b v at' e0) (hv : Bs w v xs) :
    Calls Try.prog 42 #[.pointer (some ⟨b, 0, none⟩)] w fun e w' => e = .returned (.int .i64 (longS xs (at', e0)).1) ∧ Rd w' b v (longS xs (at', e0)).2.1 (longS xs (at', e0)).2.2 ∧ Only b w w' := by
  have hR := h
  have CG : ∀ w, Bs w v xs → Calls Try.prog 49 #[v, .int .i64 at'] w fun e w' => e = .returned (tri (getIntS xs at')) ∧ w = w' := fun w hv => getInt_any v xs at' w hv
  replace CG : Calls Try.prog 49 #[v, .int .i64 at'] w.drew fun e w' => e = .returned (tri (getIntS xs at')) ∧ w.drew = w' := CG w.drew hv
  obtain ⟨h0, h1, h2, hf⟩ := h
  obtain ⟨g1, g2, g3, hg⟩ : ∃ g1 g2 g3, getIntS xs at' = (g1, g2, g3) := ⟨_, _, _, rfl⟩
  simp only [hg, tri] at CG
  by_cases he : e0 = 0
  · subst he
    have hs : longS xs (at', 0) = (g1, (g2, g3)) := by simp [longS, hg]
    rw [hs]
    clear hs hg
    go_enter Try.func42, Try.ntmps42
    go_wp2_with fail
    refine wp_region_still_tail 13 (by kernel_rfl) (by kernel_rfl) ?_
    simp only [List.take_succ_cons, List.take_zero, List.drop_succ_cons, List.drop_zero]
    iterate 9 still_step
    still_call (CG.mono fun e w' ⟨he, hw⟩ => ⟨he, hw.symm⟩)
    iterate 3 still_step
    refine wpStill_nil ?_
    change wpList _ _ _ _ _ w.drew
    have hR2 : Rd w.drew b v at' 0 := hR
    have hO : Only b w w.drew := ⟨rfl, rfl, rfl, rfl, fun _ _ => rfl⟩
    clear hR hv CG h0 h1 h2 hf
    generalize w.drew = w2 at *
    go_wp2_with (go_at_call 47; refine (step_ok b v at' _ _ _ _ hR2).mono ?_; rintro e w' ⟨rfl, rfl⟩)
    go_ret
    exact ⟨rfl, hR2.set _ _, hO.set2 _ _⟩
  · have hs : longS xs (at', e0) = (0, (at', e0)) := by simp [longS, he]
    rw [hs]
    have HE := Lib.hid he
    clear hs hg he
    go_enter Try.func42, Try.ntmps42
    go_wp2_with fail
    refine wp_region_still_tail 13 (by kernel_rfl) (by kernel_rfl) ?_
    simp only [List.take_succ_cons, List.take_zero, List.drop_succ_cons, List.drop_zero]
    iterate 9 still_step
    still_call (CG.mono fun e w' ⟨he, hw⟩ => ⟨he, hw.symm⟩)
    iterate 3 still_step
    refine wpStill_nil ?_
    change wpList _ _ _ _ _ w.drew
    have hR2 : Rd w.drew b v at' e0 := hR
    have hO : Only b w w.drew := ⟨rfl, rfl, rfl, rfl, fun _ _ => rfl⟩
    clear hR hv CG h0 h1 h2 hf
    generalize w.drew = w2 at *
    go_wp2_with (go_at_call 47; refine (step_no b v at' e0 _ _ _ _ hR2 HE.out).mono ?_; rintro e w' ⟨rfl, rfl⟩)
    go_ret
    exact ⟨rfl, hR2, hO⟩
/-- What Parse answers. -/
theorem Only.refl (b : Nat) (w : World) : Only b w w := ⟨rfl, rfl, rfl, rfl, fun _ _ => rfl⟩
theorem Rd.only {w w' : World} {b g : Nat} {v : Value} {x y : Int} (h : Rd w g v x y) (ho : Only b w w') (hg : g ≠ b) : Rd w' g v x y :=
  ⟨(ho.cell (p := ⟨g, 0, none⟩) hg).trans h.1, (ho.cell (p := ⟨g, 1, none⟩) hg).trans h.2.1, (ho.cell (p := ⟨g, 2, none⟩) hg).trans h.2.2.1, fun k => (ho.frozen (p := ⟨g, k, none⟩) hg).trans (h.2.2.2 k)⟩
theorem Rd.below {w w' : World} {g : Nat} {v : Value} {x y : Int} (h : Rd w g v x y) (hb : Below w.heap.size w w') : Rd w' g v x y := by
  have hl := World.block_lt_of_cell? w _ h.1
  exact ⟨(hb.cell (p := ⟨g, 0, none⟩) hl).trans h.1, (hb.cell (p := ⟨g, 1, none⟩) hl).trans h.2.1, (hb.cell (p := ⟨g, 2, none⟩) hl).trans h.2.2.1, fun k => (hb.frozen (p := ⟨g, k, none⟩) hl).trans (h.2.2.2 k)⟩
theorem Own6.setn {w : World} {g : Nat} {n : Bool} {t o r d i : Int} (h : Own6 w g n t o r d i) (m : Bool) : Own6 (w.setCell ⟨g, 0, none⟩ (.bool m)) g m t o r d i := by
  obtain ⟨⟨h0, h1, h2, h3, h4, h5⟩, hf⟩ := h
  refine ⟨⟨?_, ?_, ?_, ?_, ?_, ?_⟩, fun k => ?_⟩ <;> simp [go_sem, h0, h1, h2, h3, h4, h5, hf]
theorem Own6.seti {w : World} {g : Nat} {n : Bool} {t o r d i : Int} (h : Own6 w g n t o r d i) (m : Int) : Own6 (w.setCell ⟨g, 5, none⟩ (.int .i64 m)) g n t o r d m := by
  obtain ⟨⟨h0, h1, h2, h3, h4, h5⟩, hf⟩ := h
  refine ⟨⟨?_, ?_, ?_, ?_, ?_, ?_⟩, fun k => ?_⟩ <;> simp [go_sem, h0, h1, h2, h3, h4, h5, hf]
theorem Own6.set {w : World} {g : Nat} {m : Bool} {x1 x2 x3 x4 x5 : Int} (h : Own6 w g m x1 x2 x3 x4 x5) (n : Bool) (t o r d i : Int) : Own6 ((((((w.setCell ⟨g, 0, none⟩ (.bool n)).setCell ⟨g, 1, none⟩ (.int .i64 t)).setCell ⟨g, 2, none⟩ (.int .i64 o)).setCell ⟨g, 3, none⟩ (.int .i64 r)).setCell ⟨g, 4, none⟩ (.int .i64 d)).setCell ⟨g, 5, none⟩ (.int .i64 i)) g n t o r d i :=
  ⟨set6 h.1 n t o r d i, fun k => by simp [go_sem, h.2]⟩
theorem rd_alloc (w : World) (v : Value) (x : Int) (O O' : Obj) : Rd (((w.alloc O).alloc (.cells #[v, .int .i64 x, .int .i64 0] 59)).alloc O') (w.heap.size + 1) v x 0 := by
  have h : Rd ((w.alloc O).alloc (.cells #[v, .int .i64 x, .int .i64 0] 59)) (w.heap.size + 1) v x 0 := by
    refine ⟨?_, ?_, ?_, fun k => ?_⟩ <;> simp
  obtain ⟨h0, h1, h2, hf⟩ := h
  have hl := World.block_lt_of_cell? _ _ h0
  have hb := (Below.refl ((w.alloc O).alloc (.cells #[v, .int .i64 x, .int .i64 0] 59)).heap.size ((w.alloc O).alloc (.cells #[v, .int .i64 x, .int .i64 0] 59))).alloc (Nat.le_refl _) O'
  exact ⟨(hb.cell (p := ⟨w.heap.size + 1, 0, none⟩) hl).trans h0, (hb.cell (p := ⟨w.heap.size + 1, 1, none⟩) hl).trans h1, (hb.cell (p := ⟨w.heap.size + 1, 2, none⟩) hl).trans h2, fun k => (hb.frozen (p := ⟨w.heap.size + 1, k, none⟩) hl).trans (hf k)⟩

set_option maxHeartbeats 8000000 in
theorem parse_other (a : Option Addr) (l c : Nat) (at' : Int) (xs : List Int) (w : World) (hv0 : Bs w (.slice a l c) xs) (k s1 e1 : Int) (hc1 : shortS xs (at', 0) = (k, s1, e1)) (hk0 : k ≠ 0) (hk1 : k ≠ 1) :
    Calls Try.prog 27 #[.slice a l c, .int .i64 at'] w fun e w' => e = .returned (.tuple #[.agg #[.bool false, .int .i64 0, .int .i64 0, .int .i64 0, .int .i64 0, .int .i64 0], .int .i64 0, .int .i64 4]) ∧ Below w.heap.size w w' := by
  have hv := Lib.hid hv0
  clear hv0
  have c1 : ∀ V, Rd V (w.heap.size + 1) (.slice a l c) at' 0 → Bs V (.slice a l c) xs → Calls Try.prog 41 #[.pointer (some ⟨(w.heap.size + 1), 0, none⟩)] V fun e w' => e = .returned (.int .i64 k) ∧ Rd w' (w.heap.size + 1) (.slice a l c) s1 e1 ∧ Only (w.heap.size + 1) V w' := fun V h hv => by
    have h := short_any (w.heap.size + 1) (.slice a l c) at' 0 xs V h hv
    rw [hc1] at h
    exact h
  clear hc1
  have hn0 : (k == 0) = false := by simpa using hk0
  have hn1 : (k == 1) = false := by simpa using hk1
  have HK := Lib.hid (And.intro hk0 hk1)
  clear hk0 hk1
  go_enter Try.func27, Try.ntmps27
  go_wp2_with fail
  have OR := Lib.hid (((own6_alloc w false 0 0 0 0 0 23 w.heap.size rfl).below ((Below.refl _ _).alloc (Nat.le_refl _) _)).below ((Below.refl _ _).alloc (Nat.le_refl _) _) : Own6 (((w.alloc (.cells #[.bool false, .int .i64 0, .int .i64 0, .int .i64 0, .int .i64 0, .int .i64 0] 23)).alloc (.cells #[.slice a l c, .int .i64 at', .int .i64 0] 59)).alloc (.cells #[.bool false, .int .i64 0, .int .i64 0, .int .i64 0, .int .i64 0, .int .i64 0] 23)) w.heap.size false 0 0 0 0 0)
  have OH := Lib.hid (own6_alloc ((w.alloc (.cells #[.bool false, .int .i64 0, .int .i64 0, .int .i64 0, .int .i64 0, .int .i64 0] 23)).alloc (.cells #[.slice a l c, .int .i64 at', .int .i64 0] 59)) false 0 0 0 0 0 23 (w.heap.size + 1 + 1) (by simp))
  have R := Lib.hid (rd_alloc w (.slice a l c) at' (.cells #[.bool false, .int .i64 0, .int .i64 0, .int .i64 0, .int .i64 0, .int .i64 0] 23) (.cells #[.bool false, .int .i64 0, .int .i64 0, .int .i64 0, .int .i64 0, .int .i64 0] 23))
  have HB : Hid (Below w.heap.size w (((w.alloc (.cells #[.bool false, .int .i64 0, .int .i64 0, .int .i64 0, .int .i64 0, .int .i64 0] 23)).alloc (.cells #[.slice a l c, .int .i64 at', .int .i64 0] 59)).alloc (.cells #[.bool false, .int .i64 0, .int .i64 0, .int .i64 0, .int .i64 0, .int .i64 0] 23))) := (((Below.refl _ w).alloc (Nat.le_refl _) _).alloc (by simp) _).alloc (by simp; omega) _
  generalize (((w.alloc (.cells #[.bool false, .int .i64 0, .int .i64 0, .int .i64 0, .int .i64 0, .int .i64 0] 23)).alloc (.cells #[.slice a l c, .int .i64 at', .int .i64 0] 59)).alloc (.cells #[.bool false, .int .i64 0, .int .i64 0, .int .i64 0, .int .i64 0, .int .i64 0] 23)) = V0 at *
  obtain ⟨⟨q0, q1, q2, q3, q4, q5⟩, qf⟩ := OH.out
  obtain ⟨⟨u0, u1, u2, u3, u4, u5⟩, uf⟩ := OR.out
  go_wp2_with (first
    | (go_at_call 41; refine (c1 _ R.out (Bs_below hv.out HB.out)).mono ?_; rintro e V1 ⟨rfl, hR, ho⟩; replace OH := Lib.hid (OH.out.only ho (by omega)); replace OR := Lib.hid (OR.out.only ho (by omega)); replace HB := Lib.hid (HB.out.trans (ho.below (by omega))); replace R := Lib.hid hR; clear ho hR; clear q0 q1 q2 q3 q4 q5 qf u0 u1 u2 u3 u4 u5 uf; obtain ⟨⟨q0, q1, q2, q3, q4, q5⟩, qf⟩ := OH.out; obtain ⟨⟨u0, u1, u2, u3, u4, u5⟩, uf⟩ := OR.out; obtain ⟨z0, z1, z2, zf⟩ := R.out))
  have hs := set6 OR.out.1 false 0 0 0 0 0
  have hbs := bel_set6 (b := w.heap.size) HB.out (Nat.le_refl _) false 0 0 0 0 0
  generalize ((((((V1.setCell ⟨w.heap.size, 0, none⟩ (.bool false)).setCell ⟨w.heap.size, 1, none⟩ (.int .i64 0)).setCell ⟨w.heap.size, 2, none⟩ (.int .i64 0)).setCell ⟨w.heap.size, 3, none⟩ (.int .i64 0)).setCell ⟨w.heap.size, 4, none⟩ (.int .i64 0)).setCell ⟨w.heap.size, 5, none⟩ (.int .i64 0)) = W5 at *
  obtain ⟨s0_, s1_, s2_, s3_, s4_, s5_⟩ := hs
  exact bodyPost_ret (v := .tuple #[.agg #[.bool false, .int .i64 0, .int .i64 0, .int .i64 0, .int .i64 0, .int .i64 0], .int .i64 0, .int .i64 4]) (by simp [results, Try.results27, go_sem, s0_, s1_, s2_, s3_, s4_, s5_]) rfl ⟨rfl, hbs⟩

set_option maxHeartbeats 8000000 in
theorem parse_null_err (a : Option Addr) (l c : Nat) (at' : Int) (xs : List Int) (w : World) (hv0 : Bs w (.slice a l c) xs) (s1 e1 i s6 e6 : Int) (hc1 : shortS xs (at', 0) = (0, s1, e1)) (hc2 : shortS xs (s1, e1) = (i, s6, e6)) (he : e6 ≠ 0) :
    Calls Try.prog 27 #[.slice a l c, .int .i64 at'] w fun e w' => e = .returned (.tuple #[.agg #[.bool false, .int .i64 0, .int .i64 0, .int .i64 0, .int .i64 0, .int .i64 0], .int .i64 0, .int .i64 e6]) ∧ Below w.heap.size w w' := by
  have hv := Lib.hid hv0
  clear hv0
  have c1 : ∀ V, Rd V (w.heap.size + 1) (.slice a l c) at' 0 → Bs V (.slice a l c) xs → Calls Try.prog 41 #[.pointer (some ⟨(w.heap.size + 1), 0, none⟩)] V fun e w' => e = .returned (.int .i64 0) ∧ Rd w' (w.heap.size + 1) (.slice a l c) s1 e1 ∧ Only (w.heap.size + 1) V w' := fun V h hv => by
    have h := short_any (w.heap.size + 1) (.slice a l c) at' 0 xs V h hv
    rw [hc1] at h
    exact h
  have c2 : ∀ V, Rd V (w.heap.size + 1) (.slice a l c) s1 e1 → Bs V (.slice a l c) xs → Calls Try.prog 41 #[.pointer (some ⟨(w.heap.size + 1), 0, none⟩)] V fun e w' => e = .returned (.int .i64 i) ∧ Rd w' (w.heap.size + 1) (.slice a l c) s6 e6 ∧ Only (w.heap.size + 1) V w' := fun V h hv => by
    have h := short_any (w.heap.size + 1) (.slice a l c) s1 e1 xs V h hv
    rw [hc2] at h
    exact h
  clear hc1 hc2
  have hne : (e6 == 0) = false := by simpa using he
  have HE := Lib.hid he
  clear he
  go_enter Try.func27, Try.ntmps27
  go_wp2_with fail
  have OR := Lib.hid (((own6_alloc w false 0 0 0 0 0 23 w.heap.size rfl).below ((Below.refl _ _).alloc (Nat.le_refl _) _)).below ((Below.refl _ _).alloc (Nat.le_refl _) _) : Own6 (((w.alloc (.cells #[.bool false, .int .i64 0, .int .i64 0, .int .i64 0, .int .i64 0, .int .i64 0] 23)).alloc (.cells #[.slice a l c, .int .i64 at', .int .i64 0] 59)).alloc (.cells #[.bool false, .int .i64 0, .int .i64 0, .int .i64 0, .int .i64 0, .int .i64 0] 23)) w.heap.size false 0 0 0 0 0)
  have OH := Lib.hid (own6_alloc ((w.alloc (.cells #[.bool false, .int .i64 0, .int .i64 0, .int .i64 0, .int .i64 0, .int .i64 0] 23)).alloc (.cells #[.slice a l c, .int .i64 at', .int .i64 0] 59)) false 0 0 0 0 0 23 (w.heap.size + 1 + 1) (by simp))
  have R := Lib.hid (rd_alloc w (.slice a l c) at' (.cells #[.bool false, .int .i64 0, .int .i64 0, .int .i64 0, .int .i64 0, .int .i64 0] 23) (.cells #[.bool false, .int .i64 0, .int .i64 0, .int .i64 0, .int .i64 0, .int .i64 0] 23))
  have HB : Hid (Below w.heap.size w (((w.alloc (.cells #[.bool false, .int .i64 0, .int .i64 0, .int .i64 0, .int .i64 0, .int .i64 0] 23)).alloc (.cells #[.slice a l c, .int .i64 at', .int .i64 0] 59)).alloc (.cells #[.bool false, .int .i64 0, .int .i64 0, .int .i64 0, .int .i64 0, .int .i64 0] 23))) := (((Below.refl _ w).alloc (Nat.le_refl _) _).alloc (by simp) _).alloc (by simp; omega) _
  generalize (((w.alloc (.cells #[.bool false, .int .i64 0, .int .i64 0, .int .i64 0, .int .i64 0, .int .i64 0] 23)).alloc (.cells #[.slice a l c, .int .i64 at', .int .i64 0] 59)).alloc (.cells #[.bool false, .int .i64 0, .int .i64 0, .int .i64 0, .int .i64 0, .int .i64 0] 23)) = V0 at *
  obtain ⟨⟨q0, q1, q2, q3, q4, q5⟩, qf⟩ := OH.out
  obtain ⟨⟨u0, u1, u2, u3, u4, u5⟩, uf⟩ := OR.out
  go_wp2_with (first
    | (go_at_call 41; refine (c1 _ R.out (Bs_below hv.out HB.out)).mono ?_; rintro e V1 ⟨rfl, hR, ho⟩; replace OH := Lib.hid (OH.out.only ho (by omega)); replace OR := Lib.hid (OR.out.only ho (by omega)); replace HB := Lib.hid (HB.out.trans (ho.below (by omega))); replace R := Lib.hid hR; clear ho hR; clear q0 q1 q2 q3 q4 q5 qf u0 u1 u2 u3 u4 u5 uf; obtain ⟨⟨q0, q1, q2, q3, q4, q5⟩, qf⟩ := OH.out; obtain ⟨⟨u0, u1, u2, u3, u4, u5⟩, uf⟩ := OR.out; obtain ⟨z0, z1, z2, zf⟩ := R.out)
    | (go_at_call 41; have o1 : Only (w.heap.size + 1 + 1) V1 (V1.setCell ⟨(w.heap.size + 1 + 1), 0, none⟩ (.bool true)) := ((Only.refl _ _).set 0 _); refine (c2 _ (R.out.only o1 (by omega)) (Bs_below hv.out (HB.out.trans (o1.below (by omega))))).mono ?_; rintro e V2 ⟨rfl, hR, ho⟩; replace OH := Lib.hid ((OH.out.setn true).only ho (by omega)); replace OR := Lib.hid ((OR.out.only o1 (by omega)).only ho (by omega)); replace HB := Lib.hid ((HB.out.trans (o1.below (by omega))).trans (ho.below (by omega))); replace R := Lib.hid hR; clear ho hR o1; clear q0 q1 q2 q3 q4 q5 qf u0 u1 u2 u3 u4 u5 uf z0 z1 z2 zf; obtain ⟨⟨q0, q1, q2, q3, q4, q5⟩, qf⟩ := OH.out; obtain ⟨⟨u0, u1, u2, u3, u4, u5⟩, uf⟩ := OR.out; obtain ⟨z0, z1, z2, zf⟩ := R.out))
  have o2 : Only (w.heap.size + 1 + 1) V2 (V2.setCell ⟨(w.heap.size + 1 + 1), 5, none⟩ (.int .i64 i)) := (Only.refl _ _).set 5 _
  replace OR := Lib.hid (OR.out.only o2 (by omega))
  replace R := Lib.hid (R.out.only o2 (by omega))
  replace HB := Lib.hid (HB.out.trans (o2.below (by omega)))
  clear o2
  clear q0 q1 q2 q3 q4 q5 qf u0 u1 u2 u3 u4 u5 uf z0 z1 z2 zf
  obtain ⟨⟨u0, u1, u2, u3, u4, u5⟩, uf⟩ := OR.out
  obtain ⟨z0, z1, z2, zf⟩ := R.out
  generalize V2.setCell ⟨(w.heap.size + 1 + 1), 5, none⟩ (.int .i64 i) = V9 at *
  go_region
  go_wp2_with fail
  have hs := set6 OR.out.1 false 0 0 0 0 0
  have hbs := bel_set6 (b := w.heap.size) HB.out (Nat.le_refl _) false 0 0 0 0 0
  generalize ((((((V9.setCell ⟨w.heap.size, 0, none⟩ (.bool false)).setCell ⟨w.heap.size, 1, none⟩ (.int .i64 0)).setCell ⟨w.heap.size, 2, none⟩ (.int .i64 0)).setCell ⟨w.heap.size, 3, none⟩ (.int .i64 0)).setCell ⟨w.heap.size, 4, none⟩ (.int .i64 0)).setCell ⟨w.heap.size, 5, none⟩ (.int .i64 0)) = W5 at *
  obtain ⟨s0_, s1_, s2_, s3_, s4_, s5_⟩ := hs
  exact bodyPost_ret (v := .tuple #[.agg #[.bool false, .int .i64 0, .int .i64 0, .int .i64 0, .int .i64 0, .int .i64 0], .int .i64 0, .int .i64 e6]) (by simp [results, Try.results27, go_sem, s0_, s1_, s2_, s3_, s4_, s5_]) rfl ⟨rfl, hbs.drew⟩

set_option maxHeartbeats 8000000 in
theorem parse_null_bad (a : Option Addr) (l c : Nat) (at' : Int) (xs : List Int) (w : World) (hv0 : Bs w (.slice a l c) xs) (s1 e1 i s6 : Int) (hc1 : shortS xs (at', 0) = (0, s1, e1)) (hc2 : shortS xs (s1, e1) = (i, s6, 0)) (hq : chk true 0 0 0 0 i = 1) :
    Calls Try.prog 27 #[.slice a l c, .int .i64 at'] w fun e w' => e = .returned (.tuple #[.agg #[.bool false, .int .i64 0, .int .i64 0, .int .i64 0, .int .i64 0, .int .i64 0], .int .i64 0, .int .i64 4]) ∧ Below w.heap.size w w' := by
  have hv := Lib.hid hv0
  clear hv0
  have c1 : ∀ V, Rd V (w.heap.size + 1) (.slice a l c) at' 0 → Bs V (.slice a l c) xs → Calls Try.prog 41 #[.pointer (some ⟨(w.heap.size + 1), 0, none⟩)] V fun e w' => e = .returned (.int .i64 0) ∧ Rd w' (w.heap.size + 1) (.slice a l c) s1 e1 ∧ Only (w.heap.size + 1) V w' := fun V h hv => by
    have h := short_any (w.heap.size + 1) (.slice a l c) at' 0 xs V h hv
    rw [hc1] at h
    exact h
  have c2 : ∀ V, Rd V (w.heap.size + 1) (.slice a l c) s1 e1 → Bs V (.slice a l c) xs → Calls Try.prog 41 #[.pointer (some ⟨(w.heap.size + 1), 0, none⟩)] V fun e w' => e = .returned (.int .i64 i) ∧ Rd w' (w.heap.size + 1) (.slice a l c) s6 0 ∧ Only (w.heap.size + 1) V w' := fun V h hv => by
    have h := short_any (w.heap.size + 1) (.slice a l c) s1 e1 xs V h hv
    rw [hc2] at h
    exact h
  clear hc1 hc2
  go_enter Try.func27, Try.ntmps27
  go_wp2_with fail
  have OR := Lib.hid (((own6_alloc w false 0 0 0 0 0 23 w.heap.size rfl).below ((Below.refl _ _).alloc (Nat.le_refl _) _)).below ((Below.refl _ _).alloc (Nat.le_refl _) _) : Own6 (((w.alloc (.cells #[.bool false, .int .i64 0, .int .i64 0, .int .i64 0, .int .i64 0, .int .i64 0] 23)).alloc (.cells #[.slice a l c, .int .i64 at', .int .i64 0] 59)).alloc (.cells #[.bool false, .int .i64 0, .int .i64 0, .int .i64 0, .int .i64 0, .int .i64 0] 23)) w.heap.size false 0 0 0 0 0)
  have OH := Lib.hid (own6_alloc ((w.alloc (.cells #[.bool false, .int .i64 0, .int .i64 0, .int .i64 0, .int .i64 0, .int .i64 0] 23)).alloc (.cells #[.slice a l c, .int .i64 at', .int .i64 0] 59)) false 0 0 0 0 0 23 (w.heap.size + 1 + 1) (by simp))
  have R := Lib.hid (rd_alloc w (.slice a l c) at' (.cells #[.bool false, .int .i64 0, .int .i64 0, .int .i64 0, .int .i64 0, .int .i64 0] 23) (.cells #[.bool false, .int .i64 0, .int .i64 0, .int .i64 0, .int .i64 0, .int .i64 0] 23))
  have HB : Hid (Below w.heap.size w (((w.alloc (.cells #[.bool false, .int .i64 0, .int .i64 0, .int .i64 0, .int .i64 0, .int .i64 0] 23)).alloc (.cells #[.slice a l c, .int .i64 at', .int .i64 0] 59)).alloc (.cells #[.bool false, .int .i64 0, .int .i64 0, .int .i64 0, .int .i64 0, .int .i64 0] 23))) := (((Below.refl _ w).alloc (Nat.le_refl _) _).alloc (by simp) _).alloc (by simp; omega) _
  generalize (((w.alloc (.cells #[.bool false, .int .i64 0, .int .i64 0, .int .i64 0, .int .i64 0, .int .i64 0] 23)).alloc (.cells #[.slice a l c, .int .i64 at', .int .i64 0] 59)).alloc (.cells #[.bool false, .int .i64 0, .int .i64 0, .int .i64 0, .int .i64 0, .int .i64 0] 23)) = V0 at *
  obtain ⟨⟨q0, q1, q2, q3, q4, q5⟩, qf⟩ := OH.out
  obtain ⟨⟨u0, u1, u2, u3, u4, u5⟩, uf⟩ := OR.out
  go_wp2_with (first
    | (go_at_call 41; refine (c1 _ R.out (Bs_below hv.out HB.out)).mono ?_; rintro e V1 ⟨rfl, hR, ho⟩; replace OH := Lib.hid (OH.out.only ho (by omega)); replace OR := Lib.hid (OR.out.only ho (by omega)); replace HB := Lib.hid (HB.out.trans (ho.below (by omega))); replace R := Lib.hid hR; clear ho hR; clear q0 q1 q2 q3 q4 q5 qf u0 u1 u2 u3 u4 u5 uf; obtain ⟨⟨q0, q1, q2, q3, q4, q5⟩, qf⟩ := OH.out; obtain ⟨⟨u0, u1, u2, u3, u4, u5⟩, uf⟩ := OR.out; obtain ⟨z0, z1, z2, zf⟩ := R.out)
    | (go_at_call 41; have o1 : Only (w.heap.size + 1 + 1) V1 (V1.setCell ⟨(w.heap.size + 1 + 1), 0, none⟩ (.bool true)) := ((Only.refl _ _).set 0 _); refine (c2 _ (R.out.only o1 (by omega)) (Bs_below hv.out (HB.out.trans (o1.below (by omega))))).mono ?_; rintro e V2 ⟨rfl, hR, ho⟩; replace OH := Lib.hid ((OH.out.setn true).only ho (by omega)); replace OR := Lib.hid ((OR.out.only o1 (by omega)).only ho (by omega)); replace HB := Lib.hid ((HB.out.trans (o1.below (by omega))).trans (ho.below (by omega))); replace R := Lib.hid hR; clear ho hR o1; clear q0 q1 q2 q3 q4 q5 qf u0 u1 u2 u3 u4 u5 uf z0 z1 z2 zf; obtain ⟨⟨q0, q1, q2, q3, q4, q5⟩, qf⟩ := OH.out; obtain ⟨⟨u0, u1, u2, u3, u4, u5⟩, uf⟩ := OR.out; obtain ⟨z0, z1, z2, zf⟩ := R.out)
    | (go_at_call 12; have o2 : Only (w.heap.size + 1 + 1) V2 (V2.setCell ⟨(w.heap.size + 1 + 1), 5, none⟩ (.int .i64 i)) := (Only.refl _ _).set 5 _; refine (check_any _ _ _ _ _ _ _).mono ?_; rintro e V9 ⟨rfl, hb⟩; rw [hq]; replace OH := Lib.hid ((OH.out.seti i).below hb); replace OR := Lib.hid ((OR.out.only o2 (by omega)).below hb); replace HB := Lib.hid ((HB.out.trans (o2.below (by omega))).trans (hb.mono (Nat.le_trans HB.out.size (Nat.le_of_eq o2.size.symm)))); replace R := Lib.hid ((R.out.only o2 (by omega)).below hb); clear hb o2; clear q0 q1 q2 q3 q4 q5 qf u0 u1 u2 u3 u4 u5 uf z0 z1 z2 zf; obtain ⟨⟨q0, q1, q2, q3, q4, q5⟩, qf⟩ := OH.out; obtain ⟨⟨u0, u1, u2, u3, u4, u5⟩, uf⟩ := OR.out; obtain ⟨z0, z1, z2, zf⟩ := R.out))
  have hs := set6 OR.out.1 false 0 0 0 0 0
  have hbs := bel_set6 (b := w.heap.size) HB.out (Nat.le_refl _) false 0 0 0 0 0
  generalize ((((((V9.setCell ⟨w.heap.size, 0, none⟩ (.bool false)).setCell ⟨w.heap.size, 1, none⟩ (.int .i64 0)).setCell ⟨w.heap.size, 2, none⟩ (.int .i64 0)).setCell ⟨w.heap.size, 3, none⟩ (.int .i64 0)).setCell ⟨w.heap.size, 4, none⟩ (.int .i64 0)).setCell ⟨w.heap.size, 5, none⟩ (.int .i64 0)) = W5 at *
  obtain ⟨s0_, s1_, s2_, s3_, s4_, s5_⟩ := hs
  exact bodyPost_ret (v := .tuple #[.agg #[.bool false, .int .i64 0, .int .i64 0, .int .i64 0, .int .i64 0, .int .i64 0], .int .i64 0, .int .i64 4]) (by simp [results, Try.results27, go_sem, s0_, s1_, s2_, s3_, s4_, s5_]) rfl ⟨rfl, hbs⟩

set_option maxHeartbeats 8000000 in
theorem parse_null_ok (a : Option Addr) (l c : Nat) (at' : Int) (xs : List Int) (w : World) (hv0 : Bs w (.slice a l c) xs) (s1 e1 i s6 : Int) (hc1 : shortS xs (at', 0) = (0, s1, e1)) (hc2 : shortS xs (s1, e1) = (i, s6, 0)) (hq : chk true 0 0 0 0 i = 0) :
    Calls Try.prog 27 #[.slice a l c, .int .i64 at'] w fun e w' => e = .returned (.tuple #[.agg #[.bool true, .int .i64 0, .int .i64 0, .int .i64 0, .int .i64 0, .int .i64 i], .int .i64 s6, .int .i64 0]) ∧ Below w.heap.size w w' := by
  have hv := Lib.hid hv0
  clear hv0
  have c1 : ∀ V, Rd V (w.heap.size + 1) (.slice a l c) at' 0 → Bs V (.slice a l c) xs → Calls Try.prog 41 #[.pointer (some ⟨(w.heap.size + 1), 0, none⟩)] V fun e w' => e = .returned (.int .i64 0) ∧ Rd w' (w.heap.size + 1) (.slice a l c) s1 e1 ∧ Only (w.heap.size + 1) V w' := fun V h hv => by
    have h := short_any (w.heap.size + 1) (.slice a l c) at' 0 xs V h hv
    rw [hc1] at h
    exact h
  have c2 : ∀ V, Rd V (w.heap.size + 1) (.slice a l c) s1 e1 → Bs V (.slice a l c) xs → Calls Try.prog 41 #[.pointer (some ⟨(w.heap.size + 1), 0, none⟩)] V fun e w' => e = .returned (.int .i64 i) ∧ Rd w' (w.heap.size + 1) (.slice a l c) s6 0 ∧ Only (w.heap.size + 1) V w' := fun V h hv => by
    have h := short_any (w.heap.size + 1) (.slice a l c) s1 e1 xs V h hv
    rw [hc2] at h
    exact h
  clear hc1 hc2
  go_enter Try.func27, Try.ntmps27
  go_wp2_with fail
  have OR := Lib.hid (((own6_alloc w false 0 0 0 0 0 23 w.heap.size rfl).below ((Below.refl _ _).alloc (Nat.le_refl _) _)).below ((Below.refl _ _).alloc (Nat.le_refl _) _) : Own6 (((w.alloc (.cells #[.bool false, .int .i64 0, .int .i64 0, .int .i64 0, .int .i64 0, .int .i64 0] 23)).alloc (.cells #[.slice a l c, .int .i64 at', .int .i64 0] 59)).alloc (.cells #[.bool false, .int .i64 0, .int .i64 0, .int .i64 0, .int .i64 0, .int .i64 0] 23)) w.heap.size false 0 0 0 0 0)
  have OH := Lib.hid (own6_alloc ((w.alloc (.cells #[.bool false, .int .i64 0, .int .i64 0, .int .i64 0, .int .i64 0, .int .i64 0] 23)).alloc (.cells #[.slice a l c, .int .i64 at', .int .i64 0] 59)) false 0 0 0 0 0 23 (w.heap.size + 1 + 1) (by simp))
  have R := Lib.hid (rd_alloc w (.slice a l c) at' (.cells #[.bool false, .int .i64 0, .int .i64 0, .int .i64 0, .int .i64 0, .int .i64 0] 23) (.cells #[.bool false, .int .i64 0, .int .i64 0, .int .i64 0, .int .i64 0, .int .i64 0] 23))
  have HB : Hid (Below w.heap.size w (((w.alloc (.cells #[.bool false, .int .i64 0, .int .i64 0, .int .i64 0, .int .i64 0, .int .i64 0] 23)).alloc (.cells #[.slice a l c, .int .i64 at', .int .i64 0] 59)).alloc (.cells #[.bool false, .int .i64 0, .int .i64 0, .int .i64 0, .int .i64 0, .int .i64 0] 23))) := (((Below.refl _ w).alloc (Nat.le_refl _) _).alloc (by simp) _).alloc (by simp; omega) _
  generalize (((w.alloc (.cells #[.bool false, .int .i64 0, .int .i64 0, .int .i64 0, .int .i64 0, .int .i64 0] 23)).alloc (.cells #[.slice a l c, .int .i64 at', .int .i64 0] 59)).alloc (.cells #[.bool false, .int .i64 0, .int .i64 0, .int .i64 0, .int .i64 0, .int .i64 0] 23)) = V0 at *
  obtain ⟨⟨q0, q1, q2, q3, q4, q5⟩, qf⟩ := OH.out
  obtain ⟨⟨u0, u1, u2, u3, u4, u5⟩, uf⟩ := OR.out
  go_wp2_with (first
    | (go_at_call 41; refine (c1 _ R.out (Bs_below hv.out HB.out)).mono ?_; rintro e V1 ⟨rfl, hR, ho⟩; replace OH := Lib.hid (OH.out.only ho (by omega)); replace OR := Lib.hid (OR.out.only ho (by omega)); replace HB := Lib.hid (HB.out.trans (ho.below (by omega))); replace R := Lib.hid hR; clear ho hR; clear q0 q1 q2 q3 q4 q5 qf u0 u1 u2 u3 u4 u5 uf; obtain ⟨⟨q0, q1, q2, q3, q4, q5⟩, qf⟩ := OH.out; obtain ⟨⟨u0, u1, u2, u3, u4, u5⟩, uf⟩ := OR.out; obtain ⟨z0, z1, z2, zf⟩ := R.out)
    | (go_at_call 41; have o1 : Only (w.heap.size + 1 + 1) V1 (V1.setCell ⟨(w.heap.size + 1 + 1), 0, none⟩ (.bool true)) := ((Only.refl _ _).set 0 _); refine (c2 _ (R.out.only o1 (by omega)) (Bs_below hv.out (HB.out.trans (o1.below (by omega))))).mono ?_; rintro e V2 ⟨rfl, hR, ho⟩; replace OH := Lib.hid ((OH.out.setn true).only ho (by omega)); replace OR := Lib.hid ((OR.out.only o1 (by omega)).only ho (by omega)); replace HB := Lib.hid ((HB.out.trans (o1.below (by omega))).trans (ho.below (by omega))); replace R := Lib.hid hR; clear ho hR o1; clear q0 q1 q2 q3 q4 q5 qf u0 u1 u2 u3 u4 u5 uf z0 z1 z2 zf; obtain ⟨⟨q0, q1, q2, q3, q4, q5⟩, qf⟩ := OH.out; obtain ⟨⟨u0, u1, u2, u3, u4, u5⟩, uf⟩ := OR.out; obtain ⟨z0, z1, z2, zf⟩ := R.out)
    | (go_at_call 12; have o2 : Only (w.heap.size + 1 + 1) V2 (V2.setCell ⟨(w.heap.size + 1 + 1), 5, none⟩ (.int .i64 i)) := (Only.refl _ _).set 5 _; refine (check_any _ _ _ _ _ _ _).mono ?_; rintro e V9 ⟨rfl, hb⟩; rw [hq]; replace OH := Lib.hid ((OH.out.seti i).below hb); replace OR := Lib.hid ((OR.out.only o2 (by omega)).below hb); replace HB := Lib.hid ((HB.out.trans (o2.below (by omega))).trans (hb.mono (Nat.le_trans HB.out.size (Nat.le_of_eq o2.size.symm)))); replace R := Lib.hid ((R.out.only o2 (by omega)).below hb); clear hb o2; clear q0 q1 q2 q3 q4 q5 qf u0 u1 u2 u3 u4 u5 uf z0 z1 z2 zf; obtain ⟨⟨q0, q1, q2, q3, q4, q5⟩, qf⟩ := OH.out; obtain ⟨⟨u0, u1, u2, u3, u4, u5⟩, uf⟩ := OR.out; obtain ⟨z0, z1, z2, zf⟩ := R.out))
  go_region
  go_wp2_with fail
  have hs := set6 OR.out.1 true 0 0 0 0 i
  have hbs := bel_set6 (b := w.heap.size) HB.out (Nat.le_refl _) true 0 0 0 0 i
  generalize ((((((V9.setCell ⟨w.heap.size, 0, none⟩ (.bool true)).setCell ⟨w.heap.size, 1, none⟩ (.int .i64 0)).setCell ⟨w.heap.size, 2, none⟩ (.int .i64 0)).setCell ⟨w.heap.size, 3, none⟩ (.int .i64 0)).setCell ⟨w.heap.size, 4, none⟩ (.int .i64 0)).setCell ⟨w.heap.size, 5, none⟩ (.int .i64 i)) = W5 at *
  obtain ⟨s0_, s1_, s2_, s3_, s4_, s5_⟩ := hs
  exact bodyPost_ret (v := .tuple #[.agg #[.bool true, .int .i64 0, .int .i64 0, .int .i64 0, .int .i64 0, .int .i64 i], .int .i64 s6, .int .i64 0]) (by simp [results, Try.results27, go_sem, s0_, s1_, s2_, s3_, s4_, s5_]) rfl ⟨rfl, hbs.drew⟩
#print axioms parse_null_ok
end Go.Proofs.Ytkgckmlphfafjaa
