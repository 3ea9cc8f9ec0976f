/- Levels, and which height is less. No conditions. -/
import Derived.Test.YtmimgpnogjgliaaCmp
import Derived.Test.YtmimgpnogjgliaaTyped
namespace Go.Proofs.Ytmimgpnogjgliaa
set_option maxRecDepth 100000
open Go.RowKit Go.Sort

def Cells3 (w : World) (b : Nat) (t o r : Int) : Prop :=
  w.cell? ⟨b, 0, none⟩ = some (.int .i64 t) ∧ w.cell? ⟨b, 1, none⟩ = some (.int .i64 o) ∧ w.cell? ⟨b, 2, none⟩ = some (.int .i64 r)
theorem cells3_alloc (w : World) (t o r : Int) (T : TypeId) : Cells3 (w.alloc (.cells #[.int .i64 t, .int .i64 o, .int .i64 r] T)) w.heap.size t o r := by
  simp [Cells3]
theorem Cells3.below {w w' : World} {b : Nat} {t o r : Int} (h : Cells3 w b t o r) (hb : Below w.heap.size w w') : Cells3 w' b t o r := by
  obtain ⟨h0, h1, h2⟩ := h
  have k : ∀ {a : Addr} {v : Value}, w.cell? a = some v → w'.cell? a = some v := fun h => by rw [hb.cell (World.block_lt_of_cell? w _ h)]; exact h
  exact ⟨k h0, k h1, k h2⟩
/-- The order of two levels. -/
def ordL (t o r t' o' r' : Int) : Int := cmpL [t, o, r] [t', o', r']
set_option maxHeartbeats 4000000 in
theorem order_any (t o r t' o' r' : Int) (w : World) :
    Calls Try.prog 29 #[.agg #[.int .i64 t, .int .i64 o, .int .i64 r], .agg #[.int .i64 t', .int .i64 o', .int .i64 r']] w fun e w' => e = .returned (.int .i64 (ordL t o r t' o' r')) ∧ Below w.heap.size w w' := by
  go_enter Try.func29, Try.ntmps29
  go_wp2
  have c1 := (cells3_alloc w t o r 49).below ((Below.refl _ _).alloc (Nat.le_refl _) (.cells #[.int .i64 t', .int .i64 o', .int .i64 r'] 49))
  have c2 := cells3_alloc (w.alloc (.cells #[.int .i64 t, .int .i64 o, .int .i64 r] 49)) t' o' r' 49
  have hbel : Below w.heap.size w ((w.alloc (.cells #[.int .i64 t, .int .i64 o, .int .i64 r] 49)).alloc (.cells #[.int .i64 t', .int .i64 o', .int .i64 r'] 49)) := ((Below.refl _ w).alloc (Nat.le_refl _) _).alloc (by simp) _
  generalize (w.alloc (.cells #[.int .i64 t, .int .i64 o, .int .i64 r] 49)).alloc (.cells #[.int .i64 t', .int .i64 o', .int .i64 r'] 49) = W at *
  have kc : ∀ w', Below W.heap.size W w' → Cells3 w' w.heap.size t o r ∧ Cells3 w' (w.heap.size + 1) t' o' r' := fun w' h => ⟨c1.below h, by simpa using c2.below h⟩
  unfold Cells3 at kc
  refine wp_region_typed (C := fun w' => Below W.heap.size W w') (X := fun w w' => Below w.heap.size w w') (n := 22) (by kernel_rfl) (by kernel_rfl) rfl (fun w => Below.refl _ w) (Below.refl _ _).drew ?_
  refine w_is (fun w => Below.refl _ w) _ (.inl rfl) (fun ρ w hC hc hfn hf => by have e2 : ρ (.tmp 2) = _ := hf 2 (by decide); (conv => lhs; simp [execOp, go_sem, hc, e2])) ?_
  refine w_is (fun w => Below.refl _ w) _ (.inl rfl) (fun ρ w hC hc hfn hf => by have e5 : ρ (.tmp 5) = _ := hf 5 (by decide); (conv => lhs; simp [execOp, go_sem, hc, e5, kc w hC])) ?_
  refine w_is (fun w => Below.refl _ w) _ (.inl rfl) (fun ρ w hC hc hfn hf => by have e3 : ρ (.tmp 3) = _ := hf 3 (by decide); (conv => lhs; simp [execOp, go_sem, hc, e3])) ?_
  refine w_is (fun w => Below.refl _ w) _ (.inl rfl) (fun ρ w hC hc hfn hf => by have e7 : ρ (.tmp 7) = _ := hf 7 (by decide); (conv => lhs; simp [execOp, go_sem, hc, e7, kc w hC])) ?_
  refine w_call (Is _) (fun _ _ _ h _ => h) 47 (.inl rfl) (fun ρ w hC hc hfn hf => by have e6 : ρ (.tmp 6) = _ := hf 6 (by decide); have e8 : ρ (.tmp 8) = _ := hf 8 (by decide); exact ⟨_, by (conv => lhs; simp [execOp, resolve, invoke, go_sem, hc, hfn, e6, e8]), (tc_same hC (compare_any _ _ w))⟩) ?_
  refine w_is (fun w => Below.refl _ w) _ (.inl rfl) (fun ρ w hC hc hfn hf => by have e2 : ρ (.tmp 2) = _ := hf 2 (by decide); (conv => lhs; simp [execOp, go_sem, hc, e2])) ?_
  refine w_is (fun w => Below.refl _ w) _ (.inl rfl) (fun ρ w hC hc hfn hf => by have e10 : ρ (.tmp 10) = _ := hf 10 (by decide); (conv => lhs; simp [execOp, go_sem, hc, e10, kc w hC])) ?_
  refine w_is (fun w => Below.refl _ w) _ (.inl rfl) (fun ρ w hC hc hfn hf => by have e3 : ρ (.tmp 3) = _ := hf 3 (by decide); (conv => lhs; simp [execOp, go_sem, hc, e3])) ?_
  refine w_is (fun w => Below.refl _ w) _ (.inl rfl) (fun ρ w hC hc hfn hf => by have e12 : ρ (.tmp 12) = _ := hf 12 (by decide); (conv => lhs; simp [execOp, go_sem, hc, e12, kc w hC])) ?_
  refine w_call (Is _) (fun _ _ _ h _ => h) 47 (.inl rfl) (fun ρ w hC hc hfn hf => by have e11 : ρ (.tmp 11) = _ := hf 11 (by decide); have e13 : ρ (.tmp 13) = _ := hf 13 (by decide); exact ⟨_, by (conv => lhs; simp [execOp, resolve, invoke, go_sem, hc, hfn, e11, e13]), (tc_same hC (compare_any _ _ w))⟩) ?_
  refine w_is (fun w => Below.refl _ w) _ (.inl rfl) (fun ρ w hC hc hfn hf => by have e2 : ρ (.tmp 2) = _ := hf 2 (by decide); (conv => lhs; simp [execOp, go_sem, hc, e2])) ?_
  refine w_is (fun w => Below.refl _ w) _ (.inl rfl) (fun ρ w hC hc hfn hf => by have e15 : ρ (.tmp 15) = _ := hf 15 (by decide); (conv => lhs; simp [execOp, go_sem, hc, e15, kc w hC])) ?_
  refine w_is (fun w => Below.refl _ w) _ (.inl rfl) (fun ρ w hC hc hfn hf => by have e3 : ρ (.tmp 3) = _ := hf 3 (by decide); (conv => lhs; simp [execOp, go_sem, hc, e3])) ?_
  refine w_is (fun w => Below.refl _ w) _ (.inl rfl) (fun ρ w hC hc hfn hf => by have e17 : ρ (.tmp 17) = _ := hf 17 (by decide); (conv => lhs; simp [execOp, go_sem, hc, e17, kc w hC])) ?_
  refine w_call (Is _) (fun _ _ _ h _ => h) 47 (.inl rfl) (fun ρ w hC hc hfn hf => by have e16 : ρ (.tmp 16) = _ := hf 16 (by decide); have e18 : ρ (.tmp 18) = _ := hf 18 (by decide); exact ⟨_, by (conv => lhs; simp [execOp, resolve, invoke, go_sem, hc, hfn, e16, e18]), (tc_same hC (compare_any _ _ w))⟩) ?_
  refine w_make (fun v w => Ints w v [_, _, _]) (fun _ _ _ h hb => h.below hb) (.inl rfl) (fun ρ w hC hc hfn hf => by have e9 : ρ (.tmp 9) = _ := hf 9 (by decide); have e14 : ρ (.tmp 14) = _ := hf 14 (by decide); have e19 : ρ (.tmp 19) = _ := hf 19 (by decide); exact ⟨_, _, by (conv => lhs; simp [execOp, go_sem, hc, e9, e14, e19]), hC.alloc hC.size _, (Below.refl _ w).alloc (Nat.le_refl _) _, ints3 _ _ _ _ _ _ rfl⟩) ?_
  refine w_call (Is _) (fun _ _ _ h _ => h) 46 (.inl rfl) (fun ρ w hC hc hfn hf => by have e20 := hf 20 (by decide); exact ⟨_, by (conv => lhs; simp [execOp, resolve, invoke, go_sem, hc, hfn]), (tc_same hC (or_any _ _ w e20))⟩) ?_
  refine w_is (fun w => Below.refl _ w) _ (.inl rfl) (fun ρ w hC hc hfn hf => by have e21 : ρ (.tmp 21) = _ := hf 21 (by decide); (conv => lhs; simp [execOp, go_sem, hc, e21])) ?_
  intro A W4 hC hn hd hf
  have y0 : A.eval (.tmp 0) = _ := Eq.trans (hf 0) (by conv => lhs; simp [go_sem])
  have y1 : A.eval (.tmp 1) = _ := Eq.trans (hf 1) (by conv => lhs; simp [go_sem])
  have y2 : A.eval (.tmp 2) = _ := Eq.trans (hf 2) (by conv => lhs; simp [go_sem])
  have y3 : A.eval (.tmp 3) = _ := Eq.trans (hf 3) (by conv => lhs; simp [go_sem])
  have y4 : A.eval (.tmp 4) = _ := hf 4
  have y5 : A.eval (.tmp 5) = _ := hf 5
  have y6 : A.eval (.tmp 6) = _ := hf 6
  have y7 : A.eval (.tmp 7) = _ := hf 7
  have y8 : A.eval (.tmp 8) = _ := hf 8
  have y9 : A.eval (.tmp 9) = _ := hf 9
  have y10 : A.eval (.tmp 10) = _ := hf 10
  have y11 : A.eval (.tmp 11) = _ := hf 11
  have y12 : A.eval (.tmp 12) = _ := hf 12
  have y13 : A.eval (.tmp 13) = _ := hf 13
  have y14 : A.eval (.tmp 14) = _ := hf 14
  have y15 : A.eval (.tmp 15) = _ := hf 15
  have y16 : A.eval (.tmp 16) = _ := hf 16
  have y17 : A.eval (.tmp 17) = _ := hf 17
  have y18 : A.eval (.tmp 18) = _ := hf 18
  have y19 : A.eval (.tmp 19) = _ := hf 19
  have y20 := hf 20
  have y21 : A.eval (.tmp 21) = _ := hf 21
  clear hf
  have hA := frame_eq hn
  rw [show List.range 22 = [0, 1, 2, 3, 4, 5, 6, 7, 8, 9, 10, 11, 12, 13, 14, 15, 16, 17, 18, 19, 20, 21] from rfl, hd] at hA
  simp only [List.map_cons, List.map_nil, y0, y1, y2, y3, y4, y5, y6, y7, y8, y9, y10, y11, y12, y13, y14, y15, y16, y17, y18, y19, y21] at hA
  change (fun v w => Ints w v [_, _, _]) (A.eval (.tmp 20)) W4 at y20
  clear y0 y1 y2 y3 y4 y5 y6 y7 y8 y9 y10 y11 y12 y13 y14 y15 y16 y17 y18 y19 y21
  generalize A.eval (.tmp 20) = v20 at *
  clear hn hd
  subst hA
  go_wp2_with fail
  go_ret
  exact ⟨ret_int (or_cmp3 _ _ _ _ _ _), hbel.trans (hC.mono hbel.size)⟩
/-- A height's level. -/
def levV (n : Bool) (t o r d i : Int) : Value := if told n t o r d i then .agg #[.int .i64 t, .int .i64 o, .int .i64 r] else .agg #[.int .i64 0, .int .i64 0, .int .i64 0]
/-- The cells of a variable that may be written. -/
def Own3 (w : World) (b : Nat) (x y z : Int) : Prop := Cells3 w b x y z ∧ ∀ k, w.frozen? ⟨b, k, none⟩ = false
def Own6 (w : World) (b : Nat) (n : Bool) (t o r d i : Int) : Prop := Cells6 w b n t o r d i ∧ ∀ k, w.frozen? ⟨b, k, none⟩ = false
theorem Own3.below {W w' : World} {b : Nat} {x y z : Int} (h : Own3 W b x y z) (hb : Below W.heap.size W w') : Own3 w' b x y z :=
  ⟨h.1.below hb, fun k => (hb.frozen (p := ⟨b, k, none⟩) (by have hl := World.block_lt_of_cell? W _ h.1.1; exact hl)).trans (h.2 k)⟩
theorem Own6.below {W w' : World} {b : Nat} {n : Bool} {t o r d i : Int} (h : Own6 W b n t o r d i) (hb : Below W.heap.size W w') : Own6 w' b n t o r d i :=
  ⟨h.1.below hb, fun k => (hb.frozen (p := ⟨b, k, none⟩) (by have hl := World.block_lt_of_cell? W _ h.1.1; exact hl)).trans (h.2 k)⟩
theorem own3_alloc (w : World) (t o r : Int) (T : TypeId) (g : Nat) (hg : g = w.heap.size) : Own3 (w.alloc (.cells #[.int .i64 t, .int .i64 o, .int .i64 r] T)) g t o r := by
  subst hg
  exact ⟨cells3_alloc w t o r T, fun k => by simp⟩
theorem own6_alloc (w : World) (n : Bool) (t o r d i : Int) (T : TypeId) (g : Nat) (hg : g = w.heap.size) : Own6 (w.alloc (.cells #[.bool n, .int .i64 t, .int .i64 o, .int .i64 r, .int .i64 d, .int .i64 i] T)) g n t o r d i := by
  subst hg
  exact ⟨cells6_alloc w n t o r d i T, fun k => by simp⟩
theorem set3 {w : World} {b : Nat} {x y z : Int} (h : Cells3 w b x y z) (t o r : Int) : Cells3 (((w.setCell ⟨b, 0, none⟩ (.int .i64 t)).setCell ⟨b, 1, none⟩ (.int .i64 o)).setCell ⟨b, 2, none⟩ (.int .i64 r)) b t o r := by
  obtain ⟨h0, h1, h2⟩ := h
  refine ⟨?_, ?_, ?_⟩ <;> simp [go_sem, h0, h1, h2]
theorem bel_set3 {B : Nat} {a w : World} {b : Nat} (h : Below B a w) (hB : B ≤ b) (t o r : Int) : Below B a (((w.setCell ⟨b, 0, none⟩ (.int .i64 t)).setCell ⟨b, 1, none⟩ (.int .i64 o)).setCell ⟨b, 2, none⟩ (.int .i64 r)) :=
  ((h.setCell (by exact hB) _).setCell (by exact hB) _).setCell (by exact hB) _
set_option maxHeartbeats 4000000 in
theorem level_any (n : Bool) (t o r d i : Int) (w : World) :
    Calls Try.prog 30 #[.agg #[.bool n, .int .i64 t, .int .i64 o, .int .i64 r, .int .i64 d, .int .i64 i]] w fun e w' => e = .returned (levV n t o r d i) ∧ Below w.heap.size w w' := by
  cases ht : told n t o r d i with
  | true =>
    rw [levV, if_pos ht]
    go_enter Try.func30, Try.ntmps30
    go_wp2_with (go_at_call 45; refine (isTold_any _ _ _ _ _ _ _).mono ?_; rintro e w' ⟨rfl, hb⟩; rw [ht]; have ⟨c0, c1, c2, c3, c4, c5⟩ := ((cells6_alloc w n t o r d i 24).below ((Below.refl _ _).alloc (Nat.le_refl _) (.cells #[.int .i64 0, .int .i64 0, .int .i64 0] 49))).below hb; have ⟨⟨k0, k1, k2⟩, fz⟩ := (own3_alloc (w.alloc (.cells #[.bool n, .int .i64 t, .int .i64 o, .int .i64 r, .int .i64 d, .int .i64 i] 24)) 0 0 0 49 (w.heap.size + 1) (by simp)).below hb; have HB : Hid (Below w.heap.size w w') := (((Below.refl _ w).alloc (Nat.le_refl _) _).alloc (by simp) _).trans (hb.mono (by simp; omega)); clear hb)
    have hs := set3 ⟨k0, k1, k2⟩ t o r
    have hbs := bel_set3 (b := w.heap.size + 1) HB.out (by omega) t o r
    generalize (((w'.setCell ⟨w.heap.size + 1, 0, none⟩ (.int .i64 t)).setCell ⟨w.heap.size + 1, 1, none⟩ (.int .i64 o)).setCell ⟨w.heap.size + 1, 2, none⟩ (.int .i64 r)) = W5 at *
    obtain ⟨s0, s1, s2⟩ := hs
    exact bodyPost_ret (v := .agg #[.int .i64 t, .int .i64 o, .int .i64 r]) (by simp [results, Try.results30, go_sem, s0, s1, s2]) rfl ⟨rfl, hbs⟩
  | false =>
    rw [levV, if_neg (by rw [ht]; decide)]
    go_enter Try.func30, Try.ntmps30
    go_wp2_with (go_at_call 45; refine (isTold_any _ _ _ _ _ _ _).mono ?_; rintro e w' ⟨rfl, hb⟩; rw [ht]; have ⟨c0, c1, c2, c3, c4, c5⟩ := ((cells6_alloc w n t o r d i 24).below ((Below.refl _ _).alloc (Nat.le_refl _) (.cells #[.int .i64 0, .int .i64 0, .int .i64 0] 49))).below hb; have ⟨⟨k0, k1, k2⟩, fz⟩ := (own3_alloc (w.alloc (.cells #[.bool n, .int .i64 t, .int .i64 o, .int .i64 r, .int .i64 d, .int .i64 i] 24)) 0 0 0 49 (w.heap.size + 1) (by simp)).below hb; have HB : Hid (Below w.heap.size w w') := (((Below.refl _ w).alloc (Nat.le_refl _) _).alloc (by simp) _).trans (hb.mono (by simp; omega)); clear hb)
    have hs := set3 ⟨k0, k1, k2⟩ 0 0 0
    have hbs := bel_set3 (b := w.heap.size + 1) HB.out (by omega) 0 0 0
    generalize (((w'.setCell ⟨w.heap.size + 1, 0, none⟩ (.int .i64 0)).setCell ⟨w.heap.size + 1, 1, none⟩ (.int .i64 0)).setCell ⟨w.heap.size + 1, 2, none⟩ (.int .i64 0)) = W5 at *
    obtain ⟨s0, s1, s2⟩ := hs
    exact bodyPost_ret (v := .agg #[.int .i64 0, .int .i64 0, .int .i64 0]) (by simp [results, Try.results30, go_sem, s0, s1, s2]) rfl ⟨rfl, hbs⟩
end Go.Proofs.Ytmimgpnogjgliaa

