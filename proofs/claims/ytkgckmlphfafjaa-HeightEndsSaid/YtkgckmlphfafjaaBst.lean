/- The best height of a row. No conditions but that the row is of a hundred at most. -/
import Derived.Test.YtkgckmlphfafjaaBst0
import Derived.Test.YtkgckmlphfafjaaTyp2
namespace Go.Proofs.Ytkgckmlphfafjaa
open Go.RowKit Go.Sort

def mor (x y : H6) : Bool := lss y x
theorem best_any (x y : H6) (w : World) : Calls Try.prog 40 #[ag x, ag y] w fun e w' => e = .returned (.bool (mor x y)) ∧ Below w.heap.size w w' := more_any x y w
/-- What the loop keeps. -/
def All (B : Nat) (w wr : World) (p : Option Addr) : Prop :=
  Cells6 wr B false 0 0 0 0 0 ∧ (∀ j, wr.frozen? ⟨B, j, none⟩ = false) ∧ wr.cell? ⟨B + 1, 0, none⟩ = some (.pointer p) ∧ wr.frozen? ⟨B + 1, 0, none⟩ = false ∧ Below B w wr
theorem keep_all {B : Nat} {w wr W : World} {p : Option Addr} (h : Below wr.heap.size wr W) (h1 : Cells6 wr B false 0 0 0 0 0) (h2 : ∀ j, wr.frozen? ⟨B, j, none⟩ = false) (h3 : wr.cell? ⟨B + 1, 0, none⟩ = some (.pointer p))
    (h4 : wr.frozen? ⟨B + 1, 0, none⟩ = false) (hl : B + 1 < wr.heap.size) (h5 : Below B w wr) :
    Cells6 W B false 0 0 0 0 0 ∧ (∀ j, W.frozen? ⟨B, j, none⟩ = false) ∧ W.cell? ⟨B + 1, 0, none⟩ = some (.pointer p) ∧ W.frozen? ⟨B + 1, 0, none⟩ = false ∧ Below B w W :=
  ⟨h1.below h, fun j => (h.frozen (p := ⟨B, j, none⟩) (Nat.lt_of_succ_lt hl)).trans (h2 j), (h.cell (p := ⟨B + 1, 0, none⟩) hl).trans h3, (h.frozen (p := ⟨B + 1, 0, none⟩) hl).trans h4, h5.trans (h.mono (by omega))⟩
theorem put_all {B : Nat} {w W W' : World} {p : Option Addr} {x : Addr} (hw : W' = W.setCell ⟨B + 1, 0, none⟩ (.pointer (some x))) (h1 : Cells6 W B false 0 0 0 0 0) (h2 : ∀ j, W.frozen? ⟨B, j, none⟩ = false) (h3 : W.cell? ⟨B + 1, 0, none⟩ = some (.pointer p))
    (h4 : W.frozen? ⟨B + 1, 0, none⟩ = false) (h5 : Below B w W) :
    Cells6 W' B false 0 0 0 0 0 ∧ (∀ j, W'.frozen? ⟨B, j, none⟩ = false) ∧ W'.cell? ⟨B + 1, 0, none⟩ = some (.pointer (some x)) ∧ W'.frozen? ⟨B + 1, 0, none⟩ = false ∧ Below B w W' := by
  subst hw
  have hb : Below (B + 1) W (W.setCell ⟨B + 1, 0, none⟩ (.pointer (some x))) := (Below.refl _ _).setCell (by exact Nat.le_refl _) _
  obtain ⟨c0, c1, c2, c3, c4, c5⟩ := h1
  have k : ∀ {j : Nat} {v : Value}, W.cell? ⟨B, j, none⟩ = some v → (W.setCell ⟨B + 1, 0, none⟩ (.pointer (some x))).cell? ⟨B, j, none⟩ = some v := fun {j v} h => by rw [hb.cell (p := ⟨B, j, none⟩) (Nat.lt_succ_self _)]; exact h
  refine ⟨⟨k c0, k c1, k c2, k c3, k c4, k c5⟩, fun j => (hb.frozen (p := ⟨B, j, none⟩) (Nat.lt_succ_self _)).trans (h2 j), by simp [go_sem, h3], by simp [go_sem, h4], h5.setCell (by exact Nat.le_succ B) _⟩

set_option maxHeartbeats 8000000 in
theorem best14 (a : Option Addr) (cap : Nat) (hs : List H6) (w : World) (hh : Hs w a hs) (h9 : hs.length ≤ 100) :
    Calls Try.prog 39 #[.slice a hs.length cap, .func (.func 14) #[] #[]] w fun e w' => e = .returned (.tuple #[ag (bv lss hs hs.length), .bool (bany lss hs hs.length)]) ∧ Below w.heap.size w w' := by
  go_enter Try.func39, Try.ntmps39
  go_wp2_with fail
  go_loopw [12] (fun i wr => ∃ k : Nat, k ≤ hs.length ∧ i = .int .i64 k ∧ Cells6 wr w.heap.size false 0 0 0 0 0 ∧ (∀ j, wr.frozen? ⟨w.heap.size, j, none⟩ = false) ∧ wr.cell? ⟨w.heap.size + 1, 0, none⟩ = some (.pointer (pv a (bst lss hs k))) ∧ wr.frozen? ⟨w.heap.size + 1, 0, none⟩ = false ∧ Below w.heap.size w wr) (fun i _ => hs.length - (intOf i).toNat)
  case atStart =>
    refine ⟨0, Nat.zero_le _, rfl, (cells6_alloc w false 0 0 0 0 0 23).below ((Below.refl _ _).alloc (Nat.le_refl _) _), fun j => by simp, ?_, by simp, ((Below.refl _ w).alloc (Nat.le_refl _) _).alloc (by simp) _⟩
    have e : pv a (bst lss hs 0) = none := by cases a <;> rfl
    rw [e]; simp
  case round =>
    obtain ⟨k, hk, rfl, hC0, hF, hp, hpf, hb⟩ := hrel
    have HB := Lib.hid hb
    have HPT := Lib.hid (fun p (h : pv a (bst lss hs k) = some p) => (pv_pts hh hk p h))
    have HL1 : Hid (w.heap.size + 1 < wr.heap.size) := World.block_lt_of_cell? wr ⟨w.heap.size + 1, 0, none⟩ hp
    have HL : Hid (w.heap.size < wr.heap.size) := Nat.lt_of_succ_lt HL1.out
    by_cases hlt : k < hs.length
    · obtain ⟨b, off, rfl, hB, hc6, hpts⟩ := hh k hlt
      have hcr : C6 wr b (off + k * 6) (hs.getD k z6) := hc6.below hb hB
      have hpts' := Lib.hid (Pts.below hpts hb hB)
      have HN := Lib.hid (fun h => bst_no (bt := lss) (hs := hs) (k := k) h)
      have HO := Lib.hid (fun h h2 => bst_none (bt := lss) (hs := hs) (k := k) h h2)
      have HS := Lib.hid (fun q h h2 => bst_some (bt := lss) (hs := hs) (k := k) (q := q) h h2)
      have hq : ∀ q, bst lss hs k = some q → C6 wr b (off + q * 6) (hs.getD q z6) ∧ Pts wr ⟨b, off + q * 6, none⟩ := fun q h => by
        obtain ⟨b', off', e, hB', h1, h2⟩ := hh q (Nat.lt_trans (bst_lt h) hlt)
        cases e
        exact ⟨h1.below hb hB', Pts.below h2 hb hB'⟩
      have HPT2 := Lib.hid (fun p h => Pts.below (HPT.out p h) hb (by
        cases hbb : bst lss hs k with
        | none => rw [hbb] at h; cases h
        | some q => rw [hbb] at h; cases h; exact hB))
      generalize hs.getD k z6 = x at *
      obtain ⟨n, t, o, r, d, i⟩ := x
      have hi1 : (k : Int) < (hs.length : Int) := by omega
      have hi0 : (0 : Int) ≤ (k : Int) := by omega
      have T0 := isTold_any n t o r d i
      clear hh hc6 hpts hb
      go_wp2_with fail
      refine (load45 _ _ _ hp HPT2.out).mono ?_
      rintro e w' ⟨rfl, rfl⟩
      obtain ⟨pp, hpp⟩ : ∃ pp, pp = pv (some ⟨b, off, none⟩) (bst lss hs k) := ⟨_, rfl⟩
      cases hT : told n t o r d i with
      | false =>
        have TA := T0
        rw [hT] at TA
        have HN' := Lib.hid (HN.out hT)
        have kc : ∀ w', Below wr.heap.size wr w' → C6 w' b (off + k * 6) (n, t, o, r, d, i) := fun w' h => hcr.below h (World.block_lt_of_cell? wr _ hcr.1)
        unfold C6 at kc
        have HPP := Lib.hid hpp
        rw [← hpp] at hp HPT2 ⊢
        clear hq T0 hT HO HS hcr hpp HPT
        go_wp2_with fail
        refine wp_region_typed (C := fun w' => Below wr.heap.size wr w') (X := fun w w' => Below w.heap.size w w') (n := 48) (by kernel_rfl) (by kernel_rfl) rfl (fun w => Below.refl _ w) (Below.refl _ _).drew ?_
        refine w_is (fun w => Below.refl _ w) _ (.inl rfl) (fun ρ w hC hc hfn hf => by have e0 : ρ (.tmp 0) = _ := hf 0 (by decide); (conv => lhs; simp [execOp, go_sem, hc, e0])) ?_
        refine w_is (fun w => Below.refl _ w) _ (.inl rfl) (fun ρ w hC hc hfn hf => by have e7 : ρ (.tmp 7) = _ := hf 7 (by decide); (conv => lhs; simp [execOp, go_sem, hc, e7])) ?_
        refine w_is (fun w => Below.refl _ w) _ (.inl rfl) (fun ρ w hC hc hfn hf => by have e16 : ρ (.tmp 16) = _ := hf 16 (by decide); have e17 : ρ (.tmp 17) = _ := hf 17 (by decide); (conv => lhs; simp [execOp, go_sem, hc, e16, e17, hi1, hi0])) ?_
        refine w_is (fun w => Below.refl _ w) _ (.inl rfl) (fun ρ w hC hc hfn hf => by have e18 : ρ (.tmp 18) = _ := hf 18 (by decide); (conv => lhs; simp [execOp, go_sem, hc, e18, kc w hC])) ?_
        refine w_call (Is _) (fun _ _ _ h _ => h) 33 (.inl rfl) (fun ρ w hC hc hfn hf => by have e19 : ρ (.tmp 19) = _ := hf 19 (by decide); exact ⟨_, by (conv => lhs; simp [execOp, resolve, invoke, go_sem, hc, hfn, e19]), (tc_below hC (TA w))⟩) ?_
        refine w_is (fun w => Below.refl _ w) _ (.inl rfl) (fun ρ w hC hc hfn hf => by have e20 : ρ (.tmp 20) = _ := hf 20 (by decide); (conv => lhs; simp [execOp, go_sem, hc, e20])) ?_
        refine w_skip rfl rfl (known_is rfl) ?_
        refine w_skip rfl rfl (known_is rfl) ?_
        refine w_skip rfl rfl (known_is rfl) ?_
        refine w_skipU rfl rfl (known_is rfl) ?_
        refine w_skipU rfl rfl (known_is rfl) ?_
        refine w_skipU rfl rfl (known_is rfl) ?_
        refine w_skipU rfl rfl (known_is rfl) ?_
        refine w_skipU rfl rfl (known_is rfl) ?_
        refine w_skipU rfl rfl (known_is rfl) ?_
        refine w_skipU rfl rfl (known_is rfl) ?_
        refine w_skipU rfl rfl (known_is rfl) ?_
        refine w_skipU rfl rfl (known_is rfl) ?_
        refine w_skip rfl rfl (known_is rfl) ?_
        refine w_is (fun w => Below.refl _ w) _ (.inl rfl) (fun ρ w hC hc hfn hf => by have e21 : ρ (.tmp 21) = _ := hf 21 (by decide); have e34 : ρ (.tmp 34) = _ := hf 34 (by decide); (conv => lhs; simp [execOp, go_sem, hc, e21, e34])) ?_
        intro A W4 hC hn hd hf
        have y0 : A.eval (.tmp 0) = _ := Eq.trans (hf 0) (by conv => lhs; simp [go_sem])
        have y1 : A.eval (.tmp 1) = _ := Eq.trans (hf 1) (by conv => lhs; simp [go_sem])
        have y2 : A.eval (.tmp 2) = _ := Eq.trans (hf 2) (by conv => lhs; simp [go_sem])
        have y3 : A.eval (.tmp 3) = _ := Eq.trans (hf 3) (by conv => lhs; simp [go_sem])
        have y4 : A.eval (.tmp 4) = _ := Eq.trans (hf 4) (by conv => lhs; simp [go_sem])
        have y5 : A.eval (.tmp 5) = _ := Eq.trans (hf 5) (by conv => lhs; simp [go_sem])
        have y6 : A.eval (.tmp 6) = _ := Eq.trans (hf 6) (by conv => lhs; simp [go_sem])
        have y7 : A.eval (.tmp 7) = _ := Eq.trans (hf 7) (by conv => lhs; simp [go_sem])
        have y8 : A.eval (.tmp 8) = _ := Eq.trans (hf 8) (by conv => lhs; simp [go_sem])
        have y9 : A.eval (.tmp 9) = _ := Eq.trans (hf 9) (by conv => lhs; simp [go_sem])
        have y10 : A.eval (.tmp 10) = _ := Eq.trans (hf 10) (by conv => lhs; simp [go_sem])
        have y11 : A.eval (.tmp 11) = _ := Eq.trans (hf 11) (by conv => lhs; simp [go_sem])
        have y12 : A.eval (.tmp 12) = _ := Eq.trans (hf 12) (by conv => lhs; simp [go_sem])
        have y13 : A.eval (.tmp 13) = _ := Eq.trans (hf 13) (by conv => lhs; simp [go_sem])
        have y14 : A.eval (.tmp 14) = _ := Eq.trans (hf 14) (by conv => lhs; simp [go_sem])
        have y15 : A.eval (.tmp 15) = _ := Eq.trans (hf 15) (by conv => lhs; simp [go_sem])
        have y16 : A.eval (.tmp 16) = _ := hf 16
        have y17 : A.eval (.tmp 17) = _ := hf 17
        have y18 : A.eval (.tmp 18) = _ := hf 18
        have y19 : A.eval (.tmp 19) = _ := hf 19
        have y20 : A.eval (.tmp 20) = _ := hf 20
        have y21 : A.eval (.tmp 21) = _ := hf 21
        have y22 : A.eval (.tmp 22) = _ := hf 22
        have y23 : A.eval (.tmp 23) = _ := hf 23
        have y24 : A.eval (.tmp 24) = _ := hf 24
        have y25 : A.eval (.tmp 25) = _ := hf 25
        have y26 : A.eval (.tmp 26) = _ := hf 26
        have y27 : A.eval (.tmp 27) = _ := hf 27
        have y28 : A.eval (.tmp 28) = _ := hf 28
        have y29 : A.eval (.tmp 29) = _ := hf 29
        have y30 : A.eval (.tmp 30) = _ := hf 30
        have y31 : A.eval (.tmp 31) = _ := hf 31
        have y32 : A.eval (.tmp 32) = _ := hf 32
        have y33 : A.eval (.tmp 33) = _ := hf 33
        have y34 : A.eval (.tmp 34) = _ := hf 34
        have y35 : A.eval (.tmp 35) = _ := hf 35
        have y36 : A.eval (.tmp 36) = _ := Eq.trans (hf 36) (by conv => lhs; simp [go_sem])
        have y37 : A.eval (.tmp 37) = _ := Eq.trans (hf 37) (by conv => lhs; simp [go_sem])
        have y38 : A.eval (.tmp 38) = _ := Eq.trans (hf 38) (by conv => lhs; simp [go_sem])
        have y39 : A.eval (.tmp 39) = _ := Eq.trans (hf 39) (by conv => lhs; simp [go_sem])
        have y40 : A.eval (.tmp 40) = _ := Eq.trans (hf 40) (by conv => lhs; simp [go_sem])
        have y41 : A.eval (.tmp 41) = _ := Eq.trans (hf 41) (by conv => lhs; simp [go_sem])
        have y42 : A.eval (.tmp 42) = _ := Eq.trans (hf 42) (by conv => lhs; simp [go_sem])
        have y43 : A.eval (.tmp 43) = _ := Eq.trans (hf 43) (by conv => lhs; simp [go_sem])
        have y44 : A.eval (.tmp 44) = _ := Eq.trans (hf 44) (by conv => lhs; simp [go_sem])
        have y45 : A.eval (.tmp 45) = _ := Eq.trans (hf 45) (by conv => lhs; simp [go_sem])
        have y46 : A.eval (.tmp 46) = _ := Eq.trans (hf 46) (by conv => lhs; simp [go_sem])
        have y47 : A.eval (.tmp 47) = _ := Eq.trans (hf 47) (by conv => lhs; simp [go_sem])
        clear hf
        have hA := frame_eq hn
        rw [show List.range 48 = [0, 1, 2, 3, 4, 5, 6, 7, 8, 9, 10, 11, 12, 13, 14, 15, 16, 17, 18, 19, 20, 21, 22, 23, 24, 25, 26, 27, 28, 29, 30, 31, 32, 33, 34, 35, 36, 37, 38, 39, 40, 41, 42, 43, 44, 45, 46, 47] from rfl, hd] at hA
        simp only [List.map_cons, List.map_nil, y0, y1, y2, y3, y4, y5, y6, y7, y8, y9, y10, y11, y12, y13, y14, y15, y16, y17, y18, y19, y20, y21, y22, y23, y24, y25, y26, y27, y28, y29, y30, y31, y32, y33, y34, y35, y36, y37, y38, y39, y40, y41, y42, y43, y44, y45, y46, y47] at hA
        clear y0 y1 y2 y3 y4 y5 y6 y7 y8 y9 y10 y11 y12 y13 y14 y15 y16 y17 y18 y19 y20 y21 y22 y23 y24 y25 y26 y27 y28 y29 y30 y31 y32 y33 y34 y35 y36 y37 y38 y39 y40 y41 y42 y43 y44 y45 y46 y47
        clear hn hd
        subst hA
        have HR := Lib.hid (keep_all hC hC0 hF hp hpf HL1.out HB.out)
        clear hC hC0 hF hp hpf kc HPT2
        go_wp2_with fail
        go_roundw
        case rel =>
          have R := HR.out
          rw [HPP.out, ← HN'.out] at R
          exact ⟨k + 1, by omega, by go_num, R⟩
        case measure => simp [intOf]; omega
      | true =>
        have TA := T0
        rw [hT] at TA
        cases hbk : bst lss hs k with
        | none =>
          have HO' := Lib.hid (HO.out hT hbk)
          have kc : ∀ w', Below wr.heap.size wr w' → C6 w' b (off + k * 6) (n, t, o, r, d, i) := fun w' h => hcr.below h (World.block_lt_of_cell? wr _ hcr.1)
          unfold C6 at kc
          rw [hbk] at hp hpp
          obtain rfl : pp = none := hpp
          have hp : wr.cell? ⟨w.heap.size + 1, 0, none⟩ = some (.pointer none) := hp
          rw [show pv (some ⟨b, off, none⟩) none = none from rfl]
          clear hq T0 hT HO HS HN hcr HPT HPT2 hbk
          go_wp2_with fail
          refine wp_region_typed (C := fun w' => Below wr.heap.size wr w') (X := fun w w' => Below w.heap.size w w') (n := 48) (by kernel_rfl) (by kernel_rfl) rfl (fun w => Below.refl _ w) (Below.refl _ _).drew ?_
          refine w_is (fun w => Below.refl _ w) _ (.inl rfl) (fun ρ w hC hc hfn hf => by have e0 : ρ (.tmp 0) = _ := hf 0 (by decide); (conv => lhs; simp [execOp, go_sem, hc, e0])) ?_
          refine w_is (fun w => Below.refl _ w) _ (.inl rfl) (fun ρ w hC hc hfn hf => by have e7 : ρ (.tmp 7) = _ := hf 7 (by decide); (conv => lhs; simp [execOp, go_sem, hc, e7])) ?_
          refine w_is (fun w => Below.refl _ w) _ (.inl rfl) (fun ρ w hC hc hfn hf => by have e16 : ρ (.tmp 16) = _ := hf 16 (by decide); have e17 : ρ (.tmp 17) = _ := hf 17 (by decide); (conv => lhs; simp [execOp, go_sem, hc, e16, e17, hi1, hi0])) ?_
          refine w_is (fun w => Below.refl _ w) _ (.inl rfl) (fun ρ w hC hc hfn hf => by have e18 : ρ (.tmp 18) = _ := hf 18 (by decide); (conv => lhs; simp [execOp, go_sem, hc, e18, kc w hC])) ?_
          refine w_call (Is _) (fun _ _ _ h _ => h) 33 (.inl rfl) (fun ρ w hC hc hfn hf => by have e19 : ρ (.tmp 19) = _ := hf 19 (by decide); exact ⟨_, by (conv => lhs; simp [execOp, resolve, invoke, go_sem, hc, hfn, e19]), (tc_below hC (TA w))⟩) ?_
          refine w_is (fun w => Below.refl _ w) _ (.inl rfl) (fun ρ w hC hc hfn hf => by have e20 : ρ (.tmp 20) = _ := hf 20 (by decide); (conv => lhs; simp [execOp, go_sem, hc, e20])) ?_
          refine w_is (fun w => Below.refl _ w) _ (.inr ⟨5, 21, true, rfl, rfl, known_is rfl⟩) (fun ρ w hC hc hfn hf => by have e8 : ρ (.tmp 8) = _ := hf 8 (by decide); (conv => lhs; simp [execOp, go_sem, hc, e8])) ?_
          refine w_is (fun w => Below.refl _ w) _ (.inr ⟨5, 21, true, rfl, rfl, known_is rfl⟩) (fun ρ w hC hc hfn hf => by have e22 : ρ (.tmp 22) = _ := hf 22 (by decide); (conv => lhs; simp [execOp, go_sem, hc, e22])) ?_
          refine w_is (fun w => Below.refl _ w) _ (.inr ⟨5, 21, true, rfl, rfl, known_is rfl⟩) (fun ρ w hC hc hfn hf => by have e23 : ρ (.tmp 23) = _ := hf 23 (by decide); (conv => lhs; simp [execOp, go_sem, hc, e23])) ?_
          refine w_skip rfl rfl (known_is rfl) ?_
          refine w_skip rfl rfl (known_is rfl) ?_
          refine w_skip rfl rfl (known_is rfl) ?_
          refine w_skip rfl rfl (known_is rfl) ?_
          refine w_skip rfl rfl (known_is rfl) ?_
          refine w_skip rfl rfl (known_is rfl) ?_
          refine w_skip rfl rfl (known_is rfl) ?_
          refine w_skip rfl rfl (known_is rfl) ?_
          refine w_skip rfl rfl (known_is rfl) ?_
          refine w_is (fun w => Below.refl _ w) _ (.inr ⟨5, 21, true, rfl, rfl, known_is rfl⟩) (fun ρ w hC hc hfn hf => by have e24 : ρ (.tmp 24) = _ := hf 24 (by decide); have e33 : ρ (.tmp 33) = _ := hf 33 (by decide); (conv => lhs; simp [execOp, go_sem, hc, e24, e33])) ?_
          refine w_is (fun w => Below.refl _ w) _ (.inl rfl) (fun ρ w hC hc hfn hf => by have e21 : ρ (.tmp 21) = _ := hf 21 (by decide); have e34 : ρ (.tmp 34) = _ := hf 34 (by decide); (conv => lhs; simp [execOp, go_sem, hc, e21, e34])) ?_
          intro A W4 hC hn hd hf
          have y0 : A.eval (.tmp 0) = _ := Eq.trans (hf 0) (by conv => lhs; simp [go_sem])
          have y1 : A.eval (.tmp 1) = _ := Eq.trans (hf 1) (by conv => lhs; simp [go_sem])
          have y2 : A.eval (.tmp 2) = _ := Eq.trans (hf 2) (by conv => lhs; simp [go_sem])
          have y3 : A.eval (.tmp 3) = _ := Eq.trans (hf 3) (by conv => lhs; simp [go_sem])
          have y4 : A.eval (.tmp 4) = _ := Eq.trans (hf 4) (by conv => lhs; simp [go_sem])
          have y5 : A.eval (.tmp 5) = _ := Eq.trans (hf 5) (by conv => lhs; simp [go_sem])
          have y6 : A.eval (.tmp 6) = _ := Eq.trans (hf 6) (by conv => lhs; simp [go_sem])
          have y7 : A.eval (.tmp 7) = _ := Eq.trans (hf 7) (by conv => lhs; simp [go_sem])
          have y8 : A.eval (.tmp 8) = _ := Eq.trans (hf 8) (by conv => lhs; simp [go_sem])
          have y9 : A.eval (.tmp 9) = _ := Eq.trans (hf 9) (by conv => lhs; simp [go_sem])
          have y10 : A.eval (.tmp 10) = _ := Eq.trans (hf 10) (by conv => lhs; simp [go_sem])
          have y11 : A.eval (.tmp 11) = _ := Eq.trans (hf 11) (by conv => lhs; simp [go_sem])
          have y12 : A.eval (.tmp 12) = _ := Eq.trans (hf 12) (by conv => lhs; simp [go_sem])
          have y13 : A.eval (.tmp 13) = _ := Eq.trans (hf 13) (by conv => lhs; simp [go_sem])
          have y14 : A.eval (.tmp 14) = _ := Eq.trans (hf 14) (by conv => lhs; simp [go_sem])
          have y15 : A.eval (.tmp 15) = _ := Eq.trans (hf 15) (by conv => lhs; simp [go_sem])
          have y16 : A.eval (.tmp 16) = _ := hf 16
          have y17 : A.eval (.tmp 17) = _ := hf 17
          have y18 : A.eval (.tmp 18) = _ := hf 18
          have y19 : A.eval (.tmp 19) = _ := hf 19
          have y20 : A.eval (.tmp 20) = _ := hf 20
          have y21 : A.eval (.tmp 21) = _ := hf 21
          have y22 : A.eval (.tmp 22) = _ := hf 22
          have y23 : A.eval (.tmp 23) = _ := hf 23
          have y24 : A.eval (.tmp 24) = _ := hf 24
          have y25 : A.eval (.tmp 25) = _ := hf 25
          have y26 : A.eval (.tmp 26) = _ := hf 26
          have y27 : A.eval (.tmp 27) = _ := hf 27
          have y28 : A.eval (.tmp 28) = _ := hf 28
          have y29 : A.eval (.tmp 29) = _ := hf 29
          have y30 : A.eval (.tmp 30) = _ := hf 30
          have y31 : A.eval (.tmp 31) = _ := hf 31
          have y32 : A.eval (.tmp 32) = _ := hf 32
          have y33 : A.eval (.tmp 33) = _ := hf 33
          have y34 : A.eval (.tmp 34) = _ := hf 34
          have y35 : A.eval (.tmp 35) = _ := hf 35
          have y36 : A.eval (.tmp 36) = _ := Eq.trans (hf 36) (by conv => lhs; simp [go_sem])
          have y37 : A.eval (.tmp 37) = _ := Eq.trans (hf 37) (by conv => lhs; simp [go_sem])
          have y38 : A.eval (.tmp 38) = _ := Eq.trans (hf 38) (by conv => lhs; simp [go_sem])
          have y39 : A.eval (.tmp 39) = _ := Eq.trans (hf 39) (by conv => lhs; simp [go_sem])
          have y40 : A.eval (.tmp 40) = _ := Eq.trans (hf 40) (by conv => lhs; simp [go_sem])
          have y41 : A.eval (.tmp 41) = _ := Eq.trans (hf 41) (by conv => lhs; simp [go_sem])
          have y42 : A.eval (.tmp 42) = _ := Eq.trans (hf 42) (by conv => lhs; simp [go_sem])
          have y43 : A.eval (.tmp 43) = _ := Eq.trans (hf 43) (by conv => lhs; simp [go_sem])
          have y44 : A.eval (.tmp 44) = _ := Eq.trans (hf 44) (by conv => lhs; simp [go_sem])
          have y45 : A.eval (.tmp 45) = _ := Eq.trans (hf 45) (by conv => lhs; simp [go_sem])
          have y46 : A.eval (.tmp 46) = _ := Eq.trans (hf 46) (by conv => lhs; simp [go_sem])
          have y47 : A.eval (.tmp 47) = _ := Eq.trans (hf 47) (by conv => lhs; simp [go_sem])
          clear hf
          have hA := frame_eq hn
          rw [show List.range 48 = [0, 1, 2, 3, 4, 5, 6, 7, 8, 9, 10, 11, 12, 13, 14, 15, 16, 17, 18, 19, 20, 21, 22, 23, 24, 25, 26, 27, 28, 29, 30, 31, 32, 33, 34, 35, 36, 37, 38, 39, 40, 41, 42, 43, 44, 45, 46, 47] from rfl, hd] at hA
          simp only [List.map_cons, List.map_nil, y0, y1, y2, y3, y4, y5, y6, y7, y8, y9, y10, y11, y12, y13, y14, y15, y16, y17, y18, y19, y20, y21, y22, y23, y24, y25, y26, y27, y28, y29, y30, y31, y32, y33, y34, y35, y36, y37, y38, y39, y40, y41, y42, y43, y44, y45, y46, y47] at hA
          clear y0 y1 y2 y3 y4 y5 y6 y7 y8 y9 y10 y11 y12 y13 y14 y15 y16 y17 y18 y19 y20 y21 y22 y23 y24 y25 y26 y27 y28 y29 y30 y31 y32 y33 y34 y35 y36 y37 y38 y39 y40 y41 y42 y43 y44 y45 y46 y47
          clear hn hd
          subst hA
          have HR := Lib.hid (keep_all hC hC0 hF hp hpf HL1.out HB.out)
          have hpt4 := Lib.hid (hpts'.out.below hC (World.block_lt_of_cell? wr _ hpts'.out.1.choose_spec))
          clear hC hC0 hF hp hpf kc
          obtain ⟨k1, k2, k3, k4, k5⟩ := HR.out
          go_wp2_with fail
          refine (store46 _ none _ W4 k3 k4 hpt4.out).mono ?_
          rintro e W5 ⟨rfl, hw⟩
          have HR5 := Lib.hid (put_all hw k1 k2 k3 k4 k5)
          clear hw k1 k2 k3 k4 k5
          go_wp2_with fail
          go_roundw
          case rel =>
            have R := HR5.out
            rw [show (some ⟨b, off + k * 6, none⟩ : Option Addr) = pv (some ⟨b, off, none⟩) (some k) from rfl, ← HO'.out] at R
            exact ⟨k + 1, by omega, by go_num, R⟩
          case measure => simp [intOf]; omega
        | some q =>
          obtain ⟨hcq, hpq⟩ := hq q hbk
          have HS' := Lib.hid (HS.out q hT hbk)
          have BA0 := fun w => least_any (n, t, o, r, d, i) (hs.getD q z6) w
          generalize hs.getD q z6 = y at *
          obtain ⟨n', t', o', r', d', i'⟩ := y
          have kc : ∀ w', Below wr.heap.size wr w' → C6 w' b (off + k * 6) (n, t, o, r, d, i) ∧ C6 w' b (off + q * 6) (n', t', o', r', d', i') := fun w' h => ⟨hcr.below h (World.block_lt_of_cell? wr _ hcr.1), hcq.below h (World.block_lt_of_cell? wr _ hcq.1)⟩
          unfold C6 at kc
          obtain ⟨z, hz⟩ : ∃ z, z = lss (n, t, o, r, d, i) (n', t', o', r', d', i') := ⟨_, rfl⟩
          rw [← hz] at HS'
          have BA : ∀ w, Calls Try.prog 14 #[.agg #[.bool n, .int .i64 t, .int .i64 o, .int .i64 r, .int .i64 d, .int .i64 i], .agg #[.bool n', .int .i64 t', .int .i64 o', .int .i64 r', .int .i64 d', .int .i64 i']] w fun e w' => e = .returned (.bool z) ∧ Below w.heap.size w w' := fun w => by rw [hz]; exact BA0 w
          rw [hbk] at hp hpp
          obtain rfl : pp = some ⟨b, off + q * 6, none⟩ := hpp
          have hp : wr.cell? ⟨w.heap.size + 1, 0, none⟩ = some (.pointer (some ⟨b, off + q * 6, none⟩)) := hp
          have hpq' := Lib.hid hpq
          rw [show pv (some ⟨b, off, none⟩) (some q) = some ⟨b, off + q * 6, none⟩ from rfl]
          clear hq T0 hT HO HS HN hcr hcq HPT HPT2 hbk BA0 hz hpq
          go_wp2_with fail
          refine wp_region_typed (C := fun w' => Below wr.heap.size wr w') (X := fun w w' => Below w.heap.size w w') (n := 48) (by kernel_rfl) (by kernel_rfl) rfl (fun w => Below.refl _ w) (Below.refl _ _).drew ?_
          refine w_is (fun w => Below.refl _ w) _ (.inl rfl) (fun ρ w hC hc hfn hf => by have e0 : ρ (.tmp 0) = _ := hf 0 (by decide); (conv => lhs; simp [execOp, go_sem, hc, e0])) ?_
          refine w_is (fun w => Below.refl _ w) _ (.inl rfl) (fun ρ w hC hc hfn hf => by have e7 : ρ (.tmp 7) = _ := hf 7 (by decide); (conv => lhs; simp [execOp, go_sem, hc, e7])) ?_
          refine w_is (fun w => Below.refl _ w) _ (.inl rfl) (fun ρ w hC hc hfn hf => by have e16 : ρ (.tmp 16) = _ := hf 16 (by decide); have e17 : ρ (.tmp 17) = _ := hf 17 (by decide); (conv => lhs; simp [execOp, go_sem, hc, e16, e17, hi1, hi0])) ?_
          refine w_is (fun w => Below.refl _ w) _ (.inl rfl) (fun ρ w hC hc hfn hf => by have e18 : ρ (.tmp 18) = _ := hf 18 (by decide); (conv => lhs; simp [execOp, go_sem, hc, e18, kc w hC])) ?_
          refine w_call (Is _) (fun _ _ _ h _ => h) 33 (.inl rfl) (fun ρ w hC hc hfn hf => by have e19 : ρ (.tmp 19) = _ := hf 19 (by decide); exact ⟨_, by (conv => lhs; simp [execOp, resolve, invoke, go_sem, hc, hfn, e19]), (tc_below hC (TA w))⟩) ?_
          refine w_is (fun w => Below.refl _ w) _ (.inl rfl) (fun ρ w hC hc hfn hf => by have e20 : ρ (.tmp 20) = _ := hf 20 (by decide); (conv => lhs; simp [execOp, go_sem, hc, e20])) ?_
          refine w_is (fun w => Below.refl _ w) _ (.inr ⟨5, 21, true, rfl, rfl, known_is rfl⟩) (fun ρ w hC hc hfn hf => by have e8 : ρ (.tmp 8) = _ := hf 8 (by decide); (conv => lhs; simp [execOp, go_sem, hc, e8])) ?_
          refine w_is (fun w => Below.refl _ w) _ (.inr ⟨5, 21, true, rfl, rfl, known_is rfl⟩) (fun ρ w hC hc hfn hf => by have e22 : ρ (.tmp 22) = _ := hf 22 (by decide); (conv => lhs; simp [execOp, go_sem, hc, e22])) ?_
          refine w_is (fun w => Below.refl _ w) _ (.inr ⟨5, 21, true, rfl, rfl, known_is rfl⟩) (fun ρ w hC hc hfn hf => by have e23 : ρ (.tmp 23) = _ := hf 23 (by decide); (conv => lhs; simp [execOp, go_sem, hc, e23])) ?_
          refine w_is (fun w => Below.refl _ w) _ (.inr ⟨8, 24, false, rfl, rfl, known_is rfl⟩) (fun ρ w hC hc hfn hf => by have e1 : ρ (.tmp 1) = _ := hf 1 (by decide); (conv => lhs; simp [execOp, go_sem, hc, e1])) ?_
          refine w_is (fun w => Below.refl _ w) _ (.inr ⟨8, 24, false, rfl, rfl, known_is rfl⟩) (fun ρ w hC hc hfn hf => by have e0 : ρ (.tmp 0) = _ := hf 0 (by decide); (conv => lhs; simp [execOp, go_sem, hc, e0])) ?_
          refine w_is (fun w => Below.refl _ w) _ (.inr ⟨8, 24, false, rfl, rfl, known_is rfl⟩) (fun ρ w hC hc hfn hf => by have e7 : ρ (.tmp 7) = _ := hf 7 (by decide); (conv => lhs; simp [execOp, go_sem, hc, e7])) ?_
          refine w_is (fun w => Below.refl _ w) _ (.inr ⟨8, 24, false, rfl, rfl, known_is rfl⟩) (fun ρ w hC hc hfn hf => by have e26 : ρ (.tmp 26) = _ := hf 26 (by decide); have e27 : ρ (.tmp 27) = _ := hf 27 (by decide); (conv => lhs; simp [execOp, go_sem, hc, e26, e27, hi1, hi0])) ?_
          refine w_is (fun w => Below.refl _ w) _ (.inr ⟨8, 24, false, rfl, rfl, known_is rfl⟩) (fun ρ w hC hc hfn hf => by have e28 : ρ (.tmp 28) = _ := hf 28 (by decide); (conv => lhs; simp [execOp, go_sem, hc, e28, kc w hC])) ?_
          refine w_is (fun w => Below.refl _ w) _ (.inr ⟨8, 24, false, rfl, rfl, known_is rfl⟩) (fun ρ w hC hc hfn hf => by have e8 : ρ (.tmp 8) = _ := hf 8 (by decide); (conv => lhs; simp [execOp, go_sem, hc, e8])) ?_
          refine w_is (fun w => Below.refl _ w) _ (.inr ⟨8, 24, false, rfl, rfl, known_is rfl⟩) (fun ρ w hC hc hfn hf => by have e30 : ρ (.tmp 30) = _ := hf 30 (by decide); (conv => lhs; simp [execOp, go_sem, hc, e30])) ?_
          refine w_is (fun w => Below.refl _ w) _ (.inr ⟨8, 24, false, rfl, rfl, known_is rfl⟩) (fun ρ w hC hc hfn hf => by have e31 : ρ (.tmp 31) = _ := hf 31 (by decide); (conv => lhs; simp [execOp, go_sem, hc, e31, kc w hC])) ?_
          refine w_call (Is _) (fun _ _ _ h _ => h) 14 (.inr ⟨8, 24, false, rfl, rfl, known_is rfl⟩) (fun ρ w hC hc hfn hf => by have e25 : ρ (.tmp 25) = _ := hf 25 (by decide); have e29 : ρ (.tmp 29) = _ := hf 29 (by decide); have e32 : ρ (.tmp 32) = _ := hf 32 (by decide); exact ⟨_, by (conv => lhs; simp [execOp, resolve, invoke, go_sem, hc, hfn, e25, e29, e32]), (tc_below hC (BA w))⟩) ?_
          refine w_is (fun w => Below.refl _ w) _ (.inr ⟨5, 21, true, rfl, rfl, known_is rfl⟩) (fun ρ w hC hc hfn hf => by have e24 : ρ (.tmp 24) = _ := hf 24 (by decide); have e33 : ρ (.tmp 33) = _ := hf 33 (by decide); (conv => lhs; simp [execOp, go_sem, hc, e24, e33])) ?_
          refine w_is (fun w => Below.refl _ w) _ (.inl rfl) (fun ρ w hC hc hfn hf => by have e21 : ρ (.tmp 21) = _ := hf 21 (by decide); have e34 : ρ (.tmp 34) = _ := hf 34 (by decide); (conv => lhs; simp [execOp, go_sem, hc, e21, e34])) ?_
          intro A W4 hC hn hd hf
          have y0 : A.eval (.tmp 0) = _ := Eq.trans (hf 0) (by conv => lhs; simp [go_sem])
          have y1 : A.eval (.tmp 1) = _ := Eq.trans (hf 1) (by conv => lhs; simp [go_sem])
          have y2 : A.eval (.tmp 2) = _ := Eq.trans (hf 2) (by conv => lhs; simp [go_sem])
          have y3 : A.eval (.tmp 3) = _ := Eq.trans (hf 3) (by conv => lhs; simp [go_sem])
          have y4 : A.eval (.tmp 4) = _ := Eq.trans (hf 4) (by conv => lhs; simp [go_sem])
          have y5 : A.eval (.tmp 5) = _ := Eq.trans (hf 5) (by conv => lhs; simp [go_sem])
          have y6 : A.eval (.tmp 6) = _ := Eq.trans (hf 6) (by conv => lhs; simp [go_sem])
          have y7 : A.eval (.tmp 7) = _ := Eq.trans (hf 7) (by conv => lhs; simp [go_sem])
          have y8 : A.eval (.tmp 8) = _ := Eq.trans (hf 8) (by conv => lhs; simp [go_sem])
          have y9 : A.eval (.tmp 9) = _ := Eq.trans (hf 9) (by conv => lhs; simp [go_sem])
          have y10 : A.eval (.tmp 10) = _ := Eq.trans (hf 10) (by conv => lhs; simp [go_sem])
          have y11 : A.eval (.tmp 11) = _ := Eq.trans (hf 11) (by conv => lhs; simp [go_sem])
          have y12 : A.eval (.tmp 12) = _ := Eq.trans (hf 12) (by conv => lhs; simp [go_sem])
          have y13 : A.eval (.tmp 13) = _ := Eq.trans (hf 13) (by conv => lhs; simp [go_sem])
          have y14 : A.eval (.tmp 14) = _ := Eq.trans (hf 14) (by conv => lhs; simp [go_sem])
          have y15 : A.eval (.tmp 15) = _ := Eq.trans (hf 15) (by conv => lhs; simp [go_sem])
          have y16 : A.eval (.tmp 16) = _ := hf 16
          have y17 : A.eval (.tmp 17) = _ := hf 17
          have y18 : A.eval (.tmp 18) = _ := hf 18
          have y19 : A.eval (.tmp 19) = _ := hf 19
          have y20 : A.eval (.tmp 20) = _ := hf 20
          have y21 : A.eval (.tmp 21) = _ := hf 21
          have y22 : A.eval (.tmp 22) = _ := hf 22
          have y23 : A.eval (.tmp 23) = _ := hf 23
          have y24 : A.eval (.tmp 24) = _ := hf 24
          have y25 : A.eval (.tmp 25) = _ := hf 25
          have y26 : A.eval (.tmp 26) = _ := hf 26
          have y27 : A.eval (.tmp 27) = _ := hf 27
          have y28 : A.eval (.tmp 28) = _ := hf 28
          have y29 : A.eval (.tmp 29) = _ := hf 29
          have y30 : A.eval (.tmp 30) = _ := hf 30
          have y31 : A.eval (.tmp 31) = _ := hf 31
          have y32 : A.eval (.tmp 32) = _ := hf 32
          have y33 : A.eval (.tmp 33) = _ := hf 33
          have y34 : A.eval (.tmp 34) = _ := hf 34
          have y35 : A.eval (.tmp 35) = _ := hf 35
          have y36 : A.eval (.tmp 36) = _ := Eq.trans (hf 36) (by conv => lhs; simp [go_sem])
          have y37 : A.eval (.tmp 37) = _ := Eq.trans (hf 37) (by conv => lhs; simp [go_sem])
          have y38 : A.eval (.tmp 38) = _ := Eq.trans (hf 38) (by conv => lhs; simp [go_sem])
          have y39 : A.eval (.tmp 39) = _ := Eq.trans (hf 39) (by conv => lhs; simp [go_sem])
          have y40 : A.eval (.tmp 40) = _ := Eq.trans (hf 40) (by conv => lhs; simp [go_sem])
          have y41 : A.eval (.tmp 41) = _ := Eq.trans (hf 41) (by conv => lhs; simp [go_sem])
          have y42 : A.eval (.tmp 42) = _ := Eq.trans (hf 42) (by conv => lhs; simp [go_sem])
          have y43 : A.eval (.tmp 43) = _ := Eq.trans (hf 43) (by conv => lhs; simp [go_sem])
          have y44 : A.eval (.tmp 44) = _ := Eq.trans (hf 44) (by conv => lhs; simp [go_sem])
          have y45 : A.eval (.tmp 45) = _ := Eq.trans (hf 45) (by conv => lhs; simp [go_sem])
          have y46 : A.eval (.tmp 46) = _ := Eq.trans (hf 46) (by conv => lhs; simp [go_sem])
          have y47 : A.eval (.tmp 47) = _ := Eq.trans (hf 47) (by conv => lhs; simp [go_sem])
          clear hf
          have hA := frame_eq hn
          rw [show List.range 48 = [0, 1, 2, 3, 4, 5, 6, 7, 8, 9, 10, 11, 12, 13, 14, 15, 16, 17, 18, 19, 20, 21, 22, 23, 24, 25, 26, 27, 28, 29, 30, 31, 32, 33, 34, 35, 36, 37, 38, 39, 40, 41, 42, 43, 44, 45, 46, 47] from rfl, hd] at hA
          simp only [List.map_cons, List.map_nil, y0, y1, y2, y3, y4, y5, y6, y7, y8, y9, y10, y11, y12, y13, y14, y15, y16, y17, y18, y19, y20, y21, y22, y23, y24, y25, y26, y27, y28, y29, y30, y31, y32, y33, y34, y35, y36, y37, y38, y39, y40, y41, y42, y43, y44, y45, y46, y47] at hA
          clear y0 y1 y2 y3 y4 y5 y6 y7 y8 y9 y10 y11 y12 y13 y14 y15 y16 y17 y18 y19 y20 y21 y22 y23 y24 y25 y26 y27 y28 y29 y30 y31 y32 y33 y34 y35 y36 y37 y38 y39 y40 y41 y42 y43 y44 y45 y46 y47
          clear hn hd
          subst hA
          have HR := Lib.hid (keep_all hC hC0 hF hp hpf HL1.out HB.out)
          have hpt4 := Lib.hid (hpts'.out.below hC (World.block_lt_of_cell? wr _ hpts'.out.1.choose_spec))
          clear hC hC0 hF hp hpf kc
          cases z with
          | true =>
            obtain ⟨k1, k2, k3, k4, k5⟩ := HR.out
            go_wp2_with fail
            refine (store46 _ _ _ W4 k3 k4 hpt4.out).mono ?_
            rintro e W5 ⟨rfl, hw⟩
            have HR5 := Lib.hid (put_all hw k1 k2 k3 k4 k5)
            clear hw k1 k2 k3 k4 k5
            go_wp2_with fail
            go_roundw
            case rel =>
              have R := HR5.out
              have E : bst lss hs (k + 1) = some k := HS'.out
              rw [show (some ⟨b, off + k * 6, none⟩ : Option Addr) = pv (some ⟨b, off, none⟩) (some k) from rfl, ← E] at R
              exact ⟨k + 1, by omega, by go_num, R⟩
            case measure => simp [intOf]; omega
          | false =>
            go_wp2_with fail
            go_roundw
            case rel =>
              have R := HR.out
              have E : bst lss hs (k + 1) = some q := HS'.out
              rw [show (some ⟨b, off + q * 6, none⟩ : Option Addr) = pv (some ⟨b, off, none⟩) (some q) from rfl, ← E] at R
              exact ⟨k + 1, by omega, by go_num, R⟩
            case measure => simp [intOf]; omega
    · obtain rfl : k = hs.length := by omega
      have HPT2 : Hid (∀ p, pv a (bst lss hs hs.length) = some p → Pts wr p) := fun p h => by
        cases hbb : bst lss hs hs.length with
        | none => rw [hbb] at h; cases a <;> cases h
        | some q =>
          obtain ⟨b', off', e, hB', h1, h2⟩ := hh q (bst_lt hbb)
          rw [hbb, e] at h
          cases h
          exact Pts.below h2 hb hB'
      obtain ⟨c0, c1, c2, c3, c4, c5⟩ := hC0
      have f0 := hF 0
      have f1 := hF 1
      have f2 := hF 2
      have f3 := hF 3
      have f4 := hF 4
      have f5 := hF 5
      cases hbk : bst lss hs hs.length with
      | none =>
        have e1 : bv lss hs hs.length = z6 := by unfold bv; rw [hbk]
        have e2 : bany lss hs hs.length = false := by unfold bany; rw [hbk]; rfl
        have E := Lib.hid (And.intro e1 e2)
        have e3 : pv a none = none := by cases a <;> rfl
        rw [hbk, e3] at hp
        clear hh hF hb hbk e1 e2 e3 HPT HPT2
        go_wp2_with fail
        refine (load45 _ none _ hp (fun p h => by cases h)).mono ?_
        rintro e w' ⟨rfl, rfl⟩
        go_wp2_with fail
        have hs6 := set6 ⟨c0, c1, c2, c3, c4, c5⟩ false 0 0 0 0 0
        have hbs := bel_set6 (b := w.heap.size) HB.out (Nat.le_refl _) false 0 0 0 0 0
        generalize ((((((wr.setCell ⟨w.heap.size, 0, none⟩ (.bool false)).setCell ⟨w.heap.size, 1, none⟩ (.int .i64 0)).setCell ⟨w.heap.size, 2, none⟩ (.int .i64 0)).setCell ⟨w.heap.size, 3, none⟩ (.int .i64 0)).setCell ⟨w.heap.size, 4, none⟩ (.int .i64 0)).setCell ⟨w.heap.size, 5, none⟩ (.int .i64 0)) = W5 at *
        obtain ⟨s0, s1, s2, s3, s4, s5⟩ := hs6
        exact bodyPost_ret (v := .tuple #[.agg #[.bool false, .int .i64 0, .int .i64 0, .int .i64 0, .int .i64 0, .int .i64 0], .bool false]) (by simp [results, Try.results39, go_sem, s0, s1, s2, s3, s4, s5]) rfl ⟨by rw [E.out.1, E.out.2]; rfl, hbs⟩
      | some q =>
        obtain ⟨b, off, rfl, hB, hc6, hpts⟩ := hh q (bst_lt hbk)
        have e1 : bv lss hs hs.length = hs.getD q z6 := by unfold bv; rw [hbk]
        have e2 : bany lss hs hs.length = true := by unfold bany; rw [hbk]; rfl
        have hcr := hc6.below hb hB
        generalize hs.getD q z6 = y at *
        obtain ⟨n', t', o', r', d', i'⟩ := y
        have E := Lib.hid (And.intro e1 e2)
        obtain ⟨d0, d1, d2, d3, d4, d5⟩ := hcr
        have HPTq := Lib.hid (hpts.below hb hB)
        rw [hbk] at hp
        have hp : wr.cell? ⟨w.heap.size + 1, 0, none⟩ = some (.pointer (some ⟨b, off + q * 6, none⟩)) := hp
        clear hh hF hb hbk e1 e2 HPT HPT2 hpts hc6
        go_wp2_with fail
        refine (load45 _ _ _ hp (fun p h => by cases h; exact HPTq.out)).mono ?_
        rintro e w' ⟨rfl, rfl⟩
        go_wp2_with fail
        have hs6 := set6 ⟨c0, c1, c2, c3, c4, c5⟩ n' t' o' r' d' i'
        have hbs := bel_set6 (b := w.heap.size) HB.out (Nat.le_refl _) n' t' o' r' d' i'
        generalize ((((((wr.setCell ⟨w.heap.size, 0, none⟩ (.bool n')).setCell ⟨w.heap.size, 1, none⟩ (.int .i64 t')).setCell ⟨w.heap.size, 2, none⟩ (.int .i64 o')).setCell ⟨w.heap.size, 3, none⟩ (.int .i64 r')).setCell ⟨w.heap.size, 4, none⟩ (.int .i64 d')).setCell ⟨w.heap.size, 5, none⟩ (.int .i64 i')) = W5 at *
        obtain ⟨s0, s1, s2, s3, s4, s5⟩ := hs6
        exact bodyPost_ret (v := .tuple #[.agg #[.bool n', .int .i64 t', .int .i64 o', .int .i64 r', .int .i64 d', .int .i64 i'], .bool true]) (by simp [results, Try.results39, go_sem, s0, s1, s2, s3, s4, s5]) rfl ⟨by rw [E.out.1, E.out.2]; rfl, hbs⟩

set_option maxHeartbeats 8000000 in
theorem best40 (a : Option Addr) (cap : Nat) (hs : List H6) (w : World) (hh : Hs w a hs) (h9 : hs.length ≤ 100) :
    Calls Try.prog 39 #[.slice a hs.length cap, .func (.func 40) #[] #[]] w fun e w' => e = .returned (.tuple #[ag (bv mor hs hs.length), .bool (bany mor hs hs.length)]) ∧ Below w.heap.size w w' := by
  go_enter Try.func39, Try.ntmps39
  go_wp2_with fail
  go_loopw [12] (fun i wr => ∃ k : Nat, k ≤ hs.length ∧ i = .int .i64 k ∧ Cells6 wr w.heap.size false 0 0 0 0 0 ∧ (∀ j, wr.frozen? ⟨w.heap.size, j, none⟩ = false) ∧ wr.cell? ⟨w.heap.size + 1, 0, none⟩ = some (.pointer (pv a (bst mor hs k))) ∧ wr.frozen? ⟨w.heap.size + 1, 0, none⟩ = false ∧ Below w.heap.size w wr) (fun i _ => hs.length - (intOf i).toNat)
  case atStart =>
    refine ⟨0, Nat.zero_le _, rfl, (cells6_alloc w false 0 0 0 0 0 23).below ((Below.refl _ _).alloc (Nat.le_refl _) _), fun j => by simp, ?_, by simp, ((Below.refl _ w).alloc (Nat.le_refl _) _).alloc (by simp) _⟩
    have e : pv a (bst mor hs 0) = none := by cases a <;> rfl
    rw [e]; simp
  case round =>
    obtain ⟨k, hk, rfl, hC0, hF, hp, hpf, hb⟩ := hrel
    have HB := Lib.hid hb
    have HPT := Lib.hid (fun p (h : pv a (bst mor hs k) = some p) => (pv_pts hh hk p h))
    have HL1 : Hid (w.heap.size + 1 < wr.heap.size) := World.block_lt_of_cell? wr ⟨w.heap.size + 1, 0, none⟩ hp
    have HL : Hid (w.heap.size < wr.heap.size) := Nat.lt_of_succ_lt HL1.out
    by_cases hlt : k < hs.length
    · obtain ⟨b, off, rfl, hB, hc6, hpts⟩ := hh k hlt
      have hcr : C6 wr b (off + k * 6) (hs.getD k z6) := hc6.below hb hB
      have hpts' := Lib.hid (Pts.below hpts hb hB)
      have HN := Lib.hid (fun h => bst_no (bt := mor) (hs := hs) (k := k) h)
      have HO := Lib.hid (fun h h2 => bst_none (bt := mor) (hs := hs) (k := k) h h2)
      have HS := Lib.hid (fun q h h2 => bst_some (bt := mor) (hs := hs) (k := k) (q := q) h h2)
      have hq : ∀ q, bst mor hs k = some q → C6 wr b (off + q * 6) (hs.getD q z6) ∧ Pts wr ⟨b, off + q * 6, none⟩ := fun q h => by
        obtain ⟨b', off', e, hB', h1, h2⟩ := hh q (Nat.lt_trans (bst_lt h) hlt)
        cases e
        exact ⟨h1.below hb hB', Pts.below h2 hb hB'⟩
      have HPT2 := Lib.hid (fun p h => Pts.below (HPT.out p h) hb (by
        cases hbb : bst mor hs k with
        | none => rw [hbb] at h; cases h
        | some q => rw [hbb] at h; cases h; exact hB))
      generalize hs.getD k z6 = x at *
      obtain ⟨n, t, o, r, d, i⟩ := x
      have hi1 : (k : Int) < (hs.length : Int) := by omega
      have hi0 : (0 : Int) ≤ (k : Int) := by omega
      have T0 := isTold_any n t o r d i
      clear hh hc6 hpts hb
      go_wp2_with fail
      refine (load45 _ _ _ hp HPT2.out).mono ?_
      rintro e w' ⟨rfl, rfl⟩
      obtain ⟨pp, hpp⟩ : ∃ pp, pp = pv (some ⟨b, off, none⟩) (bst mor hs k) := ⟨_, rfl⟩
      cases hT : told n t o r d i with
      | false =>
        have TA := T0
        rw [hT] at TA
        have HN' := Lib.hid (HN.out hT)
        have kc : ∀ w', Below wr.heap.size wr w' → C6 w' b (off + k * 6) (n, t, o, r, d, i) := fun w' h => hcr.below h (World.block_lt_of_cell? wr _ hcr.1)
        unfold C6 at kc
        have HPP := Lib.hid hpp
        rw [← hpp] at hp HPT2 ⊢
        clear hq T0 hT HO HS hcr hpp HPT
        go_wp2_with fail
        refine wp_region_typed (C := fun w' => Below wr.heap.size wr w') (X := fun w w' => Below w.heap.size w w') (n := 48) (by kernel_rfl) (by kernel_rfl) rfl (fun w => Below.refl _ w) (Below.refl _ _).drew ?_
        refine w_is (fun w => Below.refl _ w) _ (.inl rfl) (fun ρ w hC hc hfn hf => by have e0 : ρ (.tmp 0) = _ := hf 0 (by decide); (conv => lhs; simp [execOp, go_sem, hc, e0])) ?_
        refine w_is (fun w => Below.refl _ w) _ (.inl rfl) (fun ρ w hC hc hfn hf => by have e7 : ρ (.tmp 7) = _ := hf 7 (by decide); (conv => lhs; simp [execOp, go_sem, hc, e7])) ?_
        refine w_is (fun w => Below.refl _ w) _ (.inl rfl) (fun ρ w hC hc hfn hf => by have e16 : ρ (.tmp 16) = _ := hf 16 (by decide); have e17 : ρ (.tmp 17) = _ := hf 17 (by decide); (conv => lhs; simp [execOp, go_sem, hc, e16, e17, hi1, hi0])) ?_
        refine w_is (fun w => Below.refl _ w) _ (.inl rfl) (fun ρ w hC hc hfn hf => by have e18 : ρ (.tmp 18) = _ := hf 18 (by decide); (conv => lhs; simp [execOp, go_sem, hc, e18, kc w hC])) ?_
        refine w_call (Is _) (fun _ _ _ h _ => h) 33 (.inl rfl) (fun ρ w hC hc hfn hf => by have e19 : ρ (.tmp 19) = _ := hf 19 (by decide); exact ⟨_, by (conv => lhs; simp [execOp, resolve, invoke, go_sem, hc, hfn, e19]), (tc_below hC (TA w))⟩) ?_
        refine w_is (fun w => Below.refl _ w) _ (.inl rfl) (fun ρ w hC hc hfn hf => by have e20 : ρ (.tmp 20) = _ := hf 20 (by decide); (conv => lhs; simp [execOp, go_sem, hc, e20])) ?_
        refine w_skip rfl rfl (known_is rfl) ?_
        refine w_skip rfl rfl (known_is rfl) ?_
        refine w_skip rfl rfl (known_is rfl) ?_
        refine w_skipU rfl rfl (known_is rfl) ?_
        refine w_skipU rfl rfl (known_is rfl) ?_
        refine w_skipU rfl rfl (known_is rfl) ?_
        refine w_skipU rfl rfl (known_is rfl) ?_
        refine w_skipU rfl rfl (known_is rfl) ?_
        refine w_skipU rfl rfl (known_is rfl) ?_
        refine w_skipU rfl rfl (known_is rfl) ?_
        refine w_skipU rfl rfl (known_is rfl) ?_
        refine w_skipU rfl rfl (known_is rfl) ?_
        refine w_skip rfl rfl (known_is rfl) ?_
        refine w_is (fun w => Below.refl _ w) _ (.inl rfl) (fun ρ w hC hc hfn hf => by have e21 : ρ (.tmp 21) = _ := hf 21 (by decide); have e34 : ρ (.tmp 34) = _ := hf 34 (by decide); (conv => lhs; simp [execOp, go_sem, hc, e21, e34])) ?_
        intro A W4 hC hn hd hf
        have y0 : A.eval (.tmp 0) = _ := Eq.trans (hf 0) (by conv => lhs; simp [go_sem])
        have y1 : A.eval (.tmp 1) = _ := Eq.trans (hf 1) (by conv => lhs; simp [go_sem])
        have y2 : A.eval (.tmp 2) = _ := Eq.trans (hf 2) (by conv => lhs; simp [go_sem])
        have y3 : A.eval (.tmp 3) = _ := Eq.trans (hf 3) (by conv => lhs; simp [go_sem])
        have y4 : A.eval (.tmp 4) = _ := Eq.trans (hf 4) (by conv => lhs; simp [go_sem])
        have y5 : A.eval (.tmp 5) = _ := Eq.trans (hf 5) (by conv => lhs; simp [go_sem])
        have y6 : A.eval (.tmp 6) = _ := Eq.trans (hf 6) (by conv => lhs; simp [go_sem])
        have y7 : A.eval (.tmp 7) = _ := Eq.trans (hf 7) (by conv => lhs; simp [go_sem])
        have y8 : A.eval (.tmp 8) = _ := Eq.trans (hf 8) (by conv => lhs; simp [go_sem])
        have y9 : A.eval (.tmp 9) = _ := Eq.trans (hf 9) (by conv => lhs; simp [go_sem])
        have y10 : A.eval (.tmp 10) = _ := Eq.trans (hf 10) (by conv => lhs; simp [go_sem])
        have y11 : A.eval (.tmp 11) = _ := Eq.trans (hf 11) (by conv => lhs; simp [go_sem])
        have y12 : A.eval (.tmp 12) = _ := Eq.trans (hf 12) (by conv => lhs; simp [go_sem])
        have y13 : A.eval (.tmp 13) = _ := Eq.trans (hf 13) (by conv => lhs; simp [go_sem])
        have y14 : A.eval (.tmp 14) = _ := Eq.trans (hf 14) (by conv => lhs; simp [go_sem])
        have y15 : A.eval (.tmp 15) = _ := Eq.trans (hf 15) (by conv => lhs; simp [go_sem])
        have y16 : A.eval (.tmp 16) = _ := hf 16
        have y17 : A.eval (.tmp 17) = _ := hf 17
        have y18 : A.eval (.tmp 18) = _ := hf 18
        have y19 : A.eval (.tmp 19) = _ := hf 19
        have y20 : A.eval (.tmp 20) = _ := hf 20
        have y21 : A.eval (.tmp 21) = _ := hf 21
        have y22 : A.eval (.tmp 22) = _ := hf 22
        have y23 : A.eval (.tmp 23) = _ := hf 23
        have y24 : A.eval (.tmp 24) = _ := hf 24
        have y25 : A.eval (.tmp 25) = _ := hf 25
        have y26 : A.eval (.tmp 26) = _ := hf 26
        have y27 : A.eval (.tmp 27) = _ := hf 27
        have y28 : A.eval (.tmp 28) = _ := hf 28
        have y29 : A.eval (.tmp 29) = _ := hf 29
        have y30 : A.eval (.tmp 30) = _ := hf 30
        have y31 : A.eval (.tmp 31) = _ := hf 31
        have y32 : A.eval (.tmp 32) = _ := hf 32
        have y33 : A.eval (.tmp 33) = _ := hf 33
        have y34 : A.eval (.tmp 34) = _ := hf 34
        have y35 : A.eval (.tmp 35) = _ := hf 35
        have y36 : A.eval (.tmp 36) = _ := Eq.trans (hf 36) (by conv => lhs; simp [go_sem])
        have y37 : A.eval (.tmp 37) = _ := Eq.trans (hf 37) (by conv => lhs; simp [go_sem])
        have y38 : A.eval (.tmp 38) = _ := Eq.trans (hf 38) (by conv => lhs; simp [go_sem])
        have y39 : A.eval (.tmp 39) = _ := Eq.trans (hf 39) (by conv => lhs; simp [go_sem])
        have y40 : A.eval (.tmp 40) = _ := Eq.trans (hf 40) (by conv => lhs; simp [go_sem])
        have y41 : A.eval (.tmp 41) = _ := Eq.trans (hf 41) (by conv => lhs; simp [go_sem])
        have y42 : A.eval (.tmp 42) = _ := Eq.trans (hf 42) (by conv => lhs; simp [go_sem])
        have y43 : A.eval (.tmp 43) = _ := Eq.trans (hf 43) (by conv => lhs; simp [go_sem])
        have y44 : A.eval (.tmp 44) = _ := Eq.trans (hf 44) (by conv => lhs; simp [go_sem])
        have y45 : A.eval (.tmp 45) = _ := Eq.trans (hf 45) (by conv => lhs; simp [go_sem])
        have y46 : A.eval (.tmp 46) = _ := Eq.trans (hf 46) (by conv => lhs; simp [go_sem])
        have y47 : A.eval (.tmp 47) = _ := Eq.trans (hf 47) (by conv => lhs; simp [go_sem])
        clear hf
        have hA := frame_eq hn
        rw [show List.range 48 = [0, 1, 2, 3, 4, 5, 6, 7, 8, 9, 10, 11, 12, 13, 14, 15, 16, 17, 18, 19, 20, 21, 22, 23, 24, 25, 26, 27, 28, 29, 30, 31, 32, 33, 34, 35, 36, 37, 38, 39, 40, 41, 42, 43, 44, 45, 46, 47] from rfl, hd] at hA
        simp only [List.map_cons, List.map_nil, y0, y1, y2, y3, y4, y5, y6, y7, y8, y9, y10, y11, y12, y13, y14, y15, y16, y17, y18, y19, y20, y21, y22, y23, y24, y25, y26, y27, y28, y29, y30, y31, y32, y33, y34, y35, y36, y37, y38, y39, y40, y41, y42, y43, y44, y45, y46, y47] at hA
        clear y0 y1 y2 y3 y4 y5 y6 y7 y8 y9 y10 y11 y12 y13 y14 y15 y16 y17 y18 y19 y20 y21 y22 y23 y24 y25 y26 y27 y28 y29 y30 y31 y32 y33 y34 y35 y36 y37 y38 y39 y40 y41 y42 y43 y44 y45 y46 y47
        clear hn hd
        subst hA
        have HR := Lib.hid (keep_all hC hC0 hF hp hpf HL1.out HB.out)
        clear hC hC0 hF hp hpf kc HPT2
        go_wp2_with fail
        go_roundw
        case rel =>
          have R := HR.out
          rw [HPP.out, ← HN'.out] at R
          exact ⟨k + 1, by omega, by go_num, R⟩
        case measure => simp [intOf]; omega
      | true =>
        have TA := T0
        rw [hT] at TA
        cases hbk : bst mor hs k with
        | none =>
          have HO' := Lib.hid (HO.out hT hbk)
          have kc : ∀ w', Below wr.heap.size wr w' → C6 w' b (off + k * 6) (n, t, o, r, d, i) := fun w' h => hcr.below h (World.block_lt_of_cell? wr _ hcr.1)
          unfold C6 at kc
          rw [hbk] at hp hpp
          obtain rfl : pp = none := hpp
          have hp : wr.cell? ⟨w.heap.size + 1, 0, none⟩ = some (.pointer none) := hp
          rw [show pv (some ⟨b, off, none⟩) none = none from rfl]
          clear hq T0 hT HO HS HN hcr HPT HPT2 hbk
          go_wp2_with fail
          refine wp_region_typed (C := fun w' => Below wr.heap.size wr w') (X := fun w w' => Below w.heap.size w w') (n := 48) (by kernel_rfl) (by kernel_rfl) rfl (fun w => Below.refl _ w) (Below.refl _ _).drew ?_
          refine w_is (fun w => Below.refl _ w) _ (.inl rfl) (fun ρ w hC hc hfn hf => by have e0 : ρ (.tmp 0) = _ := hf 0 (by decide); (conv => lhs; simp [execOp, go_sem, hc, e0])) ?_
          refine w_is (fun w => Below.refl _ w) _ (.inl rfl) (fun ρ w hC hc hfn hf => by have e7 : ρ (.tmp 7) = _ := hf 7 (by decide); (conv => lhs; simp [execOp, go_sem, hc, e7])) ?_
          refine w_is (fun w => Below.refl _ w) _ (.inl rfl) (fun ρ w hC hc hfn hf => by have e16 : ρ (.tmp 16) = _ := hf 16 (by decide); have e17 : ρ (.tmp 17) = _ := hf 17 (by decide); (conv => lhs; simp [execOp, go_sem, hc, e16, e17, hi1, hi0])) ?_
          refine w_is (fun w => Below.refl _ w) _ (.inl rfl) (fun ρ w hC hc hfn hf => by have e18 : ρ (.tmp 18) = _ := hf 18 (by decide); (conv => lhs; simp [execOp, go_sem, hc, e18, kc w hC])) ?_
          refine w_call (Is _) (fun _ _ _ h _ => h) 33 (.inl rfl) (fun ρ w hC hc hfn hf => by have e19 : ρ (.tmp 19) = _ := hf 19 (by decide); exact ⟨_, by (conv => lhs; simp [execOp, resolve, invoke, go_sem, hc, hfn, e19]), (tc_below hC (TA w))⟩) ?_
          refine w_is (fun w => Below.refl _ w) _ (.inl rfl) (fun ρ w hC hc hfn hf => by have e20 : ρ (.tmp 20) = _ := hf 20 (by decide); (conv => lhs; simp [execOp, go_sem, hc, e20])) ?_
          refine w_is (fun w => Below.refl _ w) _ (.inr ⟨5, 21, true, rfl, rfl, known_is rfl⟩) (fun ρ w hC hc hfn hf => by have e8 : ρ (.tmp 8) = _ := hf 8 (by decide); (conv => lhs; simp [execOp, go_sem, hc, e8])) ?_
          refine w_is (fun w => Below.refl _ w) _ (.inr ⟨5, 21, true, rfl, rfl, known_is rfl⟩) (fun ρ w hC hc hfn hf => by have e22 : ρ (.tmp 22) = _ := hf 22 (by decide); (conv => lhs; simp [execOp, go_sem, hc, e22])) ?_
          refine w_is (fun w => Below.refl _ w) _ (.inr ⟨5, 21, true, rfl, rfl, known_is rfl⟩) (fun ρ w hC hc hfn hf => by have e23 : ρ (.tmp 23) = _ := hf 23 (by decide); (conv => lhs; simp [execOp, go_sem, hc, e23])) ?_
          refine w_skip rfl rfl (known_is rfl) ?_
          refine w_skip rfl rfl (known_is rfl) ?_
          refine w_skip rfl rfl (known_is rfl) ?_
          refine w_skip rfl rfl (known_is rfl) ?_
          refine w_skip rfl rfl (known_is rfl) ?_
          refine w_skip rfl rfl (known_is rfl) ?_
          refine w_skip rfl rfl (known_is rfl) ?_
          refine w_skip rfl rfl (known_is rfl) ?_
          refine w_skip rfl rfl (known_is rfl) ?_
          refine w_is (fun w => Below.refl _ w) _ (.inr ⟨5, 21, true, rfl, rfl, known_is rfl⟩) (fun ρ w hC hc hfn hf => by have e24 : ρ (.tmp 24) = _ := hf 24 (by decide); have e33 : ρ (.tmp 33) = _ := hf 33 (by decide); (conv => lhs; simp [execOp, go_sem, hc, e24, e33])) ?_
          refine w_is (fun w => Below.refl _ w) _ (.inl rfl) (fun ρ w hC hc hfn hf => by have e21 : ρ (.tmp 21) = _ := hf 21 (by decide); have e34 : ρ (.tmp 34) = _ := hf 34 (by decide); (conv => lhs; simp [execOp, go_sem, hc, e21, e34])) ?_
          intro A W4 hC hn hd hf
          have y0 : A.eval (.tmp 0) = _ := Eq.trans (hf 0) (by conv => lhs; simp [go_sem])
          have y1 : A.eval (.tmp 1) = _ := Eq.trans (hf 1) (by conv => lhs; simp [go_sem])
          have y2 : A.eval (.tmp 2) = _ := Eq.trans (hf 2) (by conv => lhs; simp [go_sem])
          have y3 : A.eval (.tmp 3) = _ := Eq.trans (hf 3) (by conv => lhs; simp [go_sem])
          have y4 : A.eval (.tmp 4) = _ := Eq.trans (hf 4) (by conv => lhs; simp [go_sem])
          have y5 : A.eval (.tmp 5) = _ := Eq.trans (hf 5) (by conv => lhs; simp [go_sem])
          have y6 : A.eval (.tmp 6) = _ := Eq.trans (hf 6) (by conv => lhs; simp [go_sem])
          have y7 : A.eval (.tmp 7) = _ := Eq.trans (hf 7) (by conv => lhs; simp [go_sem])
          have y8 : A.eval (.tmp 8) = _ := Eq.trans (hf 8) (by conv => lhs; simp [go_sem])
          have y9 : A.eval (.tmp 9) = _ := Eq.trans (hf 9) (by conv => lhs; simp [go_sem])
          have y10 : A.eval (.tmp 10) = _ := Eq.trans (hf 10) (by conv => lhs; simp [go_sem])
          have y11 : A.eval (.tmp 11) = _ := Eq.trans (hf 11) (by conv => lhs; simp [go_sem])
          have y12 : A.eval (.tmp 12) = _ := Eq.trans (hf 12) (by conv => lhs; simp [go_sem])
          have y13 : A.eval (.tmp 13) = _ := Eq.trans (hf 13) (by conv => lhs; simp [go_sem])
          have y14 : A.eval (.tmp 14) = _ := Eq.trans (hf 14) (by conv => lhs; simp [go_sem])
          have y15 : A.eval (.tmp 15) = _ := Eq.trans (hf 15) (by conv => lhs; simp [go_sem])
          have y16 : A.eval (.tmp 16) = _ := hf 16
          have y17 : A.eval (.tmp 17) = _ := hf 17
          have y18 : A.eval (.tmp 18) = _ := hf 18
          have y19 : A.eval (.tmp 19) = _ := hf 19
          have y20 : A.eval (.tmp 20) = _ := hf 20
          have y21 : A.eval (.tmp 21) = _ := hf 21
          have y22 : A.eval (.tmp 22) = _ := hf 22
          have y23 : A.eval (.tmp 23) = _ := hf 23
          have y24 : A.eval (.tmp 24) = _ := hf 24
          have y25 : A.eval (.tmp 25) = _ := hf 25
          have y26 : A.eval (.tmp 26) = _ := hf 26
          have y27 : A.eval (.tmp 27) = _ := hf 27
          have y28 : A.eval (.tmp 28) = _ := hf 28
          have y29 : A.eval (.tmp 29) = _ := hf 29
          have y30 : A.eval (.tmp 30) = _ := hf 30
          have y31 : A.eval (.tmp 31) = _ := hf 31
          have y32 : A.eval (.tmp 32) = _ := hf 32
          have y33 : A.eval (.tmp 33) = _ := hf 33
          have y34 : A.eval (.tmp 34) = _ := hf 34
          have y35 : A.eval (.tmp 35) = _ := hf 35
          have y36 : A.eval (.tmp 36) = _ := Eq.trans (hf 36) (by conv => lhs; simp [go_sem])
          have y37 : A.eval (.tmp 37) = _ := Eq.trans (hf 37) (by conv => lhs; simp [go_sem])
          have y38 : A.eval (.tmp 38) = _ := Eq.trans (hf 38) (by conv => lhs; simp [go_sem])
          have y39 : A.eval (.tmp 39) = _ := Eq.trans (hf 39) (by conv => lhs; simp [go_sem])
          have y40 : A.eval (.tmp 40) = _ := Eq.trans (hf 40) (by conv => lhs; simp [go_sem])
          have y41 : A.eval (.tmp 41) = _ := Eq.trans (hf 41) (by conv => lhs; simp [go_sem])
          have y42 : A.eval (.tmp 42) = _ := Eq.trans (hf 42) (by conv => lhs; simp [go_sem])
          have y43 : A.eval (.tmp 43) = _ := Eq.trans (hf 43) (by conv => lhs; simp [go_sem])
          have y44 : A.eval (.tmp 44) = _ := Eq.trans (hf 44) (by conv => lhs; simp [go_sem])
          have y45 : A.eval (.tmp 45) = _ := Eq.trans (hf 45) (by conv => lhs; simp [go_sem])
          have y46 : A.eval (.tmp 46) = _ := Eq.trans (hf 46) (by conv => lhs; simp [go_sem])
          have y47 : A.eval (.tmp 47) = _ := Eq.trans (hf 47) (by conv => lhs; simp [go_sem])
          clear hf
          have hA := frame_eq hn
          rw [show List.range 48 = [0, 1, 2, 3, 4, 5, 6, 7, 8, 9, 10, 11, 12, 13, 14, 15, 16, 17, 18, 19, 20, 21, 22, 23, 24, 25, 26, 27, 28, 29, 30, 31, 32, 33, 34, 35, 36, 37, 38, 39, 40, 41, 42, 43, 44, 45, 46, 47] from rfl, hd] at hA
          simp only [List.map_cons, List.map_nil, y0, y1, y2, y3, y4, y5, y6, y7, y8, y9, y10, y11, y12, y13, y14, y15, y16, y17, y18, y19, y20, y21, y22, y23, y24, y25, y26, y27, y28, y29, y30, y31, y32, y33, y34, y35, y36, y37, y38, y39, y40, y41, y42, y43, y44, y45, y46, y47] at hA
          clear y0 y1 y2 y3 y4 y5 y6 y7 y8 y9 y10 y11 y12 y13 y14 y15 y16 y17 y18 y19 y20 y21 y22 y23 y24 y25 y26 y27 y28 y29 y30 y31 y32 y33 y34 y35 y36 y37 y38 y39 y40 y41 y42 y43 y44 y45 y46 y47
          clear hn hd
          subst hA
          have HR := Lib.hid (keep_all hC hC0 hF hp hpf HL1.out HB.out)
          have hpt4 := Lib.hid (hpts'.out.below hC (World.block_lt_of_cell? wr _ hpts'.out.1.choose_spec))
          clear hC hC0 hF hp hpf kc
          obtain ⟨k1, k2, k3, k4, k5⟩ := HR.out
          go_wp2_with fail
          refine (store46 _ none _ W4 k3 k4 hpt4.out).mono ?_
          rintro e W5 ⟨rfl, hw⟩
          have HR5 := Lib.hid (put_all hw k1 k2 k3 k4 k5)
          clear hw k1 k2 k3 k4 k5
          go_wp2_with fail
          go_roundw
          case rel =>
            have R := HR5.out
            rw [show (some ⟨b, off + k * 6, none⟩ : Option Addr) = pv (some ⟨b, off, none⟩) (some k) from rfl, ← HO'.out] at R
            exact ⟨k + 1, by omega, by go_num, R⟩
          case measure => simp [intOf]; omega
        | some q =>
          obtain ⟨hcq, hpq⟩ := hq q hbk
          have HS' := Lib.hid (HS.out q hT hbk)
          have BA0 := fun w => best_any (n, t, o, r, d, i) (hs.getD q z6) w
          generalize hs.getD q z6 = y at *
          obtain ⟨n', t', o', r', d', i'⟩ := y
          have kc : ∀ w', Below wr.heap.size wr w' → C6 w' b (off + k * 6) (n, t, o, r, d, i) ∧ C6 w' b (off + q * 6) (n', t', o', r', d', i') := fun w' h => ⟨hcr.below h (World.block_lt_of_cell? wr _ hcr.1), hcq.below h (World.block_lt_of_cell? wr _ hcq.1)⟩
          unfold C6 at kc
          obtain ⟨z, hz⟩ : ∃ z, z = mor (n, t, o, r, d, i) (n', t', o', r', d', i') := ⟨_, rfl⟩
          rw [← hz] at HS'
          have BA : ∀ w, Calls Try.prog 40 #[.agg #[.bool n, .int .i64 t, .int .i64 o, .int .i64 r, .int .i64 d, .int .i64 i], .agg #[.bool n', .int .i64 t', .int .i64 o', .int .i64 r', .int .i64 d', .int .i64 i']] w fun e w' => e = .returned (.bool z) ∧ Below w.heap.size w w' := fun w => by rw [hz]; exact BA0 w
          rw [hbk] at hp hpp
          obtain rfl : pp = some ⟨b, off + q * 6, none⟩ := hpp
          have hp : wr.cell? ⟨w.heap.size + 1, 0, none⟩ = some (.pointer (some ⟨b, off + q * 6, none⟩)) := hp
          have hpq' := Lib.hid hpq
          rw [show pv (some ⟨b, off, none⟩) (some q) = some ⟨b, off + q * 6, none⟩ from rfl]
          clear hq T0 hT HO HS HN hcr hcq HPT HPT2 hbk BA0 hz hpq
          go_wp2_with fail
          refine wp_region_typed (C := fun w' => Below wr.heap.size wr w') (X := fun w w' => Below w.heap.size w w') (n := 48) (by kernel_rfl) (by kernel_rfl) rfl (fun w => Below.refl _ w) (Below.refl _ _).drew ?_
          refine w_is (fun w => Below.refl _ w) _ (.inl rfl) (fun ρ w hC hc hfn hf => by have e0 : ρ (.tmp 0) = _ := hf 0 (by decide); (conv => lhs; simp [execOp, go_sem, hc, e0])) ?_
          refine w_is (fun w => Below.refl _ w) _ (.inl rfl) (fun ρ w hC hc hfn hf => by have e7 : ρ (.tmp 7) = _ := hf 7 (by decide); (conv => lhs; simp [execOp, go_sem, hc, e7])) ?_
          refine w_is (fun w => Below.refl _ w) _ (.inl rfl) (fun ρ w hC hc hfn hf => by have e16 : ρ (.tmp 16) = _ := hf 16 (by decide); have e17 : ρ (.tmp 17) = _ := hf 17 (by decide); (conv => lhs; simp [execOp, go_sem, hc, e16, e17, hi1, hi0])) ?_
          refine w_is (fun w => Below.refl _ w) _ (.inl rfl) (fun ρ w hC hc hfn hf => by have e18 : ρ (.tmp 18) = _ := hf 18 (by decide); (conv => lhs; simp [execOp, go_sem, hc, e18, kc w hC])) ?_
          refine w_call (Is _) (fun _ _ _ h _ => h) 33 (.inl rfl) (fun ρ w hC hc hfn hf => by have e19 : ρ (.tmp 19) = _ := hf 19 (by decide); exact ⟨_, by (conv => lhs; simp [execOp, resolve, invoke, go_sem, hc, hfn, e19]), (tc_below hC (TA w))⟩) ?_
          refine w_is (fun w => Below.refl _ w) _ (.inl rfl) (fun ρ w hC hc hfn hf => by have e20 : ρ (.tmp 20) = _ := hf 20 (by decide); (conv => lhs; simp [execOp, go_sem, hc, e20])) ?_
          refine w_is (fun w => Below.refl _ w) _ (.inr ⟨5, 21, true, rfl, rfl, known_is rfl⟩) (fun ρ w hC hc hfn hf => by have e8 : ρ (.tmp 8) = _ := hf 8 (by decide); (conv => lhs; simp [execOp, go_sem, hc, e8])) ?_
          refine w_is (fun w => Below.refl _ w) _ (.inr ⟨5, 21, true, rfl, rfl, known_is rfl⟩) (fun ρ w hC hc hfn hf => by have e22 : ρ (.tmp 22) = _ := hf 22 (by decide); (conv => lhs; simp [execOp, go_sem, hc, e22])) ?_
          refine w_is (fun w => Below.refl _ w) _ (.inr ⟨5, 21, true, rfl, rfl, known_is rfl⟩) (fun ρ w hC hc hfn hf => by have e23 : ρ (.tmp 23) = _ := hf 23 (by decide); (conv => lhs; simp [execOp, go_sem, hc, e23])) ?_
          refine w_is (fun w => Below.refl _ w) _ (.inr ⟨8, 24, false, rfl, rfl, known_is rfl⟩) (fun ρ w hC hc hfn hf => by have e1 : ρ (.tmp 1) = _ := hf 1 (by decide); (conv => lhs; simp [execOp, go_sem, hc, e1])) ?_
          refine w_is (fun w => Below.refl _ w) _ (.inr ⟨8, 24, false, rfl, rfl, known_is rfl⟩) (fun ρ w hC hc hfn hf => by have e0 : ρ (.tmp 0) = _ := hf 0 (by decide); (conv => lhs; simp [execOp, go_sem, hc, e0])) ?_
          refine w_is (fun w => Below.refl _ w) _ (.inr ⟨8, 24, false, rfl, rfl, known_is rfl⟩) (fun ρ w hC hc hfn hf => by have e7 : ρ (.tmp 7) = _ := hf 7 (by decide); (conv => lhs; simp [execOp, go_sem, hc, e7])) ?_
          refine w_is (fun w => Below.refl _ w) _ (.inr ⟨8, 24, false, rfl, rfl, known_is rfl⟩) (fun ρ w hC hc hfn hf => by have e26 : ρ (.tmp 26) = _ := hf 26 (by decide); have e27 : ρ (.tmp 27) = _ := hf 27 (by decide); (conv => lhs; simp [execOp, go_sem, hc, e26, e27, hi1, hi0])) ?_
          refine w_is (fun w => Below.refl _ w) _ (.inr ⟨8, 24, false, rfl, rfl, known_is rfl⟩) (fun ρ w hC hc hfn hf => by have e28 : ρ (.tmp 28) = _ := hf 28 (by decide); (conv => lhs; simp [execOp, go_sem, hc, e28, kc w hC])) ?_
          refine w_is (fun w => Below.refl _ w) _ (.inr ⟨8, 24, false, rfl, rfl, known_is rfl⟩) (fun ρ w hC hc hfn hf => by have e8 : ρ (.tmp 8) = _ := hf 8 (by decide); (conv => lhs; simp [execOp, go_sem, hc, e8])) ?_
          refine w_is (fun w => Below.refl _ w) _ (.inr ⟨8, 24, false, rfl, rfl, known_is rfl⟩) (fun ρ w hC hc hfn hf => by have e30 : ρ (.tmp 30) = _ := hf 30 (by decide); (conv => lhs; simp [execOp, go_sem, hc, e30])) ?_
          refine w_is (fun w => Below.refl _ w) _ (.inr ⟨8, 24, false, rfl, rfl, known_is rfl⟩) (fun ρ w hC hc hfn hf => by have e31 : ρ (.tmp 31) = _ := hf 31 (by decide); (conv => lhs; simp [execOp, go_sem, hc, e31, kc w hC])) ?_
          refine w_call (Is _) (fun _ _ _ h _ => h) 40 (.inr ⟨8, 24, false, rfl, rfl, known_is rfl⟩) (fun ρ w hC hc hfn hf => by have e25 : ρ (.tmp 25) = _ := hf 25 (by decide); have e29 : ρ (.tmp 29) = _ := hf 29 (by decide); have e32 : ρ (.tmp 32) = _ := hf 32 (by decide); exact ⟨_, by (conv => lhs; simp [execOp, resolve, invoke, go_sem, hc, hfn, e25, e29, e32]), (tc_below hC (BA w))⟩) ?_
          refine w_is (fun w => Below.refl _ w) _ (.inr ⟨5, 21, true, rfl, rfl, known_is rfl⟩) (fun ρ w hC hc hfn hf => by have e24 : ρ (.tmp 24) = _ := hf 24 (by decide); have e33 : ρ (.tmp 33) = _ := hf 33 (by decide); (conv => lhs; simp [execOp, go_sem, hc, e24, e33])) ?_
          refine w_is (fun w => Below.refl _ w) _ (.inl rfl) (fun ρ w hC hc hfn hf => by have e21 : ρ (.tmp 21) = _ := hf 21 (by decide); have e34 : ρ (.tmp 34) = _ := hf 34 (by decide); (conv => lhs; simp [execOp, go_sem, hc, e21, e34])) ?_
          intro A W4 hC hn hd hf
          have y0 : A.eval (.tmp 0) = _ := Eq.trans (hf 0) (by conv => lhs; simp [go_sem])
          have y1 : A.eval (.tmp 1) = _ := Eq.trans (hf 1) (by conv => lhs; simp [go_sem])
          have y2 : A.eval (.tmp 2) = _ := Eq.trans (hf 2) (by conv => lhs; simp [go_sem])
          have y3 : A.eval (.tmp 3) = _ := Eq.trans (hf 3) (by conv => lhs; simp [go_sem])
          have y4 : A.eval (.tmp 4) = _ := Eq.trans (hf 4) (by conv => lhs; simp [go_sem])
          have y5 : A.eval (.tmp 5) = _ := Eq.trans (hf 5) (by conv => lhs; simp [go_sem])
          have y6 : A.eval (.tmp 6) = _ := Eq.trans (hf 6) (by conv => lhs; simp [go_sem])
          have y7 : A.eval (.tmp 7) = _ := Eq.trans (hf 7) (by conv => lhs; simp [go_sem])
          have y8 : A.eval (.tmp 8) = _ := Eq.trans (hf 8) (by conv => lhs; simp [go_sem])
          have y9 : A.eval (.tmp 9) = _ := Eq.trans (hf 9) (by conv => lhs; simp [go_sem])
          have y10 : A.eval (.tmp 10) = _ := Eq.trans (hf 10) (by conv => lhs; simp [go_sem])
          have y11 : A.eval (.tmp 11) = _ := Eq.trans (hf 11) (by conv => lhs; simp [go_sem])
          have y12 : A.eval (.tmp 12) = _ := Eq.trans (hf 12) (by conv => lhs; simp [go_sem])
          have y13 : A.eval (.tmp 13) = _ := Eq.trans (hf 13) (by conv => lhs; simp [go_sem])
          have y14 : A.eval (.tmp 14) = _ := Eq.trans (hf 14) (by conv => lhs; simp [go_sem])
          have y15 : A.eval (.tmp 15) = _ := Eq.trans (hf 15) (by conv => lhs; simp [go_sem])
          have y16 : A.eval (.tmp 16) = _ := hf 16
          have y17 : A.eval (.tmp 17) = _ := hf 17
          have y18 : A.eval (.tmp 18) = _ := hf 18
          have y19 : A.eval (.tmp 19) = _ := hf 19
          have y20 : A.eval (.tmp 20) = _ := hf 20
          have y21 : A.eval (.tmp 21) = _ := hf 21
          have y22 : A.eval (.tmp 22) = _ := hf 22
          have y23 : A.eval (.tmp 23) = _ := hf 23
          have y24 : A.eval (.tmp 24) = _ := hf 24
          have y25 : A.eval (.tmp 25) = _ := hf 25
          have y26 : A.eval (.tmp 26) = _ := hf 26
          have y27 : A.eval (.tmp 27) = _ := hf 27
          have y28 : A.eval (.tmp 28) = _ := hf 28
          have y29 : A.eval (.tmp 29) = _ := hf 29
          have y30 : A.eval (.tmp 30) = _ := hf 30
          have y31 : A.eval (.tmp 31) = _ := hf 31
          have y32 : A.eval (.tmp 32) = _ := hf 32
          have y33 : A.eval (.tmp 33) = _ := hf 33
          have y34 : A.eval (.tmp 34) = _ := hf 34
          have y35 : A.eval (.tmp 35) = _ := hf 35
          have y36 : A.eval (.tmp 36) = _ := Eq.trans (hf 36) (by conv => lhs; simp [go_sem])
          have y37 : A.eval (.tmp 37) = _ := Eq.trans (hf 37) (by conv => lhs; simp [go_sem])
          have y38 : A.eval (.tmp 38) = _ := Eq.trans (hf 38) (by conv => lhs; simp [go_sem])
          have y39 : A.eval (.tmp 39) = _ := Eq.trans (hf 39) (by conv => lhs; simp [go_sem])
          have y40 : A.eval (.tmp 40) = _ := Eq.trans (hf 40) (by conv => lhs; simp [go_sem])
          have y41 : A.eval (.tmp 41) = _ := Eq.trans (hf 41) (by conv => lhs; simp [go_sem])
          have y42 : A.eval (.tmp 42) = _ := Eq.trans (hf 42) (by conv => lhs; simp [go_sem])
          have y43 : A.eval (.tmp 43) = _ := Eq.trans (hf 43) (by conv => lhs; simp [go_sem])
          have y44 : A.eval (.tmp 44) = _ := Eq.trans (hf 44) (by conv => lhs; simp [go_sem])
          have y45 : A.eval (.tmp 45) = _ := Eq.trans (hf 45) (by conv => lhs; simp [go_sem])
          have y46 : A.eval (.tmp 46) = _ := Eq.trans (hf 46) (by conv => lhs; simp [go_sem])
          have y47 : A.eval (.tmp 47) = _ := Eq.trans (hf 47) (by conv => lhs; simp [go_sem])
          clear hf
          have hA := frame_eq hn
          rw [show List.range 48 = [0, 1, 2, 3, 4, 5, 6, 7, 8, 9, 10, 11, 12, 13, 14, 15, 16, 17, 18, 19, 20, 21, 22, 23, 24, 25, 26, 27, 28, 29, 30, 31, 32, 33, 34, 35, 36, 37, 38, 39, 40, 41, 42, 43, 44, 45, 46, 47] from rfl, hd] at hA
          simp only [List.map_cons, List.map_nil, y0, y1, y2, y3, y4, y5, y6, y7, y8, y9, y10, y11, y12, y13, y14, y15, y16, y17, y18, y19, y20, y21, y22, y23, y24, y25, y26, y27, y28, y29, y30, y31, y32, y33, y34, y35, y36, y37, y38, y39, y40, y41, y42, y43, y44, y45, y46, y47] at hA
          clear y0 y1 y2 y3 y4 y5 y6 y7 y8 y9 y10 y11 y12 y13 y14 y15 y16 y17 y18 y19 y20 y21 y22 y23 y24 y25 y26 y27 y28 y29 y30 y31 y32 y33 y34 y35 y36 y37 y38 y39 y40 y41 y42 y43 y44 y45 y46 y47
          clear hn hd
          subst hA
          have HR := Lib.hid (keep_all hC hC0 hF hp hpf HL1.out HB.out)
          have hpt4 := Lib.hid (hpts'.out.below hC (World.block_lt_of_cell? wr _ hpts'.out.1.choose_spec))
          clear hC hC0 hF hp hpf kc
          cases z with
          | true =>
            obtain ⟨k1, k2, k3, k4, k5⟩ := HR.out
            go_wp2_with fail
            refine (store46 _ _ _ W4 k3 k4 hpt4.out).mono ?_
            rintro e W5 ⟨rfl, hw⟩
            have HR5 := Lib.hid (put_all hw k1 k2 k3 k4 k5)
            clear hw k1 k2 k3 k4 k5
            go_wp2_with fail
            go_roundw
            case rel =>
              have R := HR5.out
              have E : bst mor hs (k + 1) = some k := HS'.out
              rw [show (some ⟨b, off + k * 6, none⟩ : Option Addr) = pv (some ⟨b, off, none⟩) (some k) from rfl, ← E] at R
              exact ⟨k + 1, by omega, by go_num, R⟩
            case measure => simp [intOf]; omega
          | false =>
            go_wp2_with fail
            go_roundw
            case rel =>
              have R := HR.out
              have E : bst mor hs (k + 1) = some q := HS'.out
              rw [show (some ⟨b, off + q * 6, none⟩ : Option Addr) = pv (some ⟨b, off, none⟩) (some q) from rfl, ← E] at R
              exact ⟨k + 1, by omega, by go_num, R⟩
            case measure => simp [intOf]; omega
    · obtain rfl : k = hs.length := by omega
      have HPT2 : Hid (∀ p, pv a (bst mor hs hs.length) = some p → Pts wr p) := fun p h => by
        cases hbb : bst mor hs hs.length with
        | none => rw [hbb] at h; cases a <;> cases h
        | some q =>
          obtain ⟨b', off', e, hB', h1, h2⟩ := hh q (bst_lt hbb)
          rw [hbb, e] at h
          cases h
          exact Pts.below h2 hb hB'
      obtain ⟨c0, c1, c2, c3, c4, c5⟩ := hC0
      have f0 := hF 0
      have f1 := hF 1
      have f2 := hF 2
      have f3 := hF 3
      have f4 := hF 4
      have f5 := hF 5
      cases hbk : bst mor hs hs.length with
      | none =>
        have e1 : bv mor hs hs.length = z6 := by unfold bv; rw [hbk]
        have e2 : bany mor hs hs.length = false := by unfold bany; rw [hbk]; rfl
        have E := Lib.hid (And.intro e1 e2)
        have e3 : pv a none = none := by cases a <;> rfl
        rw [hbk, e3] at hp
        clear hh hF hb hbk e1 e2 e3 HPT HPT2
        go_wp2_with fail
        refine (load45 _ none _ hp (fun p h => by cases h)).mono ?_
        rintro e w' ⟨rfl, rfl⟩
        go_wp2_with fail
        have hs6 := set6 ⟨c0, c1, c2, c3, c4, c5⟩ false 0 0 0 0 0
        have hbs := bel_set6 (b := w.heap.size) HB.out (Nat.le_refl _) false 0 0 0 0 0
        generalize ((((((wr.setCell ⟨w.heap.size, 0, none⟩ (.bool false)).setCell ⟨w.heap.size, 1, none⟩ (.int .i64 0)).setCell ⟨w.heap.size, 2, none⟩ (.int .i64 0)).setCell ⟨w.heap.size, 3, none⟩ (.int .i64 0)).setCell ⟨w.heap.size, 4, none⟩ (.int .i64 0)).setCell ⟨w.heap.size, 5, none⟩ (.int .i64 0)) = W5 at *
        obtain ⟨s0, s1, s2, s3, s4, s5⟩ := hs6
        exact bodyPost_ret (v := .tuple #[.agg #[.bool false, .int .i64 0, .int .i64 0, .int .i64 0, .int .i64 0, .int .i64 0], .bool false]) (by simp [results, Try.results39, go_sem, s0, s1, s2, s3, s4, s5]) rfl ⟨by rw [E.out.1, E.out.2]; rfl, hbs⟩
      | some q =>
        obtain ⟨b, off, rfl, hB, hc6, hpts⟩ := hh q (bst_lt hbk)
        have e1 : bv mor hs hs.length = hs.getD q z6 := by unfold bv; rw [hbk]
        have e2 : bany mor hs hs.length = true := by unfold bany; rw [hbk]; rfl
        have hcr := hc6.below hb hB
        generalize hs.getD q z6 = y at *
        obtain ⟨n', t', o', r', d', i'⟩ := y
        have E := Lib.hid (And.intro e1 e2)
        obtain ⟨d0, d1, d2, d3, d4, d5⟩ := hcr
        have HPTq := Lib.hid (hpts.below hb hB)
        rw [hbk] at hp
        have hp : wr.cell? ⟨w.heap.size + 1, 0, none⟩ = some (.pointer (some ⟨b, off + q * 6, none⟩)) := hp
        clear hh hF hb hbk e1 e2 HPT HPT2 hpts hc6
        go_wp2_with fail
        refine (load45 _ _ _ hp (fun p h => by cases h; exact HPTq.out)).mono ?_
        rintro e w' ⟨rfl, rfl⟩
        go_wp2_with fail
        have hs6 := set6 ⟨c0, c1, c2, c3, c4, c5⟩ n' t' o' r' d' i'
        have hbs := bel_set6 (b := w.heap.size) HB.out (Nat.le_refl _) n' t' o' r' d' i'
        generalize ((((((wr.setCell ⟨w.heap.size, 0, none⟩ (.bool n')).setCell ⟨w.heap.size, 1, none⟩ (.int .i64 t')).setCell ⟨w.heap.size, 2, none⟩ (.int .i64 o')).setCell ⟨w.heap.size, 3, none⟩ (.int .i64 r')).setCell ⟨w.heap.size, 4, none⟩ (.int .i64 d')).setCell ⟨w.heap.size, 5, none⟩ (.int .i64 i')) = W5 at *
        obtain ⟨s0, s1, s2, s3, s4, s5⟩ := hs6
        exact bodyPost_ret (v := .tuple #[.agg #[.bool n', .int .i64 t', .int .i64 o', .int .i64 r', .int .i64 d', .int .i64 i'], .bool true]) (by simp [results, Try.results39, go_sem, s0, s1, s2, s3, s4, s5]) rfl ⟨by rw [E.out.1, E.out.2]; rfl, hbs⟩
#print axioms best14
end Go.Proofs.Ytkgckmlphfafjaa
