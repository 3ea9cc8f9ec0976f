/- Beacons with an echo: the reference's With. No conditions but on lengths. -/
import Derived.Test.YtaflgabjpcfgpaaBew
import Derived.Deep.Cut
namespace Go.Proofs.Ytaflgabjpcfgpaa
set_option maxRecDepth 100000
open Go.RowKit

/-- What the reference's loop holds after k rounds: the echoes, whether the new one stands. -/
def wkF (ys : List (Int × Int)) (id ep : Int) : Nat → List (Int × Int) × Bool
  | 0 => ([], false)
  | k + 1 =>
    let r := wkF ys id ep k
    let y := ys.getD k (0, 0)
    let hit := !r.2 && decide (id ≤ y.1)
    ((r.1 ++ (if hit then [(id, ep)] else [])) ++ (if y.1 ≠ id then [y] else []), r.2 || hit)
/-- The echoes, and a new one. -/
def winF (ys : List (Int × Int)) (id ep : Int) : List (Int × Int) :=
  (wkF ys id ep ys.length).1 ++ (if (wkF ys id ep ys.length).2 then [] else [(id, ep)])
variable {ys : List (Int × Int)} {id ep : Int} {k : Nat}
theorem wk_eqD (he : (ys.getD k (0, 0)).1 = id) (hd : (wkF ys id ep k).2 = true) : wkF ys id ep (k + 1) = ((wkF ys id ep k).1, true) := by
  simp only [wkF, hd]; simp only [Bool.not_true, Bool.false_and, Bool.false_eq_true, if_false, List.append_nil, Bool.true_or, if_neg (not_not_intro he)]
theorem wk_neD (he : (ys.getD k (0, 0)).1 ≠ id) (hd : (wkF ys id ep k).2 = true) : wkF ys id ep (k + 1) = ((wkF ys id ep k).1 ++ [ys.getD k (0, 0)], true) := by
  simp only [wkF, hd]; simp only [Bool.not_true, Bool.false_and, Bool.false_eq_true, if_false, List.append_nil, Bool.true_or, if_pos he]
theorem wk_eqF (he : (ys.getD k (0, 0)).1 = id) (_ : (wkF ys id ep k).2 = false) (hc : ¬ id ≤ (ys.getD k (0, 0)).1) : wkF ys id ep (k + 1) = ((wkF ys id ep k).1, false) := by omega
theorem wk_neF (he : (ys.getD k (0, 0)).1 ≠ id) (hd : (wkF ys id ep k).2 = false) (hc : ¬ id ≤ (ys.getD k (0, 0)).1) : wkF ys id ep (k + 1) = ((wkF ys id ep k).1 ++ [ys.getD k (0, 0)], false) := by
  simp only [wkF, hd, decide_eq_false hc]; simp only [Bool.and_false, Bool.false_eq_true, if_false, List.append_nil, Bool.or_self, if_pos he]
theorem wk_eqH (he : (ys.getD k (0, 0)).1 = id) (hd : (wkF ys id ep k).2 = false) (hc : id ≤ (ys.getD k (0, 0)).1) : wkF ys id ep (k + 1) = ((wkF ys id ep k).1 ++ [(id, ep)], true) := by
  simp only [wkF, hd, decide_eq_true hc]; simp only [Bool.not_false, Bool.and_self, if_true, Bool.or_true, if_neg (not_not_intro he), List.append_nil]
theorem wk_neH (he : (ys.getD k (0, 0)).1 ≠ id) (hd : (wkF ys id ep k).2 = false) (hc : id ≤ (ys.getD k (0, 0)).1) : wkF ys id ep (k + 1) = ((wkF ys id ep k).1 ++ [(id, ep)] ++ [ys.getD k (0, 0)], true) := by
  simp only [wkF, hd, decide_eq_true hc]; simp only [Bool.not_false, Bool.and_self, if_true, Bool.or_true, if_pos he]
theorem wk_len (ys : List (Int × Int)) (id ep : Int) (k : Nat) : (wkF ys id ep k).1.length ≤ k + (if (wkF ys id ep k).2 then 1 else 0) := by
  induction k with
  | zero => simp [wkF]
  | succ k ih =>
    by_cases he : (ys.getD k (0, 0)).1 = id <;> cases hd : (wkF ys id ep k).2 <;> (try by_cases hc : id ≤ (ys.getD k (0, 0)).1)
    all_goals first
      | (rw [wk_eqH he hd hc]; rw [hd] at ih; simp at ih ⊢; omega)
      | (rw [wk_eqF he hd hc]; rw [hd] at ih; simp at ih ⊢; omega)
      | (rw [wk_eqD he hd]; rw [hd] at ih; simp at ih ⊢; omega)
      | (rw [wk_neH he hd hc]; rw [hd] at ih; simp at ih ⊢; omega)
      | (rw [wk_neF he hd hc]; rw [hd] at ih; simp at ih ⊢; omega)
      | (rw [wk_neD he hd]; rw [hd] at ih; simp at ih ⊢; omega)
theorem wk_len1 (ys : List (Int × Int)) (id ep : Int) (k : Nat) : (wkF ys id ep k).1.length ≤ k + 1 := Nat.le_trans (wk_len ys id ep k) (by split <;> omega)
/-- At the list of a plain region's operations: one echo more. -/
theorem eapp1_any {ops : Array Oper} {rest : List Oper} {o : Oper} {a : Act} {Q : Exit → Act → World → Prop} {W : World} (hgd : o.guard = none) (s x : Operand)
    (ho : o.op = .call { callee := .builtin .append, args := #[s, x], argTypes := #[22, 22] }) (w : World) (y1 y2 : Int) (hW : W = w.alloc (.cells #[.int .i64 y1, .int .i64 y2] 52)) (S : Nat) (v : Value) (xs : List (Int × Int))
    (hs : a.eval s = v) (hx : a.eval x = .slice (some ⟨w.heap.size, 0, none⟩) 1 1) (hown : OwE w S v xs) (hl : xs.length ≤ 3000) (hS : S ≤ w.heap.size)
    (h : ∀ g cap w', OwE w' S (.slice (some ⟨g, 0, none⟩) (xs.length + 1) cap) (xs ++ [(y1, y2)]) → Below S w w' → wpList Try.prog ops Q rest (a.put o.dst (.slice (some ⟨g, 0, none⟩) (xs.length + 1) cap)) w') : wpList Try.prog ops Q (o :: rest) a W :=
  gapp1_any (R := RE) hgd s x ho w (y1, y2) 52 hW S v xs hs hx hown hl hS h
set_option maxHeartbeats 32000000 in
theorem rwith_any (M : Int) (v : Value) (ys : List (Int × Int)) (id ep : Int) (w : World) (hy : Es w v ys) (hl : ys.length ≤ 2000) :
    Calls Try.prog 14 #[.agg #[.int .i64 M, v], .int .i64 id, .int .i64 ep] w fun e w' => (∃ u k, e = .returned (.tuple #[u, .int .i64 k]) ∧
      ((¬ (BeOk M ys ∧ BeOk M (winF ys id ep)) ∧ u = .agg #[.int .i64 0, .slice none 0 0] ∧ k = 1) ∨
       (BeOk M ys ∧ BeOk M (winF ys id ep) ∧ k = 0 ∧ ∃ u', u = .agg #[.int .i64 M, u'] ∧ OwE w' w.heap.size u' (winF ys id ep)))) ∧ Below w.heap.size w w' := by
  obtain ⟨a, c, rfl⟩ := hy.form
  obtain ⟨W1, hW1⟩ : ∃ W1, W1 = w.alloc (.cells #[.int .i64 M, .slice a ys.length c] 24) := ⟨_, rfl⟩
  obtain ⟨w2, hw2⟩ : ∃ w2, w2 = W1.alloc (.cells #[.int .i64 0, .slice none 0 0] 24) := ⟨_, rfl⟩
  obtain ⟨V0, hV0⟩ : ∃ V0, V0 = w2.alloc (.cells #[.int .i64 M, .slice none 0 0] 24) := ⟨_, rfl⟩
  have hs1 : W1.heap.size = w.heap.size + 1 := by rw [hW1]; simp
  obtain ⟨g0, hg0⟩ : ∃ g0, w2.heap.size = g0 := ⟨_, rfl⟩
  have hs2 : g0 = w.heap.size + 2 := by rw [← hg0, hw2]; simp; omega
  have hb1 : Below w.heap.size w W1 := by rw [hW1]; exact (Below.refl _ w).alloc (Nat.le_refl _) _
  have hb2 : Below W1.heap.size W1 w2 := by rw [hw2]; exact (Below.refl _ W1).alloc (Nat.le_refl _) _
  have HAL : Hid (Below g0 w2 V0) := by rw [← hg0, hV0]; exact (Below.refl _ w2).alloc (Nat.le_refl _) _
  have OX := Lib.hid ((show OwnB2 W1 w.heap.size M (.slice a ys.length c) by rw [hW1]; exact ownb2_alloc w M (.slice a ys.length c) 24 w.heap.size rfl).below hb2)
  have OR := Lib.hid (show OwnB2 w2 W1.heap.size 0 (.slice none 0 0) by rw [hw2]; exact ownb2_alloc W1 0 (.slice none 0 0) 24 W1.heap.size rfl)
  have HOB := Lib.hid (show OwnB2 V0 g0 M (.slice none 0 0) by rw [hV0]; exact ownb2_alloc w2 M (.slice none 0 0) 24 g0 hg0.symm)
  have HGS : Hid (V0.heap.size = g0 + 1) := by show _ = _; rw [← hg0, hV0]; simp
  have HY := Lib.hid ((hy.below hb1).below hb2)
  have HB : Hid (Below w.heap.size w w2) := hb1.trans (hb2.mono hb1.size)
  have HG0 := Lib.hid hg0
  rw [hs1] at OR
  clear hy hb1 hb2
  obtain ⟨x0, x1⟩ := OX.out.1
  go_enter Try.func14, Try.ntmps14
  go_wp2_with fail
  rw [← hs2, ← hW1, ← hw2, ← hV0]
  have HS2 := Lib.hid hs2
  clear hs2 hV0 hw2 hW1 hs1 hg0 x0 x1
  clear W1
  go_loopw [9, 10] (fun d i wr => ∃ (k : Nat) (v : Value), k ≤ ys.length ∧ i = .int .i64 k ∧ OwnB2 wr g0 M v ∧ OwE wr (g0 + 1) v (wkF ys id ep k).1 ∧ d = .bool (wkF ys id ep k).2 ∧ g0 + 1 ≤ wr.heap.size ∧ Below g0 w2 wr) (fun _ i _ => ys.length - (intOf i).toNat)
  case atStart => exact ⟨0, _, Nat.zero_le _, rfl, HOB.out, eown_nil _ _, rfl, Nat.le_of_eq HGS.out.symm, HAL.out⟩
  case round =>
    obtain ⟨k, v, hk, rfl, hob, hrow, hd0, hsz, hbel⟩ := hrel
    obtain ⟨d, hd⟩ : ∃ d, (wkF ys id ep k).2 = d := ⟨_, rfl⟩
    rw [hd] at hd0
    subst hd0
    have HD := Lib.hid hd
    have HKL := Lib.hid (wk_len1 ys id ep k)
    obtain ⟨a3, c3, rfl⟩ := hrow.form
    have HX := Lib.hid (OX.out.low (by have := HS2.out; omega) hbel)
    have HYW : Hid (Es wr (.slice a ys.length c) ys) := HY.out.below (by rw [HG0.out]; exact hbel)
    have HW := Lib.hid hbel
    have OO := Lib.hid hob
    have OW := Lib.hid hrow
    have HSW := Lib.hid hsz
    clear hbel hob hrow hsz hd
    obtain ⟨x0, x1⟩ := HX.out.1
    obtain ⟨o0, o1⟩ := OO.out.1
    by_cases hlt : k < ys.length
    · obtain ⟨b, off, rfl, hB, p0, p1⟩ := HYW.out.at hlt
      obtain ⟨⟨y1, y2⟩, hyk⟩ : ∃ y, ys.getD k (0, 0) = y := ⟨_, rfl⟩
      rw [hyk] at p0 p1
      simp only at p0 p1
      have hxg : w.heap.size < g0 + 1 := by have := HS2.out; omega
      have hbg : b < g0 + 1 := Nat.lt_succ_of_lt (by have h9 := (HY.out.all hlt).1; rw [HG0.out] at h9; exact h9)
      cases d with
      | true =>
        by_cases he : y1 = id
        · have he' : (y1 != id) = false := by simpa using he
          have HE := Lib.hid (wk_eqD (id := id) (ep := ep) (by rw [hyk]; exact he) HD.out )
          clear he
          go_wp2_with fail
          go_roundw
          case rel =>
            exact ⟨k + 1, _, by omega, by go_num, OO.out, by rw [HE.out]; exact OW.out, by rw [HE.out], HSW.out, HW.out⟩
          case measure => simp [intOf]; omega
        · have he' : (y1 != id) = true := by simpa using he
          have HE := Lib.hid (wk_neD (id := id) (ep := ep) (by rw [hyk]; exact he) HD.out )
          rw [hyk] at HE
          have HXL : Hid (((wkF ys id ep k).1).length ≤ 3000) := by have := HKL.out; show _ ≤ _; omega
          have hq0 : (0 : Int) ≤ (k : Int) := by omega
          have hq1 : (k : Int) < (ys.length : Int) := by omega
          have hqn : ((k : Int)).toNat = k := Int.toNat_natCast k
          have HROW : ∀ b, Value.ownBlock (.slice a3 ((wkF ys id ep k).1).length c3) = some b → b < wr.heap.size := fun b hb => (OW.out.lt b hb).2
          have kc : ∀ w', Below (g0 + 1) wr w' → w'.cell? ⟨g0, 1, none⟩ = some (.slice a3 ((wkF ys id ep k).1).length c3) ∧ w'.cell? ⟨w.heap.size, 1, none⟩ = some (.slice (some ⟨b, off, none⟩) ys.length c) ∧ w'.cell? ⟨b, off + k * 2, none⟩ = some (.int .i64 y1) ∧ w'.cell? ⟨b, off + k * 2 + 1, none⟩ = some (.int .i64 y2) := fun w' h =>
            ⟨(h.cell (p := ⟨g0, 1, none⟩) (Nat.lt_succ_self _)).trans o1, (h.cell (p := ⟨w.heap.size, 1, none⟩) hxg).trans x1, (h.cell (p := ⟨b, off + k * 2, none⟩) hbg).trans p0, (h.cell (p := ⟨b, off + k * 2 + 1, none⟩) hbg).trans p1⟩
          clear he
          go_wp2_with fail
          refine T3.wp_region_tail (C := fun w' => Below (g0 + 1) wr w' ∧ w'.ownsRow (g0 + 1) RE.T RE.K ((.slice a3 ((wkF ys id ep k).1).length c3)) ((wkF ys id ep k).1).length (gflat RE ((wkF ys id ep k).1))) (X := GX (Value.ownBlock ((.slice a3 ((wkF ys id ep k).1).length c3))) 8) (n := 79) 10 (by kernel_rfl) (by kernel_rfl) (by kernel_rfl) (by kernel_rfl) rfl (GX_refl _ 8) ⟨(Below.refl _ _).drew, OW.out.drew⟩ ?_
          simp only [List.take_succ_cons, List.take_zero, List.drop_succ_cons, List.drop_zero]
          refine T3.w_is (GX_refl _ 8) rfl _ (.inl rfl) (fun ρ w hC hc hfn hf => by have e8 : ρ (.tmp 8) = _ := hf 8 (by decide); (conv => lhs; simp [execOp, go_sem, hc, e8])) ?_
          refine T3.w_is (GX_refl _ 8) rfl _ (.inl rfl) (fun ρ w hC hc hfn hf => by have e49 : ρ (.tmp 49) = _ := hf 49 (by decide); (conv => lhs; simp [execOp, go_sem, hc, e49, kc w hC.1])) ?_
          refine T3.w_is (GX_refl _ 8) rfl _ (.inl rfl) (fun ρ w hC hc hfn hf => by have e3 : ρ (.tmp 3) = _ := hf 3 (by decide); (conv => lhs; simp [execOp, go_sem, hc, e3])) ?_
          refine T3.w_is (GX_refl _ 8) rfl _ (.inl rfl) (fun ρ w hC hc hfn hf => by have e51 : ρ (.tmp 51) = _ := hf 51 (by decide); (conv => lhs; simp [execOp, go_sem, hc, e51, kc w hC.1])) ?_
          refine T3.w_is (GX_refl _ 8) rfl _ (.inl rfl) (fun ρ w hC hc hfn hf => by have e10 : ρ (.tmp 10) = _ := hf 10 (by decide); (conv => lhs; simp [execOp, go_sem, hc, e10])) ?_
          refine T3.w_is (GX_refl _ 8) rfl _ (.inl rfl) (fun ρ w hC hc hfn hf => by have e52 : ρ (.tmp 52) = _ := hf 52 (by decide); have e53 : ρ (.tmp 53) = _ := hf 53 (by decide); (conv => lhs; simp [execOp, go_sem, hc, e52, e53, hq0, hq1, hqn])) ?_
          refine T3.w_is (GX_refl _ 8) rfl _ (.inl rfl) (fun ρ w hC hc hfn hf => by have e54 : ρ (.tmp 54) = _ := hf 54 (by decide); (conv => lhs; simp [execOp, go_sem, hc, e54, kc w hC.1])) ?_
          refine T3.w_make rfl (NewG (R := RE) wr (y1, y2)) (NewG.keeps HROW 8 7) (.inl rfl) (fun ρ w hC hc hfn hf => by have e55 : ρ (.tmp 55) = _ := hf 55 (by decide); exact ⟨_, _, by (conv => lhs; simp [execOp, go_sem, hc, e55]), ⟨hC.1.alloc (Nat.le_trans HSW.out hC.1.size) _, hC.2.alloc _⟩, GX_of (by decide) ((Below.refl _ w).alloc (Nat.le_refl _) _), ⟨_, rfl, hC.1.size, ec_alloc w y1 y2⟩⟩) ?_
          refine T3.w_make rfl (NewGRow (R := RE) (g0 + 1) (((wkF ys id ep k).1) ++ [(y1, y2)]) (((wkF ys id ep k).1).length + 1)) (NewGRow.keeps 8) (.inl rfl) (fun ρ w hC hc hfn hf => by have e50 : ρ (.tmp 50) = _ := hf 50 (by decide); obtain ⟨bq, e56, hb1, hb2⟩ := (show NewG (R := RE) wr (y1, y2) (ρ (.tmp 56)) w from hf 56 (by decide)); obtain ⟨gq, cq, wq, hr, hq1, hq2, hq3⟩ := run_gapp (R := RE) w 22 (g0 + 1) _ ((wkF ys id ep k).1) hC.2 bq (y1, y2) hb2 HXL.out (Nat.le_trans HSW.out hC.1.size); exact ⟨_, wq, gexec_append rfl e50 e56 hr, ⟨hC.1.trans ((Below.refl (g0 + 1) w).grown hq2 (Nat.le_trans HSW.out hC.1.size) (fun k hk => (hC.2.lt k hk).1)), hq3⟩, GX_at rfl hq2, ⟨gq, cq, rfl, hq1⟩⟩) ?_
          refine T3.w_is (GX_refl _ 8) rfl _ (.inl rfl) (fun ρ w hC hc hfn hf => by have e8 : ρ (.tmp 8) = _ := hf 8 (by decide); (conv => lhs; simp [execOp, go_sem, hc, e8])) ?_
          intro A V5 hC hn hd hf
          obtain ⟨bq, y56, -, -⟩ := (show NewG (R := RE) wr (y1, y2) (A.eval (.tmp 56)) V5 from hf 56)
          obtain ⟨gq, cq, y57, OQ⟩ := (show NewGRow (R := RE) (g0 + 1) (((wkF ys id ep k).1) ++ [(y1, y2)]) (((wkF ys id ep k).1).length + 1) (A.eval (.tmp 57)) V5 from hf 57)
          rw [y57] at OQ
          have y0 : A.eval (.tmp 0) = _ := Eq.trans (hf 0) (by conv => lhs; simp [go_sem])
          have y1 : A.eval (.tmp 1) = _ := Eq.trans (hf 1) (by conv => lhs; simp [go_sem])
          have y2 : A.eval (.tmp 2) = _ := Eq.trans (hf 2) (by conv => lhs; simp [go_sem])
          have y3 : A.eval (.tmp 3) = _ := Eq.trans (hf 3) (by conv => lhs; simp [go_sem])
          have y4 : A.eval (.tmp 4) = _ := Eq.trans (hf 4) (by conv => lhs; simp [go_sem])
          have y5 : A.eval (.tmp 5) = _ := Eq.trans (hf 5) (by conv => lhs; simp [go_sem])
          have y6 : A.eval (.tmp 6) = _ := Eq.trans (hf 6) (by conv => lhs; simp [go_sem])
          have y7 : A.eval (.tmp 7) = _ := Eq.trans (hf 7) (by conv => lhs; simp [go_sem])
          have y8 : A.eval (.tmp 8) = _ := Eq.trans (hf 8) (by conv => lhs; simp [go_sem])
          have y9 : A.eval (.tmp 9) = _ := Eq.trans (hf 9) (by conv => lhs; simp [go_sem])
          have y10 : A.eval (.tmp 10) = _ := Eq.trans (hf 10) (by conv => lhs; simp [go_sem])
          have y11 : A.eval (.tmp 11) = _ := Eq.trans (hf 11) (by conv => lhs; simp [go_sem])
          have y12 : A.eval (.tmp 12) = _ := Eq.trans (hf 12) (by conv => lhs; simp [go_sem])
          have y13 : A.eval (.tmp 13) = _ := Eq.trans (hf 13) (by conv => lhs; simp [go_sem])
          have y14 : A.eval (.tmp 14) = _ := Eq.trans (hf 14) (by conv => lhs; simp [go_sem])
          have y15 : A.eval (.tmp 15) = _ := Eq.trans (hf 15) (by conv => lhs; simp [go_sem])
          have y16 : A.eval (.tmp 16) = _ := Eq.trans (hf 16) (by conv => lhs; simp [go_sem])
          have y17 : A.eval (.tmp 17) = _ := Eq.trans (hf 17) (by conv => lhs; simp [go_sem])
          have y18 : A.eval (.tmp 18) = _ := Eq.trans (hf 18) (by conv => lhs; simp [go_sem])
          have y19 : A.eval (.tmp 19) = _ := Eq.trans (hf 19) (by conv => lhs; simp [go_sem])
          have y20 : A.eval (.tmp 20) = _ := Eq.trans (hf 20) (by conv => lhs; simp [go_sem])
          have y21 : A.eval (.tmp 21) = _ := Eq.trans (hf 21) (by conv => lhs; simp [go_sem])
          have y22 : A.eval (.tmp 22) = _ := Eq.trans (hf 22) (by conv => lhs; simp [go_sem])
          have y23 : A.eval (.tmp 23) = _ := Eq.trans (hf 23) (by conv => lhs; simp [go_sem])
          have y24 : A.eval (.tmp 24) = _ := Eq.trans (hf 24) (by conv => lhs; simp [go_sem])
          have y25 : A.eval (.tmp 25) = _ := Eq.trans (hf 25) (by conv => lhs; simp [go_sem])
          have y26 : A.eval (.tmp 26) = _ := Eq.trans (hf 26) (by conv => lhs; simp [go_sem])
          have y27 : A.eval (.tmp 27) = _ := Eq.trans (hf 27) (by conv => lhs; simp [go_sem])
          have y28 : A.eval (.tmp 28) = _ := Eq.trans (hf 28) (by conv => lhs; simp [go_sem])
          have y29 : A.eval (.tmp 29) = _ := Eq.trans (hf 29) (by conv => lhs; simp [go_sem])
          have y30 : A.eval (.tmp 30) = _ := Eq.trans (hf 30) (by conv => lhs; simp [go_sem])
          have y31 : A.eval (.tmp 31) = _ := Eq.trans (hf 31) (by conv => lhs; simp [go_sem])
          have y32 : A.eval (.tmp 32) = _ := Eq.trans (hf 32) (by conv => lhs; simp [go_sem])
          have y33 : A.eval (.tmp 33) = _ := Eq.trans (hf 33) (by conv => lhs; simp [go_sem])
          have y34 : A.eval (.tmp 34) = _ := Eq.trans (hf 34) (by conv => lhs; simp [go_sem])
          have y35 : A.eval (.tmp 35) = _ := Eq.trans (hf 35) (by conv => lhs; simp [go_sem])
          have y36 : A.eval (.tmp 36) = _ := Eq.trans (hf 36) (by conv => lhs; simp [go_sem])
          have y37 : A.eval (.tmp 37) = _ := Eq.trans (hf 37) (by conv => lhs; simp [go_sem])
          have y38 : A.eval (.tmp 38) = _ := Eq.trans (hf 38) (by conv => lhs; simp [go_sem])
          have y39 : A.eval (.tmp 39) = _ := Eq.trans (hf 39) (by conv => lhs; simp [go_sem])
          have y40 : A.eval (.tmp 40) = _ := Eq.trans (hf 40) (by conv => lhs; simp [go_sem])
          have y41 : A.eval (.tmp 41) = _ := Eq.trans (hf 41) (by conv => lhs; simp [go_sem])
          have y42 : A.eval (.tmp 42) = _ := Eq.trans (hf 42) (by conv => lhs; simp [go_sem])
          have y43 : A.eval (.tmp 43) = _ := Eq.trans (hf 43) (by conv => lhs; simp [go_sem])
          have y44 : A.eval (.tmp 44) = _ := Eq.trans (hf 44) (by conv => lhs; simp [go_sem])
          have y45 : A.eval (.tmp 45) = _ := Eq.trans (hf 45) (by conv => lhs; simp [go_sem])
          have y46 : A.eval (.tmp 46) = _ := Eq.trans (hf 46) (by conv => lhs; simp [go_sem])
          have y47 : A.eval (.tmp 47) = _ := Eq.trans (hf 47) (by conv => lhs; simp [go_sem])
          have y48 : A.eval (.tmp 48) = _ := Eq.trans (hf 48) (by conv => lhs; simp [go_sem])
          have y49 : A.eval (.tmp 49) = _ := hf 49
          have y50 : A.eval (.tmp 50) = _ := hf 50
          have y51 : A.eval (.tmp 51) = _ := hf 51
          have y52 : A.eval (.tmp 52) = _ := hf 52
          have y53 : A.eval (.tmp 53) = _ := hf 53
          have y54 : A.eval (.tmp 54) = _ := hf 54
          have y55 : A.eval (.tmp 55) = _ := hf 55
          have y58 : A.eval (.tmp 58) = _ := hf 58
          have y59 : A.eval (.tmp 59) = _ := Eq.trans (hf 59) (by conv => lhs; simp [go_sem])
          have y60 : A.eval (.tmp 60) = _ := Eq.trans (hf 60) (by conv => lhs; simp [go_sem])
          have y61 : A.eval (.tmp 61) = _ := Eq.trans (hf 61) (by conv => lhs; simp [go_sem])
          have y62 : A.eval (.tmp 62) = _ := Eq.trans (hf 62) (by conv => lhs; simp [go_sem])
          have y63 : A.eval (.tmp 63) = _ := Eq.trans (hf 63) (by conv => lhs; simp [go_sem])
          have y64 : A.eval (.tmp 64) = _ := Eq.trans (hf 64) (by conv => lhs; simp [go_sem])
          have y65 : A.eval (.tmp 65) = _ := Eq.trans (hf 65) (by conv => lhs; simp [go_sem])
          have y66 : A.eval (.tmp 66) = _ := Eq.trans (hf 66) (by conv => lhs; simp [go_sem])
          have y67 : A.eval (.tmp 67) = _ := Eq.trans (hf 67) (by conv => lhs; simp [go_sem])
          have y68 : A.eval (.tmp 68) = _ := Eq.trans (hf 68) (by conv => lhs; simp [go_sem])
          have y69 : A.eval (.tmp 69) = _ := Eq.trans (hf 69) (by conv => lhs; simp [go_sem])
          have y70 : A.eval (.tmp 70) = _ := Eq.trans (hf 70) (by conv => lhs; simp [go_sem])
          have y71 : A.eval (.tmp 71) = _ := Eq.trans (hf 71) (by conv => lhs; simp [go_sem])
          have y72 : A.eval (.tmp 72) = _ := Eq.trans (hf 72) (by conv => lhs; simp [go_sem])
          have y73 : A.eval (.tmp 73) = _ := Eq.trans (hf 73) (by conv => lhs; simp [go_sem])
          have y74 : A.eval (.tmp 74) = _ := Eq.trans (hf 74) (by conv => lhs; simp [go_sem])
          have y75 : A.eval (.tmp 75) = _ := Eq.trans (hf 75) (by conv => lhs; simp [go_sem])
          have y76 : A.eval (.tmp 76) = _ := Eq.trans (hf 76) (by conv => lhs; simp [go_sem])
          have y77 : A.eval (.tmp 77) = _ := Eq.trans (hf 77) (by conv => lhs; simp [go_sem])
          have y78 : A.eval (.tmp 78) = _ := Eq.trans (hf 78) (by conv => lhs; simp [go_sem])
          clear hf
          have hA := frame_eq hn
          rw [show List.range 79 = [0, 1, 2, 3, 4, 5, 6, 7, 8, 9, 10, 11, 12, 13, 14, 15, 16, 17, 18, 19, 20, 21, 22, 23, 24, 25, 26, 27, 28, 29, 30, 31, 32, 33, 34, 35, 36, 37, 38, 39, 40, 41, 42, 43, 44, 45, 46, 47, 48, 49, 50, 51, 52, 53, 54, 55, 56, 57, 58, 59, 60, 61, 62, 63, 64, 65, 66, 67, 68, 69, 70, 71, 72, 73, 74, 75, 76, 77, 78] from rfl, hd] at hA
          simp only [List.map_cons, List.map_nil, y0, y1, y2, y3, y4, y5, y6, y7, y8, y9, y10, y11, y12, y13, y14, y15, y16, y17, y18, y19, y20, y21, y22, y23, y24, y25, y26, y27, y28, y29, y30, y31, y32, y33, y34, y35, y36, y37, y38, y39, y40, y41, y42, y43, y44, y45, y46, y47, y48, y49, y50, y51, y52, y53, y54, y55, y56, y57, y58, y59, y60, y61, y62, y63, y64, y65, y66, y67, y68, y69, y70, y71, y72, y73, y74, y75, y76, y77, y78] at hA
          clear y0 y1 y2 y3 y4 y5 y6 y7 y8 y9 y10 y11 y12 y13 y14 y15 y16 y17 y18 y19 y20 y21 y22 y23 y24 y25 y26 y27 y28 y29 y30 y31 y32 y33 y34 y35 y36 y37 y38 y39 y40 y41 y42 y43 y44 y45 y46 y47 y48 y49 y50 y51 y52 y53 y54 y55 y56 y57 y58 y59 y60 y61 y62 y63 y64 y65 y66 y67 y68 y69 y70 y71 y72 y73 y74 y75 y76 y77 y78
          clear hn hd
          subst hA
          have hcell5 : V5.cell? ⟨g0, 1, none⟩ = _ := (kc V5 hC.1).1
          have hfz5 : V5.frozen? ⟨g0, 1, none⟩ = false := by rw [hC.1.frozen (p := ⟨g0, 1, none⟩) (Nat.lt_succ_self _)]; exact OO.out.2 1
          have OO5 := Lib.hid ((OO.out.low (Nat.lt_succ_self _) hC.1).set1 (.slice (some ⟨gq, 0, none⟩) (((wkF ys id ep k).1).length + 1) cq))
          have OQ5 : Hid (OwE V5 (g0 + 1) (.slice (some ⟨gq, 0, none⟩) (((wkF ys id ep k).1).length + 1) cq) (((wkF ys id ep k).1) ++ [(y1, y2)])) := OQ
          have HW5 := Lib.hid ((HW.out.trans (hC.1.mono (Nat.le_succ _))).setCell (p := ⟨g0, 1, none⟩) (Nat.le_refl _) (.slice (some ⟨gq, 0, none⟩) (((wkF ys id ep k).1).length + 1) cq))
          have HS5 : Hid (g0 + 1 ≤ V5.heap.size) := Nat.le_trans HSW.out hC.1.size
          clear kc OQ hC HROW p0 p1 x0 x1 o0 o1
          go_wp2_with fail
          go_roundw
          case rel =>
            exact ⟨k + 1, _, by omega, by go_num, OO5.out, by rw [HE.out]; exact OQ5.out.set (Nat.lt_succ_self _) 1, by rw [HE.out], by simp; exact HS5.out, HW5.out⟩
          case measure => simp [intOf]; omega
      | false =>
        by_cases hc : id ≤ y1
        · have HC := Lib.hid hc
          go_upto_region 9 with (at_builtin; go_loud (skip; refine eapp1_any rfl (.tmp 34) (.tmp 38) rfl wr id ep rfl (g0 + 1) (.slice a3 (wkF ys id ep k).1.length c3) (wkF ys id ep k).1 rfl rfl OW.out (Nat.le_trans HKL.out (by omega)) HSW.out ?_; intro gh ch wh hrow2 hbel2; have OW2 := Lib.hid hrow2; have HB2 := Lib.hid hbel2; have O1 := OO.out.low (Nat.lt_succ_self _) hbel2; have OY := Lib.hid O1; obtain ⟨⟨q0, q1⟩, qf⟩ := O1; clear hrow2 hbel2))
          have OO2 := Lib.hid (OY.out.set1 (.slice (some ⟨gh, 0, none⟩) ((wkF ys id ep k).1.length + 1) ch))
          have HW2 := Lib.hid ((HW.out.trans (HB2.out.mono (Nat.le_succ _))).setCell (p := ⟨g0, 1, none⟩) (Nat.le_refl _) (.slice (some ⟨gh, 0, none⟩) ((wkF ys id ep k).1.length + 1) ch))
          have HSW2 : Hid (g0 + 1 ≤ (wh.setCell ⟨g0, 1, none⟩ (.slice (some ⟨gh, 0, none⟩) ((wkF ys id ep k).1.length + 1) ch)).heap.size) := by show _ ≤ _; simp; exact Nat.le_trans HSW.out HB2.out.size
          replace OW2 : Hid (OwE (wh.setCell ⟨g0, 1, none⟩ (.slice (some ⟨gh, 0, none⟩) ((wkF ys id ep k).1.length + 1) ch)) (g0 + 1) (.slice (some ⟨gh, 0, none⟩) ((wkF ys id ep k).1.length + 1) ch) ((wkF ys id ep k).1 ++ [(id, ep)])) := OW2.out.set (Nat.lt_succ_self g0) 1 (u := .slice (some ⟨gh, 0, none⟩) ((wkF ys id ep k).1.length + 1) ch)
          have hln : (wkF ys id ep k).1.length + 1 = ((wkF ys id ep k).1 ++ [(id, ep)]).length := by simp
          obtain ⟨o2, ho2⟩ : ∃ o2, (wkF ys id ep k).1 ++ [(id, ep)] = o2 := ⟨_, rfl⟩
          rw [ho2] at OW2 hln
          rw [hln] at OO2 OW2 HW2 HSW2
          rw [hln]
          have HO2 : Hid (o2.length ≤ 2001) := by have := HKL.out; show _ ≤ _; omega
          have x1' := (HX.out.low hxg HB2.out).1.2
          have p0' := (HB2.out.cell (p := ⟨b, off + k * 2, none⟩) hbg).trans p0
          have p1' := (HB2.out.cell (p := ⟨b, off + k * 2 + 1, none⟩) hbg).trans p1
          have hne1 : w.heap.size ≠ g0 := by have := HS2.out; omega
          have hne2 : b ≠ g0 := by have h9 := (HY.out.all hlt).1; rw [HG0.out] at h9; exact Nat.ne_of_lt h9
          have x1 : (wh.setCell ⟨g0, 1, none⟩ (.slice (some ⟨gh, 0, none⟩) o2.length ch)).cell? ⟨w.heap.size, 1, none⟩ = some (.slice (some ⟨b, off, none⟩) ys.length c) := (World.cell?_of_block (Below.heap_setCell wh ⟨g0, 1, none⟩ _ _ hne1)).trans x1'
          have p0 : (wh.setCell ⟨g0, 1, none⟩ (.slice (some ⟨gh, 0, none⟩) o2.length ch)).cell? ⟨b, off + k * 2, none⟩ = some (.int .i64 y1) := (World.cell?_of_block (Below.heap_setCell wh ⟨g0, 1, none⟩ _ _ hne2)).trans p0'
          have p1 : (wh.setCell ⟨g0, 1, none⟩ (.slice (some ⟨gh, 0, none⟩) o2.length ch)).cell? ⟨b, off + k * 2 + 1, none⟩ = some (.int .i64 y2) := (World.cell?_of_block (Below.heap_setCell wh ⟨g0, 1, none⟩ _ _ hne2)).trans p1'
          clear x1' p0' p1' q0 q1 qf OY HB2 o0 o1 x0 hc hne1 hne2
          generalize wh.setCell ⟨g0, 1, none⟩ (.slice (some ⟨gh, 0, none⟩) o2.length ch) = wz at *
          obtain ⟨o0, o1⟩ := OO2.out.1
          have x0 := trivial
          by_cases he : y1 = id
          · have he' : (y1 != id) = false := by simpa using he
            have HE := Lib.hid (wk_eqH (id := id) (ep := ep) (by rw [hyk]; exact he) HD.out (by rw [hyk]; exact HC.out))
            rw [ho2] at HE
            clear he
            go_wp2_with fail
            go_roundw
            case rel =>
              exact ⟨k + 1, _, by omega, by go_num, OO2.out, by rw [HE.out]; exact OW2.out, by rw [HE.out], HSW2.out, HW2.out⟩
            case measure => simp [intOf]; omega
          · have he' : (y1 != id) = true := by simpa using he
            have HE := Lib.hid (wk_neH (id := id) (ep := ep) (by rw [hyk]; exact he) HD.out (by rw [hyk]; exact HC.out))
            rw [hyk] at HE
            rw [ho2] at HE
            have HXL : Hid ((o2).length ≤ 3000) := by have := HO2.out; show _ ≤ _; omega
            have hq0 : (0 : Int) ≤ (k : Int) := by omega
            have hq1 : (k : Int) < (ys.length : Int) := by omega
            have hqn : ((k : Int)).toNat = k := Int.toNat_natCast k
            have HROW : ∀ b, Value.ownBlock (.slice (some ⟨gh, 0, none⟩) (o2).length ch) = some b → b < wz.heap.size := fun b hb => (OW2.out.lt b hb).2
            have kc : ∀ w', Below (g0 + 1) wz w' → w'.cell? ⟨g0, 1, none⟩ = some (.slice (some ⟨gh, 0, none⟩) (o2).length ch) ∧ w'.cell? ⟨w.heap.size, 1, none⟩ = some (.slice (some ⟨b, off, none⟩) ys.length c) ∧ w'.cell? ⟨b, off + k * 2, none⟩ = some (.int .i64 y1) ∧ w'.cell? ⟨b, off + k * 2 + 1, none⟩ = some (.int .i64 y2) := fun w' h =>
              ⟨(h.cell (p := ⟨g0, 1, none⟩) (Nat.lt_succ_self _)).trans o1, (h.cell (p := ⟨w.heap.size, 1, none⟩) hxg).trans x1, (h.cell (p := ⟨b, off + k * 2, none⟩) hbg).trans p0, (h.cell (p := ⟨b, off + k * 2 + 1, none⟩) hbg).trans p1⟩
            clear he
            go_wp2_with fail
            refine T3.wp_region_tail (C := fun w' => Below (g0 + 1) wz w' ∧ w'.ownsRow (g0 + 1) RE.T RE.K ((.slice (some ⟨gh, 0, none⟩) (o2).length ch)) (o2).length (gflat RE (o2))) (X := GX (Value.ownBlock ((.slice (some ⟨gh, 0, none⟩) (o2).length ch))) 8) (n := 79) 10 (by kernel_rfl) (by kernel_rfl) (by kernel_rfl) (by kernel_rfl) rfl (GX_refl _ 8) ⟨(Below.refl _ _).drew, OW2.out.drew⟩ ?_
            simp only [List.take_succ_cons, List.take_zero, List.drop_succ_cons, List.drop_zero]
            refine T3.w_is (GX_refl _ 8) rfl _ (.inl rfl) (fun ρ w hC hc hfn hf => by have e8 : ρ (.tmp 8) = _ := hf 8 (by decide); (conv => lhs; simp [execOp, go_sem, hc, e8])) ?_
            refine T3.w_is (GX_refl _ 8) rfl _ (.inl rfl) (fun ρ w hC hc hfn hf => by have e49 : ρ (.tmp 49) = _ := hf 49 (by decide); (conv => lhs; simp [execOp, go_sem, hc, e49, kc w hC.1])) ?_
            refine T3.w_is (GX_refl _ 8) rfl _ (.inl rfl) (fun ρ w hC hc hfn hf => by have e3 : ρ (.tmp 3) = _ := hf 3 (by decide); (conv => lhs; simp [execOp, go_sem, hc, e3])) ?_
            refine T3.w_is (GX_refl _ 8) rfl _ (.inl rfl) (fun ρ w hC hc hfn hf => by have e51 : ρ (.tmp 51) = _ := hf 51 (by decide); (conv => lhs; simp [execOp, go_sem, hc, e51, kc w hC.1])) ?_
            refine T3.w_is (GX_refl _ 8) rfl _ (.inl rfl) (fun ρ w hC hc hfn hf => by have e10 : ρ (.tmp 10) = _ := hf 10 (by decide); (conv => lhs; simp [execOp, go_sem, hc, e10])) ?_
            refine T3.w_is (GX_refl _ 8) rfl _ (.inl rfl) (fun ρ w hC hc hfn hf => by have e52 : ρ (.tmp 52) = _ := hf 52 (by decide); have e53 : ρ (.tmp 53) = _ := hf 53 (by decide); (conv => lhs; simp [execOp, go_sem, hc, e52, e53, hq0, hq1, hqn])) ?_
            refine T3.w_is (GX_refl _ 8) rfl _ (.inl rfl) (fun ρ w hC hc hfn hf => by have e54 : ρ (.tmp 54) = _ := hf 54 (by decide); (conv => lhs; simp [execOp, go_sem, hc, e54, kc w hC.1])) ?_
            refine T3.w_make rfl (NewG (R := RE) wz (y1, y2)) (NewG.keeps HROW 8 7) (.inl rfl) (fun ρ w hC hc hfn hf => by have e55 : ρ (.tmp 55) = _ := hf 55 (by decide); exact ⟨_, _, by (conv => lhs; simp [execOp, go_sem, hc, e55]), ⟨hC.1.alloc (Nat.le_trans HSW2.out hC.1.size) _, hC.2.alloc _⟩, GX_of (by decide) ((Below.refl _ w).alloc (Nat.le_refl _) _), ⟨_, rfl, hC.1.size, ec_alloc w y1 y2⟩⟩) ?_
            refine T3.w_make rfl (NewGRow (R := RE) (g0 + 1) ((o2) ++ [(y1, y2)]) ((o2).length + 1)) (NewGRow.keeps 8) (.inl rfl) (fun ρ w hC hc hfn hf => by have e50 : ρ (.tmp 50) = _ := hf 50 (by decide); obtain ⟨bq, e56, hb1, hb2⟩ := (show NewG (R := RE) wz (y1, y2) (ρ (.tmp 56)) w from hf 56 (by decide)); obtain ⟨gq, cq, wq, hr, hq1, hq2, hq3⟩ := run_gapp (R := RE) w 22 (g0 + 1) _ (o2) hC.2 bq (y1, y2) hb2 HXL.out (Nat.le_trans HSW2.out hC.1.size); exact ⟨_, wq, gexec_append rfl e50 e56 hr, ⟨hC.1.trans ((Below.refl (g0 + 1) w).grown hq2 (Nat.le_trans HSW2.out hC.1.size) (fun k hk => (hC.2.lt k hk).1)), hq3⟩, GX_at rfl hq2, ⟨gq, cq, rfl, hq1⟩⟩) ?_
            refine T3.w_is (GX_refl _ 8) rfl _ (.inl rfl) (fun ρ w hC hc hfn hf => by have e8 : ρ (.tmp 8) = _ := hf 8 (by decide); (conv => lhs; simp [execOp, go_sem, hc, e8])) ?_
            intro A V5 hC hn hd hf
            obtain ⟨bq, y56, -, -⟩ := (show NewG (R := RE) wz (y1, y2) (A.eval (.tmp 56)) V5 from hf 56)
            obtain ⟨gq, cq, y57, OQ⟩ := (show NewGRow (R := RE) (g0 + 1) ((o2) ++ [(y1, y2)]) ((o2).length + 1) (A.eval (.tmp 57)) V5 from hf 57)
            rw [y57] at OQ
            have y0 : A.eval (.tmp 0) = _ := Eq.trans (hf 0) (by conv => lhs; simp [go_sem])
            have y1 : A.eval (.tmp 1) = _ := Eq.trans (hf 1) (by conv => lhs; simp [go_sem])
            have y2 : A.eval (.tmp 2) = _ := Eq.trans (hf 2) (by conv => lhs; simp [go_sem])
            have y3 : A.eval (.tmp 3) = _ := Eq.trans (hf 3) (by conv => lhs; simp [go_sem])
            have y4 : A.eval (.tmp 4) = _ := Eq.trans (hf 4) (by conv => lhs; simp [go_sem])
            have y5 : A.eval (.tmp 5) = _ := Eq.trans (hf 5) (by conv => lhs; simp [go_sem])
            have y6 : A.eval (.tmp 6) = _ := Eq.trans (hf 6) (by conv => lhs; simp [go_sem])
            have y7 : A.eval (.tmp 7) = _ := Eq.trans (hf 7) (by conv => lhs; simp [go_sem])
            have y8 : A.eval (.tmp 8) = _ := Eq.trans (hf 8) (by conv => lhs; simp [go_sem])
            have y9 : A.eval (.tmp 9) = _ := Eq.trans (hf 9) (by conv => lhs; simp [go_sem])
            have y10 : A.eval (.tmp 10) = _ := Eq.trans (hf 10) (by conv => lhs; simp [go_sem])
            have y11 : A.eval (.tmp 11) = _ := Eq.trans (hf 11) (by conv => lhs; simp [go_sem])
            have y12 : A.eval (.tmp 12) = _ := Eq.trans (hf 12) (by conv => lhs; simp [go_sem])
            have y13 : A.eval (.tmp 13) = _ := Eq.trans (hf 13) (by conv => lhs; simp [go_sem])
            have y14 : A.eval (.tmp 14) = _ := Eq.trans (hf 14) (by conv => lhs; simp [go_sem])
            have y15 : A.eval (.tmp 15) = _ := Eq.trans (hf 15) (by conv => lhs; simp [go_sem])
            have y16 : A.eval (.tmp 16) = _ := Eq.trans (hf 16) (by conv => lhs; simp [go_sem])
            have y17 : A.eval (.tmp 17) = _ := Eq.trans (hf 17) (by conv => lhs; simp [go_sem])
            have y18 : A.eval (.tmp 18) = _ := Eq.trans (hf 18) (by conv => lhs; simp [go_sem])
            have y19 : A.eval (.tmp 19) = _ := Eq.trans (hf 19) (by conv => lhs; simp [go_sem])
            have y20 : A.eval (.tmp 20) = _ := Eq.trans (hf 20) (by conv => lhs; simp [go_sem])
            have y21 : A.eval (.tmp 21) = _ := Eq.trans (hf 21) (by conv => lhs; simp [go_sem])
            have y22 : A.eval (.tmp 22) = _ := Eq.trans (hf 22) (by conv => lhs; simp [go_sem])
            have y23 : A.eval (.tmp 23) = _ := Eq.trans (hf 23) (by conv => lhs; simp [go_sem])
            have y24 : A.eval (.tmp 24) = _ := Eq.trans (hf 24) (by conv => lhs; simp [go_sem])
            have y25 : A.eval (.tmp 25) = _ := Eq.trans (hf 25) (by conv => lhs; simp [go_sem])
            have y26 : A.eval (.tmp 26) = _ := Eq.trans (hf 26) (by conv => lhs; simp [go_sem])
            have y27 : A.eval (.tmp 27) = _ := Eq.trans (hf 27) (by conv => lhs; simp [go_sem])
            have y28 : A.eval (.tmp 28) = _ := Eq.trans (hf 28) (by conv => lhs; simp [go_sem])
            have y29 : A.eval (.tmp 29) = _ := Eq.trans (hf 29) (by conv => lhs; simp [go_sem])
            have y30 : A.eval (.tmp 30) = _ := Eq.trans (hf 30) (by conv => lhs; simp [go_sem])
            have y31 : A.eval (.tmp 31) = _ := Eq.trans (hf 31) (by conv => lhs; simp [go_sem])
            have y32 : A.eval (.tmp 32) = _ := Eq.trans (hf 32) (by conv => lhs; simp [go_sem])
            have y33 : A.eval (.tmp 33) = _ := Eq.trans (hf 33) (by conv => lhs; simp [go_sem])
            have y34 : A.eval (.tmp 34) = _ := Eq.trans (hf 34) (by conv => lhs; simp [go_sem])
            have y35 : A.eval (.tmp 35) = _ := Eq.trans (hf 35) (by conv => lhs; simp [go_sem])
            have y36 : A.eval (.tmp 36) = _ := Eq.trans (hf 36) (by conv => lhs; simp [go_sem])
            have y37 : A.eval (.tmp 37) = _ := Eq.trans (hf 37) (by conv => lhs; simp [go_sem])
            have y38 : A.eval (.tmp 38) = _ := Eq.trans (hf 38) (by conv => lhs; simp [go_sem])
            have y39 : A.eval (.tmp 39) = _ := Eq.trans (hf 39) (by conv => lhs; simp [go_sem])
            have y40 : A.eval (.tmp 40) = _ := Eq.trans (hf 40) (by conv => lhs; simp [go_sem])
            have y41 : A.eval (.tmp 41) = _ := Eq.trans (hf 41) (by conv => lhs; simp [go_sem])
            have y42 : A.eval (.tmp 42) = _ := Eq.trans (hf 42) (by conv => lhs; simp [go_sem])
            have y43 : A.eval (.tmp 43) = _ := Eq.trans (hf 43) (by conv => lhs; simp [go_sem])
            have y44 : A.eval (.tmp 44) = _ := Eq.trans (hf 44) (by conv => lhs; simp [go_sem])
            have y45 : A.eval (.tmp 45) = _ := Eq.trans (hf 45) (by conv => lhs; simp [go_sem])
            have y46 : A.eval (.tmp 46) = _ := Eq.trans (hf 46) (by conv => lhs; simp [go_sem])
            have y47 : A.eval (.tmp 47) = _ := Eq.trans (hf 47) (by conv => lhs; simp [go_sem])
            have y48 : A.eval (.tmp 48) = _ := Eq.trans (hf 48) (by conv => lhs; simp [go_sem])
            have y49 : A.eval (.tmp 49) = _ := hf 49
            have y50 : A.eval (.tmp 50) = _ := hf 50
            have y51 : A.eval (.tmp 51) = _ := hf 51
            have y52 : A.eval (.tmp 52) = _ := hf 52
            have y53 : A.eval (.tmp 53) = _ := hf 53
            have y54 : A.eval (.tmp 54) = _ := hf 54
            have y55 : A.eval (.tmp 55) = _ := hf 55
            have y58 : A.eval (.tmp 58) = _ := hf 58
            have y59 : A.eval (.tmp 59) = _ := Eq.trans (hf 59) (by conv => lhs; simp [go_sem])
            have y60 : A.eval (.tmp 60) = _ := Eq.trans (hf 60) (by conv => lhs; simp [go_sem])
            have y61 : A.eval (.tmp 61) = _ := Eq.trans (hf 61) (by conv => lhs; simp [go_sem])
            have y62 : A.eval (.tmp 62) = _ := Eq.trans (hf 62) (by conv => lhs; simp [go_sem])
            have y63 : A.eval (.tmp 63) = _ := Eq.trans (hf 63) (by conv => lhs; simp [go_sem])
            have y64 : A.eval (.tmp 64) = _ := Eq.trans (hf 64) (by conv => lhs; simp [go_sem])
            have y65 : A.eval (.tmp 65) = _ := Eq.trans (hf 65) (by conv => lhs; simp [go_sem])
            have y66 : A.eval (.tmp 66) = _ := Eq.trans (hf 66) (by conv => lhs; simp [go_sem])
            have y67 : A.eval (.tmp 67) = _ := Eq.trans (hf 67) (by conv => lhs; simp [go_sem])
            have y68 : A.eval (.tmp 68) = _ := Eq.trans (hf 68) (by conv => lhs; simp [go_sem])
            have y69 : A.eval (.tmp 69) = _ := Eq.trans (hf 69) (by conv => lhs; simp [go_sem])
            have y70 : A.eval (.tmp 70) = _ := Eq.trans (hf 70) (by conv => lhs; simp [go_sem])
            have y71 : A.eval (.tmp 71) = _ := Eq.trans (hf 71) (by conv => lhs; simp [go_sem])
            have y72 : A.eval (.tmp 72) = _ := Eq.trans (hf 72) (by conv => lhs; simp [go_sem])
            have y73 : A.eval (.tmp 73) = _ := Eq.trans (hf 73) (by conv => lhs; simp [go_sem])
            have y74 : A.eval (.tmp 74) = _ := Eq.trans (hf 74) (by conv => lhs; simp [go_sem])
            have y75 : A.eval (.tmp 75) = _ := Eq.trans (hf 75) (by conv => lhs; simp [go_sem])
            have y76 : A.eval (.tmp 76) = _ := Eq.trans (hf 76) (by conv => lhs; simp [go_sem])
            have y77 : A.eval (.tmp 77) = _ := Eq.trans (hf 77) (by conv => lhs; simp [go_sem])
            have y78 : A.eval (.tmp 78) = _ := Eq.trans (hf 78) (by conv => lhs; simp [go_sem])
            clear hf
            have hA := frame_eq hn
            rw [show List.range 79 = [0, 1, 2, 3, 4, 5, 6, 7, 8, 9, 10, 11, 12, 13, 14, 15, 16, 17, 18, 19, 20, 21, 22, 23, 24, 25, 26, 27, 28, 29, 30, 31, 32, 33, 34, 35, 36, 37, 38, 39, 40, 41, 42, 43, 44, 45, 46, 47, 48, 49, 50, 51, 52, 53, 54, 55, 56, 57, 58, 59, 60, 61, 62, 63, 64, 65, 66, 67, 68, 69, 70, 71, 72, 73, 74, 75, 76, 77, 78] from rfl, hd] at hA
            simp only [List.map_cons, List.map_nil, y0, y1, y2, y3, y4, y5, y6, y7, y8, y9, y10, y11, y12, y13, y14, y15, y16, y17, y18, y19, y20, y21, y22, y23, y24, y25, y26, y27, y28, y29, y30, y31, y32, y33, y34, y35, y36, y37, y38, y39, y40, y41, y42, y43, y44, y45, y46, y47, y48, y49, y50, y51, y52, y53, y54, y55, y56, y57, y58, y59, y60, y61, y62, y63, y64, y65, y66, y67, y68, y69, y70, y71, y72, y73, y74, y75, y76, y77, y78] at hA
            clear y0 y1 y2 y3 y4 y5 y6 y7 y8 y9 y10 y11 y12 y13 y14 y15 y16 y17 y18 y19 y20 y21 y22 y23 y24 y25 y26 y27 y28 y29 y30 y31 y32 y33 y34 y35 y36 y37 y38 y39 y40 y41 y42 y43 y44 y45 y46 y47 y48 y49 y50 y51 y52 y53 y54 y55 y56 y57 y58 y59 y60 y61 y62 y63 y64 y65 y66 y67 y68 y69 y70 y71 y72 y73 y74 y75 y76 y77 y78
            clear hn hd
            subst hA
            have hcell5 : V5.cell? ⟨g0, 1, none⟩ = _ := (kc V5 hC.1).1
            have hfz5 : V5.frozen? ⟨g0, 1, none⟩ = false := by rw [hC.1.frozen (p := ⟨g0, 1, none⟩) (Nat.lt_succ_self _)]; exact OO2.out.2 1
            have OO5 := Lib.hid ((OO2.out.low (Nat.lt_succ_self _) hC.1).set1 (.slice (some ⟨gq, 0, none⟩) ((o2).length + 1) cq))
            have OQ5 : Hid (OwE V5 (g0 + 1) (.slice (some ⟨gq, 0, none⟩) ((o2).length + 1) cq) ((o2) ++ [(y1, y2)])) := OQ
            have HW5 := Lib.hid ((HW2.out.trans (hC.1.mono (Nat.le_succ _))).setCell (p := ⟨g0, 1, none⟩) (Nat.le_refl _) (.slice (some ⟨gq, 0, none⟩) ((o2).length + 1) cq))
            have HS5 : Hid (g0 + 1 ≤ V5.heap.size) := Nat.le_trans HSW2.out hC.1.size
            clear kc OQ hC HROW p0 p1 x0 x1 o0 o1
            go_wp2_with fail
            go_roundw
            case rel =>
              exact ⟨k + 1, _, by omega, by go_num, OO5.out, by rw [HE.out]; exact OQ5.out.set (Nat.lt_succ_self _) 1, by rw [HE.out], by simp; exact HS5.out, HW5.out⟩
            case measure => simp [intOf]; omega
        · have HC := Lib.hid hc
          by_cases he : y1 = id
          · have he' : (y1 != id) = false := by simpa using he
            have HE := Lib.hid (wk_eqF (id := id) (ep := ep) (by rw [hyk]; exact he) HD.out (by rw [hyk]; exact HC.out))
            clear he
            go_wp2_with fail
            go_roundw
            case rel =>
              exact ⟨k + 1, _, by omega, by go_num, OO.out, by rw [HE.out]; exact OW.out, by rw [HE.out], HSW.out, HW.out⟩
            case measure => simp [intOf]; omega
          · have he' : (y1 != id) = true := by simpa using he
            have HE := Lib.hid (wk_neF (id := id) (ep := ep) (by rw [hyk]; exact he) HD.out (by rw [hyk]; exact HC.out))
            rw [hyk] at HE
            have HXL : Hid (((wkF ys id ep k).1).length ≤ 3000) := by have := HKL.out; show _ ≤ _; omega
            have hq0 : (0 : Int) ≤ (k : Int) := by omega
            have hq1 : (k : Int) < (ys.length : Int) := by omega
            have hqn : ((k : Int)).toNat = k := Int.toNat_natCast k
            have HROW : ∀ b, Value.ownBlock (.slice a3 ((wkF ys id ep k).1).length c3) = some b → b < wr.heap.size := fun b hb => (OW.out.lt b hb).2
            have kc : ∀ w', Below (g0 + 1) wr w' → w'.cell? ⟨g0, 1, none⟩ = some (.slice a3 ((wkF ys id ep k).1).length c3) ∧ w'.cell? ⟨w.heap.size, 1, none⟩ = some (.slice (some ⟨b, off, none⟩) ys.length c) ∧ w'.cell? ⟨b, off + k * 2, none⟩ = some (.int .i64 y1) ∧ w'.cell? ⟨b, off + k * 2 + 1, none⟩ = some (.int .i64 y2) := fun w' h =>
              ⟨(h.cell (p := ⟨g0, 1, none⟩) (Nat.lt_succ_self _)).trans o1, (h.cell (p := ⟨w.heap.size, 1, none⟩) hxg).trans x1, (h.cell (p := ⟨b, off + k * 2, none⟩) hbg).trans p0, (h.cell (p := ⟨b, off + k * 2 + 1, none⟩) hbg).trans p1⟩
            clear he
            go_wp2_with fail
            refine T3.wp_region_tail (C := fun w' => Below (g0 + 1) wr w' ∧ w'.ownsRow (g0 + 1) RE.T RE.K ((.slice a3 ((wkF ys id ep k).1).length c3)) ((wkF ys id ep k).1).length (gflat RE ((wkF ys id ep k).1))) (X := GX (Value.ownBlock ((.slice a3 ((wkF ys id ep k).1).length c3))) 8) (n := 79) 10 (by kernel_rfl) (by kernel_rfl) (by kernel_rfl) (by kernel_rfl) rfl (GX_refl _ 8) ⟨(Below.refl _ _).drew, OW.out.drew⟩ ?_
            simp only [List.take_succ_cons, List.take_zero, List.drop_succ_cons, List.drop_zero]
            refine T3.w_is (GX_refl _ 8) rfl _ (.inl rfl) (fun ρ w hC hc hfn hf => by have e8 : ρ (.tmp 8) = _ := hf 8 (by decide); (conv => lhs; simp [execOp, go_sem, hc, e8])) ?_
            refine T3.w_is (GX_refl _ 8) rfl _ (.inl rfl) (fun ρ w hC hc hfn hf => by have e49 : ρ (.tmp 49) = _ := hf 49 (by decide); (conv => lhs; simp [execOp, go_sem, hc, e49, kc w hC.1])) ?_
            refine T3.w_is (GX_refl _ 8) rfl _ (.inl rfl) (fun ρ w hC hc hfn hf => by have e3 : ρ (.tmp 3) = _ := hf 3 (by decide); (conv => lhs; simp [execOp, go_sem, hc, e3])) ?_
            refine T3.w_is (GX_refl _ 8) rfl _ (.inl rfl) (fun ρ w hC hc hfn hf => by have e51 : ρ (.tmp 51) = _ := hf 51 (by decide); (conv => lhs; simp [execOp, go_sem, hc, e51, kc w hC.1])) ?_
            refine T3.w_is (GX_refl _ 8) rfl _ (.inl rfl) (fun ρ w hC hc hfn hf => by have e10 : ρ (.tmp 10) = _ := hf 10 (by decide); (conv => lhs; simp [execOp, go_sem, hc, e10])) ?_
            refine T3.w_is (GX_refl _ 8) rfl _ (.inl rfl) (fun ρ w hC hc hfn hf => by have e52 : ρ (.tmp 52) = _ := hf 52 (by decide); have e53 : ρ (.tmp 53) = _ := hf 53 (by decide); (conv => lhs; simp [execOp, go_sem, hc, e52, e53, hq0, hq1, hqn])) ?_
            refine T3.w_is (GX_refl _ 8) rfl _ (.inl rfl) (fun ρ w hC hc hfn hf => by have e54 : ρ (.tmp 54) = _ := hf 54 (by decide); (conv => lhs; simp [execOp, go_sem, hc, e54, kc w hC.1])) ?_
            refine T3.w_make rfl (NewG (R := RE) wr (y1, y2)) (NewG.keeps HROW 8 7) (.inl rfl) (fun ρ w hC hc hfn hf => by have e55 : ρ (.tmp 55) = _ := hf 55 (by decide); exact ⟨_, _, by (conv => lhs; simp [execOp, go_sem, hc, e55]), ⟨hC.1.alloc (Nat.le_trans HSW.out hC.1.size) _, hC.2.alloc _⟩, GX_of (by decide) ((Below.refl _ w).alloc (Nat.le_refl _) _), ⟨_, rfl, hC.1.size, ec_alloc w y1 y2⟩⟩) ?_
            refine T3.w_make rfl (NewGRow (R := RE) (g0 + 1) (((wkF ys id ep k).1) ++ [(y1, y2)]) (((wkF ys id ep k).1).length + 1)) (NewGRow.keeps 8) (.inl rfl) (fun ρ w hC hc hfn hf => by have e50 : ρ (.tmp 50) = _ := hf 50 (by decide); obtain ⟨bq, e56, hb1, hb2⟩ := (show NewG (R := RE) wr (y1, y2) (ρ (.tmp 56)) w from hf 56 (by decide)); obtain ⟨gq, cq, wq, hr, hq1, hq2, hq3⟩ := run_gapp (R := RE) w 22 (g0 + 1) _ ((wkF ys id ep k).1) hC.2 bq (y1, y2) hb2 HXL.out (Nat.le_trans HSW.out hC.1.size); exact ⟨_, wq, gexec_append rfl e50 e56 hr, ⟨hC.1.trans ((Below.refl (g0 + 1) w).grown hq2 (Nat.le_trans HSW.out hC.1.size) (fun k hk => (hC.2.lt k hk).1)), hq3⟩, GX_at rfl hq2, ⟨gq, cq, rfl, hq1⟩⟩) ?_
            refine T3.w_is (GX_refl _ 8) rfl _ (.inl rfl) (fun ρ w hC hc hfn hf => by have e8 : ρ (.tmp 8) = _ := hf 8 (by decide); (conv => lhs; simp [execOp, go_sem, hc, e8])) ?_
            intro A V5 hC hn hd hf
            obtain ⟨bq, y56, -, -⟩ := (show NewG (R := RE) wr (y1, y2) (A.eval (.tmp 56)) V5 from hf 56)
            obtain ⟨gq, cq, y57, OQ⟩ := (show NewGRow (R := RE) (g0 + 1) (((wkF ys id ep k).1) ++ [(y1, y2)]) (((wkF ys id ep k).1).length + 1) (A.eval (.tmp 57)) V5 from hf 57)
            rw [y57] at OQ
            have y0 : A.eval (.tmp 0) = _ := Eq.trans (hf 0) (by conv => lhs; simp [go_sem])
            have y1 : A.eval (.tmp 1) = _ := Eq.trans (hf 1) (by conv => lhs; simp [go_sem])
            have y2 : A.eval (.tmp 2) = _ := Eq.trans (hf 2) (by conv => lhs; simp [go_sem])
            have y3 : A.eval (.tmp 3) = _ := Eq.trans (hf 3) (by conv => lhs; simp [go_sem])
            have y4 : A.eval (.tmp 4) = _ := Eq.trans (hf 4) (by conv => lhs; simp [go_sem])
            have y5 : A.eval (.tmp 5) = _ := Eq.trans (hf 5) (by conv => lhs; simp [go_sem])
            have y6 : A.eval (.tmp 6) = _ := Eq.trans (hf 6) (by conv => lhs; simp [go_sem])
            have y7 : A.eval (.tmp 7) = _ := Eq.trans (hf 7) (by conv => lhs; simp [go_sem])
            have y8 : A.eval (.tmp 8) = _ := Eq.trans (hf 8) (by conv => lhs; simp [go_sem])
            have y9 : A.eval (.tmp 9) = _ := Eq.trans (hf 9) (by conv => lhs; simp [go_sem])
            have y10 : A.eval (.tmp 10) = _ := Eq.trans (hf 10) (by conv => lhs; simp [go_sem])
            have y11 : A.eval (.tmp 11) = _ := Eq.trans (hf 11) (by conv => lhs; simp [go_sem])
            have y12 : A.eval (.tmp 12) = _ := Eq.trans (hf 12) (by conv => lhs; simp [go_sem])
            have y13 : A.eval (.tmp 13) = _ := Eq.trans (hf 13) (by conv => lhs; simp [go_sem])
            have y14 : A.eval (.tmp 14) = _ := Eq.trans (hf 14) (by conv => lhs; simp [go_sem])
            have y15 : A.eval (.tmp 15) = _ := Eq.trans (hf 15) (by conv => lhs; simp [go_sem])
            have y16 : A.eval (.tmp 16) = _ := Eq.trans (hf 16) (by conv => lhs; simp [go_sem])
            have y17 : A.eval (.tmp 17) = _ := Eq.trans (hf 17) (by conv => lhs; simp [go_sem])
            have y18 : A.eval (.tmp 18) = _ := Eq.trans (hf 18) (by conv => lhs; simp [go_sem])
            have y19 : A.eval (.tmp 19) = _ := Eq.trans (hf 19) (by conv => lhs; simp [go_sem])
            have y20 : A.eval (.tmp 20) = _ := Eq.trans (hf 20) (by conv => lhs; simp [go_sem])
            have y21 : A.eval (.tmp 21) = _ := Eq.trans (hf 21) (by conv => lhs; simp [go_sem])
            have y22 : A.eval (.tmp 22) = _ := Eq.trans (hf 22) (by conv => lhs; simp [go_sem])
            have y23 : A.eval (.tmp 23) = _ := Eq.trans (hf 23) (by conv => lhs; simp [go_sem])
            have y24 : A.eval (.tmp 24) = _ := Eq.trans (hf 24) (by conv => lhs; simp [go_sem])
            have y25 : A.eval (.tmp 25) = _ := Eq.trans (hf 25) (by conv => lhs; simp [go_sem])
            have y26 : A.eval (.tmp 26) = _ := Eq.trans (hf 26) (by conv => lhs; simp [go_sem])
            have y27 : A.eval (.tmp 27) = _ := Eq.trans (hf 27) (by conv => lhs; simp [go_sem])
            have y28 : A.eval (.tmp 28) = _ := Eq.trans (hf 28) (by conv => lhs; simp [go_sem])
            have y29 : A.eval (.tmp 29) = _ := Eq.trans (hf 29) (by conv => lhs; simp [go_sem])
            have y30 : A.eval (.tmp 30) = _ := Eq.trans (hf 30) (by conv => lhs; simp [go_sem])
            have y31 : A.eval (.tmp 31) = _ := Eq.trans (hf 31) (by conv => lhs; simp [go_sem])
            have y32 : A.eval (.tmp 32) = _ := Eq.trans (hf 32) (by conv => lhs; simp [go_sem])
            have y33 : A.eval (.tmp 33) = _ := Eq.trans (hf 33) (by conv => lhs; simp [go_sem])
            have y34 : A.eval (.tmp 34) = _ := Eq.trans (hf 34) (by conv => lhs; simp [go_sem])
            have y35 : A.eval (.tmp 35) = _ := Eq.trans (hf 35) (by conv => lhs; simp [go_sem])
            have y36 : A.eval (.tmp 36) = _ := Eq.trans (hf 36) (by conv => lhs; simp [go_sem])
            have y37 : A.eval (.tmp 37) = _ := Eq.trans (hf 37) (by conv => lhs; simp [go_sem])
            have y38 : A.eval (.tmp 38) = _ := Eq.trans (hf 38) (by conv => lhs; simp [go_sem])
            have y39 : A.eval (.tmp 39) = _ := Eq.trans (hf 39) (by conv => lhs; simp [go_sem])
            have y40 : A.eval (.tmp 40) = _ := Eq.trans (hf 40) (by conv => lhs; simp [go_sem])
            have y41 : A.eval (.tmp 41) = _ := Eq.trans (hf 41) (by conv => lhs; simp [go_sem])
            have y42 : A.eval (.tmp 42) = _ := Eq.trans (hf 42) (by conv => lhs; simp [go_sem])
            have y43 : A.eval (.tmp 43) = _ := Eq.trans (hf 43) (by conv => lhs; simp [go_sem])
            have y44 : A.eval (.tmp 44) = _ := Eq.trans (hf 44) (by conv => lhs; simp [go_sem])
            have y45 : A.eval (.tmp 45) = _ := Eq.trans (hf 45) (by conv => lhs; simp [go_sem])
            have y46 : A.eval (.tmp 46) = _ := Eq.trans (hf 46) (by conv => lhs; simp [go_sem])
            have y47 : A.eval (.tmp 47) = _ := Eq.trans (hf 47) (by conv => lhs; simp [go_sem])
            have y48 : A.eval (.tmp 48) = _ := Eq.trans (hf 48) (by conv => lhs; simp [go_sem])
            have y49 : A.eval (.tmp 49) = _ := hf 49
            have y50 : A.eval (.tmp 50) = _ := hf 50
            have y51 : A.eval (.tmp 51) = _ := hf 51
            have y52 : A.eval (.tmp 52) = _ := hf 52
            have y53 : A.eval (.tmp 53) = _ := hf 53
            have y54 : A.eval (.tmp 54) = _ := hf 54
            have y55 : A.eval (.tmp 55) = _ := hf 55
            have y58 : A.eval (.tmp 58) = _ := hf 58
            have y59 : A.eval (.tmp 59) = _ := Eq.trans (hf 59) (by conv => lhs; simp [go_sem])
            have y60 : A.eval (.tmp 60) = _ := Eq.trans (hf 60) (by conv => lhs; simp [go_sem])
            have y61 : A.eval (.tmp 61) = _ := Eq.trans (hf 61) (by conv => lhs; simp [go_sem])
            have y62 : A.eval (.tmp 62) = _ := Eq.trans (hf 62) (by conv => lhs; simp [go_sem])
            have y63 : A.eval (.tmp 63) = _ := Eq.trans (hf 63) (by conv => lhs; simp [go_sem])
            have y64 : A.eval (.tmp 64) = _ := Eq.trans (hf 64) (by conv => lhs; simp [go_sem])
            have y65 : A.eval (.tmp 65) = _ := Eq.trans (hf 65) (by conv => lhs; simp [go_sem])
            have y66 : A.eval (.tmp 66) = _ := Eq.trans (hf 66) (by conv => lhs; simp [go_sem])
            have y67 : A.eval (.tmp 67) = _ := Eq.trans (hf 67) (by conv => lhs; simp [go_sem])
            have y68 : A.eval (.tmp 68) = _ := Eq.trans (hf 68) (by conv => lhs; simp [go_sem])
            have y69 : A.eval (.tmp 69) = _ := Eq.trans (hf 69) (by conv => lhs; simp [go_sem])
            have y70 : A.eval (.tmp 70) = _ := Eq.trans (hf 70) (by conv => lhs; simp [go_sem])
            have y71 : A.eval (.tmp 71) = _ := Eq.trans (hf 71) (by conv => lhs; simp [go_sem])
            have y72 : A.eval (.tmp 72) = _ := Eq.trans (hf 72) (by conv => lhs; simp [go_sem])
            have y73 : A.eval (.tmp 73) = _ := Eq.trans (hf 73) (by conv => lhs; simp [go_sem])
            have y74 : A.eval (.tmp 74) = _ := Eq.trans (hf 74) (by conv => lhs; simp [go_sem])
            have y75 : A.eval (.tmp 75) = _ := Eq.trans (hf 75) (by conv => lhs; simp [go_sem])
            have y76 : A.eval (.tmp 76) = _ := Eq.trans (hf 76) (by conv => lhs; simp [go_sem])
            have y77 : A.eval (.tmp 77) = _ := Eq.trans (hf 77) (by conv => lhs; simp [go_sem])
            have y78 : A.eval (.tmp 78) = _ := Eq.trans (hf 78) (by conv => lhs; simp [go_sem])
            clear hf
            have hA := frame_eq hn
            rw [show List.range 79 = [0, 1, 2, 3, 4, 5, 6, 7, 8, 9, 10, 11, 12, 13, 14, 15, 16, 17, 18, 19, 20, 21, 22, 23, 24, 25, 26, 27, 28, 29, 30, 31, 32, 33, 34, 35, 36, 37, 38, 39, 40, 41, 42, 43, 44, 45, 46, 47, 48, 49, 50, 51, 52, 53, 54, 55, 56, 57, 58, 59, 60, 61, 62, 63, 64, 65, 66, 67, 68, 69, 70, 71, 72, 73, 74, 75, 76, 77, 78] from rfl, hd] at hA
            simp only [List.map_cons, List.map_nil, y0, y1, y2, y3, y4, y5, y6, y7, y8, y9, y10, y11, y12, y13, y14, y15, y16, y17, y18, y19, y20, y21, y22, y23, y24, y25, y26, y27, y28, y29, y30, y31, y32, y33, y34, y35, y36, y37, y38, y39, y40, y41, y42, y43, y44, y45, y46, y47, y48, y49, y50, y51, y52, y53, y54, y55, y56, y57, y58, y59, y60, y61, y62, y63, y64, y65, y66, y67, y68, y69, y70, y71, y72, y73, y74, y75, y76, y77, y78] at hA
            clear y0 y1 y2 y3 y4 y5 y6 y7 y8 y9 y10 y11 y12 y13 y14 y15 y16 y17 y18 y19 y20 y21 y22 y23 y24 y25 y26 y27 y28 y29 y30 y31 y32 y33 y34 y35 y36 y37 y38 y39 y40 y41 y42 y43 y44 y45 y46 y47 y48 y49 y50 y51 y52 y53 y54 y55 y56 y57 y58 y59 y60 y61 y62 y63 y64 y65 y66 y67 y68 y69 y70 y71 y72 y73 y74 y75 y76 y77 y78
            clear hn hd
            subst hA
            have hcell5 : V5.cell? ⟨g0, 1, none⟩ = _ := (kc V5 hC.1).1
            have hfz5 : V5.frozen? ⟨g0, 1, none⟩ = false := by rw [hC.1.frozen (p := ⟨g0, 1, none⟩) (Nat.lt_succ_self _)]; exact OO.out.2 1
            have OO5 := Lib.hid ((OO.out.low (Nat.lt_succ_self _) hC.1).set1 (.slice (some ⟨gq, 0, none⟩) (((wkF ys id ep k).1).length + 1) cq))
            have OQ5 : Hid (OwE V5 (g0 + 1) (.slice (some ⟨gq, 0, none⟩) (((wkF ys id ep k).1).length + 1) cq) (((wkF ys id ep k).1) ++ [(y1, y2)])) := OQ
            have HW5 := Lib.hid ((HW.out.trans (hC.1.mono (Nat.le_succ _))).setCell (p := ⟨g0, 1, none⟩) (Nat.le_refl _) (.slice (some ⟨gq, 0, none⟩) (((wkF ys id ep k).1).length + 1) cq))
            have HS5 : Hid (g0 + 1 ≤ V5.heap.size) := Nat.le_trans HSW.out hC.1.size
            clear kc OQ hC HROW p0 p1 x0 x1 o0 o1
            go_wp2_with fail
            go_roundw
            case rel =>
              exact ⟨k + 1, _, by omega, by go_num, OO5.out, by rw [HE.out]; exact OQ5.out.set (Nat.lt_succ_self _) 1, by rw [HE.out], by simp; exact HS5.out, HW5.out⟩
            case measure => simp [intOf]; omega
    · obtain rfl : k = ys.length := by omega
      have HXz := HX
      have HYz := HYW
      have HRz := Lib.hid (OR.out.low (by have := HS2.out; omega) HW.out)
      have HBz : Hid (Below w.heap.size w wr) := HB.out.trans (HW.out.mono (by have := HS2.out; omega))
      cases d with
      | true =>
        clear x0 x1
        have hX : winF ys id ep = (wkF ys id ep ys.length).1 := by unfold winF; rw [HD.out]; simp
        obtain ⟨X, hX1⟩ : ∃ X, (wkF ys id ep ys.length).1 = X := ⟨_, rfl⟩
        rw [hX1] at hX OO OW HKL o1
        have HX0 := Lib.hid hX
        have OOz := OO
        have OWz := OW
        have HSz := HSW
        have HLX : Hid (X.length ≤ ys.length + 1) := HKL.out
        obtain ⟨aX, haX⟩ : ∃ aX, a3 = aX := ⟨_, rfl⟩
        obtain ⟨cX, hcX⟩ : ∃ cX, c3 = cX := ⟨_, rfl⟩
        rw [haX, hcX] at OOz OWz o1
        clear haX hcX hX hX1 OO OW o0 o1
        obtain ⟨x0, x1⟩ := HXz.out.1
        obtain ⟨q, hq⟩ : ∃ q : Bool, q = true ↔ BeOk M ys := ⟨decide (BeOk M ys), decide_eq_true_iff⟩
        have HQ := Lib.hid hq
        clear hq
        go_wp2_with fail
        refine (rbright_fix M _ ys q HQ.out _ HYz.out (by omega)).mono ?_
        rintro e w3 ⟨rfl, hb3⟩
        clear x0 x1
        have HBW := Lib.hid (HBz.out.trans (hb3.mono HBz.out.size))
        have OO3 := Lib.hid (OOz.out.below hb3)
        have OR3 := Lib.hid (HRz.out.below hb3)
        have OW3 : Hid (OwE w3 (g0 + 1) (.slice aX X.length cX) X) := gown_below OWz.out hb3
        have HS3 : Hid (g0 + 1 ≤ w3.heap.size) := Nat.le_trans HSz.out hb3.size
        clear hb3
        obtain ⟨⟨z0, z1⟩, zf⟩ := OR3.out
        cases q with
        | false =>
          have HN : Hid (¬ BeOk M ys) := fun h => by cases HQ.out.2 h
          go_wp2_with fail
          have hs := (OR3.out.set 0 (.slice none 0 0)).1
          have hbs := belb_set2 (b := w.heap.size + 1) HBW.out (by omega) 0 (.slice none 0 0)
          generalize ((w3.setCell ⟨(w.heap.size + 1), 0, none⟩ (.int .i64 0)).setCell ⟨(w.heap.size + 1), 1, none⟩ (.slice none 0 0)) = W5 at *
          obtain ⟨s0_, s1_⟩ := hs
          exact bodyPost_ret (v := .tuple #[.agg #[.int .i64 0, .slice none 0 0], .int .i64 1]) (by simp [results, Try.results14, go_sem, s0_, s1_]) rfl ⟨⟨_, _, rfl, .inl ⟨fun h => HN.out h.1, rfl, rfl⟩⟩, hbs⟩
        | true =>
          have HO : Hid (BeOk M ys) := HQ.out.1 rfl
          clear HQ
          obtain ⟨o0, o1⟩ := OO3.out.1
          obtain ⟨q2, hq2⟩ : ∃ q2 : Bool, q2 = true ↔ BeOk M X := ⟨decide (BeOk M X), decide_eq_true_iff⟩
          have HQ2 := Lib.hid hq2
          clear hq2
          go_wp2_with fail
          refine (rbright_fix M _ X q2 HQ2.out _ (Es_of_own OW3.out).1 (Nat.le_trans HLX.out (by omega))).mono ?_
          rintro e w4 ⟨rfl, hb4⟩
          clear z0 z1 zf o0 o1
          replace HBW := Lib.hid (HBW.out.trans (hb4.mono HBW.out.size))
          replace OO3 := Lib.hid (OO3.out.below hb4)
          replace OR3 := Lib.hid (OR3.out.below hb4)
          replace OW3 : Hid (OwE w4 (g0 + 1) (.slice aX X.length cX) X) := gown_below OW3.out hb4
          clear hb4
          obtain ⟨⟨z0, z1⟩, zf⟩ := OR3.out
          obtain ⟨o0, o1⟩ := OO3.out.1
          cases q2 with
          | false =>
            have HN : Hid (¬ BeOk M X) := fun h => by cases HQ2.out.2 h
            go_wp2_with fail
            have hs := (OR3.out.set 0 (.slice none 0 0)).1
            have hbs := belb_set2 (b := w.heap.size + 1) HBW.out (by omega) 0 (.slice none 0 0)
            generalize ((w4.setCell ⟨(w.heap.size + 1), 0, none⟩ (.int .i64 0)).setCell ⟨(w.heap.size + 1), 1, none⟩ (.slice none 0 0)) = W5 at *
            obtain ⟨s0_, s1_⟩ := hs
            exact bodyPost_ret (v := .tuple #[.agg #[.int .i64 0, .slice none 0 0], .int .i64 1]) (by simp [results, Try.results14, go_sem, s0_, s1_]) rfl ⟨⟨_, _, rfl, .inl ⟨fun h => HN.out (by rw [← HX0.out]; exact h.2), rfl, rfl⟩⟩, hbs⟩
          | true =>
            have HP : Hid (BeOk M X) := HQ2.out.1 rfl
            go_wp2_with fail
            have hs := (OR3.out.set M (.slice aX X.length cX)).1
            have hbs := belb_set2 (b := w.heap.size + 1) HBW.out (by omega) M (.slice aX X.length cX)
            have hos : OwE _ (g0 + 1) _ X := eown_set2 (b := w.heap.size + 1) OW3.out (by have := HS2.out; omega) M (.slice aX X.length cX)
            generalize ((w4.setCell ⟨(w.heap.size + 1), 0, none⟩ (.int .i64 M)).setCell ⟨(w.heap.size + 1), 1, none⟩ (.slice aX X.length cX)) = W5 at *
            obtain ⟨s0_, s1_⟩ := hs
            exact bodyPost_ret (v := .tuple #[.agg #[.int .i64 M, .slice aX X.length cX], .int .i64 0]) (by simp [results, Try.results14, go_sem, s0_, s1_]) rfl ⟨⟨_, _, rfl, .inr ⟨HO.out, by rw [HX0.out]; exact HP.out, rfl, _, rfl, by rw [HX0.out]; exact hos.mono (by have := HS2.out; omega)⟩⟩, hbs⟩
      | false =>
        have hX : winF ys id ep = (wkF ys id ep ys.length).1 ++ [(id, ep)] := by unfold winF; rw [HD.out]; simp
        have hLX : (winF ys id ep).length ≤ ys.length + 1 := by
          have h1 := wk_len ys id ep ys.length
          rw [HD.out] at h1
          rw [hX, List.length_append]
          simp at h1 ⊢
          omega
        obtain ⟨P, hP⟩ : ∃ P, (wkF ys id ep ys.length).1 = P := ⟨_, rfl⟩
        rw [hP] at hX OO OW HKL o1
        clear hP
        go_upto_region 13 with (at_builtin; go_loud (skip; refine eapp1_any rfl (.tmp 62) (.tmp 66) rfl wr id ep rfl (g0 + 1) (.slice a3 P.length c3) P rfl rfl OW.out (Nat.le_trans HKL.out (by omega)) HSW.out ?_; intro gh ch wh hrow2 hbel2; have OW2 := Lib.hid hrow2; have HB2 := Lib.hid hbel2; have O1 := OO.out.low (Nat.lt_succ_self _) hbel2; have OY := Lib.hid O1; obtain ⟨⟨q0, q1⟩, qf⟩ := O1; clear hrow2 hbel2))
        clear x0 x1
        have hln : P.length + 1 = (P ++ [(id, ep)]).length := by simp
        rw [← hX] at OW2 hln
        rw [hln] at OW2
        obtain ⟨X, hX1⟩ : ∃ X, winF ys id ep = X := ⟨_, rfl⟩
        rw [hX1] at OW2 hln hLX
        have HX0 := Lib.hid hX1
        have HLX := Lib.hid hLX
        rw [hln]
        have OOz := Lib.hid (OY.out.set1 (.slice (some ⟨gh, 0, none⟩) X.length ch))
        have OWz : Hid (OwE _ (g0 + 1) _ X) := OW2.out.set (Nat.lt_succ_self g0) 1 (u := .slice (some ⟨gh, 0, none⟩) X.length ch)
        have HSz : Hid (g0 + 1 ≤ (wh.setCell ⟨g0, 1, none⟩ (.slice (some ⟨gh, 0, none⟩) X.length ch)).heap.size) := by show _ ≤ _; simp; exact Nat.le_trans HSW.out HB2.out.size
        have HWz := Lib.hid ((HB2.out.mono (Nat.le_succ _)).setCell (p := ⟨g0, 1, none⟩) (Nat.le_refl _) (.slice (some ⟨gh, 0, none⟩) X.length ch))
        replace HXz := Lib.hid (HXz.out.low (by have := HS2.out; omega) HWz.out)
        replace HRz := Lib.hid (HRz.out.low (by have := HS2.out; omega) HWz.out)
        replace HYz : Hid (Es _ (.slice a ys.length c) ys) := HY.out.below (by rw [HG0.out]; exact HW.out.trans HWz.out)
        replace HBz := Lib.hid (HBz.out.trans (HWz.out.mono (by have := HS2.out; omega)))
        clear OW2 OY HB2 q0 q1 qf hX hX1 hLX hln HYW HX OO OW o0 o1
        generalize wh.setCell ⟨g0, 1, none⟩ (.slice (some ⟨gh, 0, none⟩) X.length ch) = wz at *
        obtain ⟨aX, haX⟩ : ∃ aX, (some ⟨gh, 0, none⟩ : Option Addr) = aX := ⟨_, rfl⟩
        obtain ⟨cX, hcX⟩ : ∃ cX, ch = cX := ⟨_, rfl⟩
        rw [haX, hcX] at OOz OWz
        clear haX hcX
        obtain ⟨x0, x1⟩ := HXz.out.1
        obtain ⟨q, hq⟩ : ∃ q : Bool, q = true ↔ BeOk M ys := ⟨decide (BeOk M ys), decide_eq_true_iff⟩
        have HQ := Lib.hid hq
        clear hq
        go_wp2_with fail
        refine (rbright_fix M _ ys q HQ.out _ HYz.out (by omega)).mono ?_
        rintro e w3 ⟨rfl, hb3⟩
        clear x0 x1
        have HBW := Lib.hid (HBz.out.trans (hb3.mono HBz.out.size))
        have OO3 := Lib.hid (OOz.out.below hb3)
        have OR3 := Lib.hid (HRz.out.below hb3)
        have OW3 : Hid (OwE w3 (g0 + 1) (.slice aX X.length cX) X) := gown_below OWz.out hb3
        have HS3 : Hid (g0 + 1 ≤ w3.heap.size) := Nat.le_trans HSz.out hb3.size
        clear hb3
        obtain ⟨⟨z0, z1⟩, zf⟩ := OR3.out
        cases q with
        | false =>
          have HN : Hid (¬ BeOk M ys) := fun h => by cases HQ.out.2 h
          go_wp2_with fail
          have hs := (OR3.out.set 0 (.slice none 0 0)).1
          have hbs := belb_set2 (b := w.heap.size + 1) HBW.out (by omega) 0 (.slice none 0 0)
          generalize ((w3.setCell ⟨(w.heap.size + 1), 0, none⟩ (.int .i64 0)).setCell ⟨(w.heap.size + 1), 1, none⟩ (.slice none 0 0)) = W5 at *
          obtain ⟨s0_, s1_⟩ := hs
          exact bodyPost_ret (v := .tuple #[.agg #[.int .i64 0, .slice none 0 0], .int .i64 1]) (by simp [results, Try.results14, go_sem, s0_, s1_]) rfl ⟨⟨_, _, rfl, .inl ⟨fun h => HN.out h.1, rfl, rfl⟩⟩, hbs⟩
        | true =>
          have HO : Hid (BeOk M ys) := HQ.out.1 rfl
          clear HQ
          obtain ⟨o0, o1⟩ := OO3.out.1
          obtain ⟨q2, hq2⟩ : ∃ q2 : Bool, q2 = true ↔ BeOk M X := ⟨decide (BeOk M X), decide_eq_true_iff⟩
          have HQ2 := Lib.hid hq2
          clear hq2
          go_wp2_with fail
          refine (rbright_fix M _ X q2 HQ2.out _ (Es_of_own OW3.out).1 (Nat.le_trans HLX.out (by omega))).mono ?_
          rintro e w4 ⟨rfl, hb4⟩
          clear z0 z1 zf o0 o1
          replace HBW := Lib.hid (HBW.out.trans (hb4.mono HBW.out.size))
          replace OO3 := Lib.hid (OO3.out.below hb4)
          replace OR3 := Lib.hid (OR3.out.below hb4)
          replace OW3 : Hid (OwE w4 (g0 + 1) (.slice aX X.length cX) X) := gown_below OW3.out hb4
          clear hb4
          obtain ⟨⟨z0, z1⟩, zf⟩ := OR3.out
          obtain ⟨o0, o1⟩ := OO3.out.1
          cases q2 with
          | false =>
            have HN : Hid (¬ BeOk M X) := fun h => by cases HQ2.out.2 h
            go_wp2_with fail
            have hs := (OR3.out.set 0 (.slice none 0 0)).1
            have hbs := belb_set2 (b := w.heap.size + 1) HBW.out (by omega) 0 (.slice none 0 0)
            generalize ((w4.setCell ⟨(w.heap.size + 1), 0, none⟩ (.int .i64 0)).setCell ⟨(w.heap.size + 1), 1, none⟩ (.slice none 0 0)) = W5 at *
            obtain ⟨s0_, s1_⟩ := hs
            exact bodyPost_ret (v := .tuple #[.agg #[.int .i64 0, .slice none 0 0], .int .i64 1]) (by simp [results, Try.results14, go_sem, s0_, s1_]) rfl ⟨⟨_, _, rfl, .inl ⟨fun h => HN.out (by rw [← HX0.out]; exact h.2), rfl, rfl⟩⟩, hbs⟩
          | true =>
            have HP : Hid (BeOk M X) := HQ2.out.1 rfl
            go_wp2_with fail
            have hs := (OR3.out.set M (.slice aX X.length cX)).1
            have hbs := belb_set2 (b := w.heap.size + 1) HBW.out (by omega) M (.slice aX X.length cX)
            have hos : OwE _ (g0 + 1) _ X := eown_set2 (b := w.heap.size + 1) OW3.out (by have := HS2.out; omega) M (.slice aX X.length cX)
            generalize ((w4.setCell ⟨(w.heap.size + 1), 0, none⟩ (.int .i64 M)).setCell ⟨(w.heap.size + 1), 1, none⟩ (.slice aX X.length cX)) = W5 at *
            obtain ⟨s0_, s1_⟩ := hs
            exact bodyPost_ret (v := .tuple #[.agg #[.int .i64 M, .slice aX X.length cX], .int .i64 0]) (by simp [results, Try.results14, go_sem, s0_, s1_]) rfl ⟨⟨_, _, rfl, .inr ⟨HO.out, by rw [HX0.out]; exact HP.out, rfl, _, rfl, by rw [HX0.out]; exact hos.mono (by have := HS2.out; omega)⟩⟩, hbs⟩
#print axioms rwith_any
end Go.Proofs.Ytaflgabjpcfgpaa
