/- A beacon with an echo: the program's With. No conditions but on lengths. -/
import Derived.Test.YtaflgabjpcfgpaaGsp
namespace Go.Proofs.Ytaflgabjpcfgpaa
set_option maxRecDepth 100000
open Go.RowKit

/-- A builtin append, by its run. -/
theorem app_go {ops : Array Oper} {rest : List Oper} {o : Oper} {a : Act} {Q : Exit → Act → World → Prop} {w : World} (hg : o.guard = none) (s x : Operand) (t : TypeId)
    (hop : o.op = Op.call { callee := Callee.builtin Builtin.append, args := #[s, x], argTypes := #[t, t] }) (v u r : Value) (w' : World) (hs : a.eval s = v) (hx : a.eval x = u)
    (hr : (Builtin.append_ #[t, t] o.type #[v, u]).run Try.prog w = .ok r w') (h : wpList Try.prog ops Q rest (a.put o.dst r) w') : wpList Try.prog ops Q (o :: rest) a w := by
  refine wpList_plain hg fun K hK => ?_
  unfold Oper.wp
  rw [gexec_append hop hs hx hr]
  exact hK _ _ h

theorem erun1 (w : World) (S : Nat) (v : Value) (xs : List (Int × Int)) (hown : OwE w S v xs) (y1 y2 : Int) (hl : xs.length ≤ 3000) (hS : S ≤ w.heap.size) :
    ∃ g cap w', (Builtin.append_ #[22, 22] 22 #[v, .slice (some ⟨w.heap.size, 0, none⟩) 1 1]).run Try.prog (w.alloc (.cells #[.int .i64 y1, .int .i64 y2] 52)) = .ok (.slice (some ⟨g, 0, none⟩) (xs ++ [(y1, y2)]).length cap) w' ∧ OwE w' S (.slice (some ⟨g, 0, none⟩) (xs ++ [(y1, y2)]).length cap) (xs ++ [(y1, y2)]) ∧ (w.alloc (.cells #[.int .i64 y1, .int .i64 y2] 52)).grownBy w' v.ownBlock ∧ (v.ownBlock = some g ∨ w.heap.size + 1 ≤ g) := by
  obtain ⟨g, cap, w', hr, h1, h2, h3⟩ := run_gapp2 RE (w.alloc (.cells #[.int .i64 y1, .int .i64 y2] 52)) 22 S v xs (gown_below hown ((Below.refl _ _).alloc (Nat.le_refl _) _)) w.heap.size (y1, y2) (ec_alloc w y1 y2) hl (by simp; omega)
  have e : (xs ++ [(y1, y2)]).length = xs.length + 1 := by simp
  refine ⟨g, cap, w', ?_, ?_, h2, by simpa using h3⟩
  · rw [e]; exact hr
  · rw [e]; exact h1
/-- What is laid into a block leaves rows in other blocks as they are. -/
theorem own_set_other {w : World} {S b : Nat} {v : Value} {xs : List (Int × Int)} (h : OwE w S v xs) (hb : v.ownBlock ≠ some b) (j : Nat) (u : Value) : OwE (w.setCell ⟨b, j, none⟩ u) S v xs := by
  refine ⟨h.1, ?_⟩
  rcases h.2 with h2 | ⟨g, cap, cur, rfl, h3, hg, rest⟩
  · exact .inl h2
  · exact .inr ⟨g, cap, cur, rfl, h3, (Below.heap_setCell w ⟨b, j, none⟩ u g (by show g ≠ b; intro e; exact hb (by rw [e]; rfl))).trans hg, rest⟩
set_option maxHeartbeats 32000000 in
theorem with_any (M : Int) (v : Value) (ys : List (Int × Int)) (id ep : Int) (w : World) (hE : El w v ys) (hl : ys.length ≤ 1000) :
    Calls Try.prog 13 #[.agg #[.int .i64 M, v], .int .i64 id, .int .i64 ep] w fun e w' => (∃ u k, e = .returned (.tuple #[u, .int .i64 k]) ∧
      ((¬ (BeOk M ys ∧ BeOk M (winF ys id ep)) ∧ u = .agg #[.int .i64 0, .slice none 0 0] ∧ k = 1) ∨
       (BeOk M ys ∧ BeOk M (winF ys id ep) ∧ k = 0 ∧ ∃ u', u = .agg #[.int .i64 M, u'] ∧ OwE w' w.heap.size u' (winF ys id ep)))) ∧ Below w.heap.size w w' := by
  obtain ⟨a, c, rfl⟩ := hE.1.form
  obtain ⟨W1, hW1⟩ : ∃ W1, W1 = w.alloc (.cells #[.int .i64 M, .slice a ys.length c] 24) := ⟨_, rfl⟩
  obtain ⟨w2, hw2⟩ : ∃ w2, w2 = W1.alloc (.cells #[.int .i64 0, .slice none 0 0] 24) := ⟨_, rfl⟩
  have hs1 : W1.heap.size = w.heap.size + 1 := by rw [hW1]; simp
  have hs2 : w2.heap.size = w.heap.size + 2 := by rw [hw2]; simp [hs1]
  have hb1 : Below w.heap.size w W1 := by rw [hW1]; exact (Below.refl _ w).alloc (Nat.le_refl _) _
  have hb2 : Below w.heap.size w w2 := by rw [hw2]; exact hb1.alloc (by omega) _
  have HB4 := Lib.hid hb2
  have hb12 : Below W1.heap.size W1 w2 := by rw [hw2]; exact (Below.refl _ W1).alloc (Nat.le_refl _) _
  have OX4 := Lib.hid ((show OwnB2 W1 w.heap.size M (.slice a ys.length c) by rw [hW1]; exact ownb2_alloc w M (.slice a ys.length c) 24 w.heap.size rfl).below hb12)
  have OR4 := Lib.hid (show OwnB2 w2 (w.heap.size + 1) 0 (.slice none 0 0) by rw [hw2, ← hs1]; exact ownb2_alloc W1 0 (.slice none 0 0) 24 W1.heap.size rfl)
  have HE4 := Lib.hid (hE.below hb2)
  have HS4 := Lib.hid hs2
  have HE0 := Lib.hid hE
  clear hE hb1 hb2 hb12 hs1 hs2
  obtain ⟨q, hq⟩ : ∃ q : Bool, q = true ↔ BeOk M ys := ⟨decide (BeOk M ys), decide_eq_true_iff⟩
  have HQ := Lib.hid hq
  clear hq
  have C3 := Lib.hid (others_any _ ys id w2 HE4.out (by omega))
  obtain ⟨⟨x0, x1⟩, xf⟩ := OX4.out
  obtain ⟨⟨r0, r1⟩, rf⟩ := OR4.out
  go_enter Try.func13, Try.ntmps13
  go_upto_region 1 with (fail)
  rw [← hW1, ← hw2]
  clear hw2 hW1
  go_wp2_with fail
  refine C3.out.mono ?_
  rintro e w5 ⟨⟨u1, u2, rfl, hu1, hu2, hap⟩, hb⟩
  obtain ⟨a3, c3, rfl⟩ := hu1.form
  obtain ⟨a4, c4, rfl⟩ := hu2.form
  have hb5 := HB4.out.trans (hb.mono HB4.out.size)
  have ox5 := OX4.out.below hb
  have or5 := OR4.out.below hb
  have he5 := HE4.out.below hb
  obtain ⟨B2, hB2⟩ : ∃ B2, w.heap.size + 2 = B2 := ⟨_, rfl⟩
  have hs5 : B2 ≤ w5.heap.size := by have := hb.size; have := HS4.out; omega
  have hv1 : OwE w5 B2 (.slice a3 (loE ys id).length c3) (loE ys id) := hu1.mono (by have := HS4.out; omega)
  have hv2 : OwE w5 B2 (.slice a4 (hiE ys id).length c4) (hiE ys id) := hu2.mono (by have := HS4.out; omega)
  have hlo := loE_len ys id
  have hhi := hiE_len ys id
  have HWI : Hid (BeOk M ys → loE ys id ++ [(id, ep)] ++ hiE ys id = winF ys id ep) := fun h => (winF_eq h id ep).symm
  clear hb x0 x1 xf r0 r1 rf C3 OX4 OR4 HE4 hu1 hu2
  generalize loE ys id = lo at *
  generalize hiE ys id = hi at *
  obtain ⟨g1, c1, w6, hr, hq1, hq2, hq3⟩ := erun1 w5 B2 (.slice a3 lo.length c3) lo hv1 id ep (by omega) hs5
  have ho1 := hq1
  have hg6 : Below B2 w5 w6 := ((Below.refl B2 w5).alloc hs5 _).grown hq2 (by simp; omega) (fun k hk => (hv1.lt k hk).1)
  have ho2 : OwE w6 B2 (.slice a4 hi.length c4) hi := World.ownsRow.kept (gown_below hv2 ((Below.refl _ _).alloc (Nat.le_refl _) (.cells #[.int .i64 id, .int .i64 ep] 52))) hq2 (by
    cases hq : Value.ownBlock (.slice a4 hi.length c4) with
    | none => exact .inl rfl
    | some b => exact .inr (fun e => hap b e.symm hq))
  have hap6 : Value.ownBlock (.slice a4 hi.length c4) = none ∨ Value.ownBlock (.slice a4 hi.length c4) ≠ Value.ownBlock (.slice (some ⟨g1, 0, none⟩) (lo ++ [(id, ep)]).length c1) := by
    cases hq : Value.ownBlock (.slice a4 hi.length c4) with
    | none => exact .inl rfl
    | some b =>
      refine .inr fun e => ?_
      simp only [Value.ownBlock, Option.some.injEq] at e
      rcases hq3 with h | h
      · exact hap g1 h (by rw [hq, e])
      · have := (hv2.lt b hq).2
        omega
  have hll : (lo ++ [(id, ep)]).length + hi.length ≤ 3000 := by simp; omega
  obtain ⟨l1, hl1e⟩ : ∃ l1, lo ++ [(id, ep)] = l1 := ⟨_, rfl⟩
  rw [hl1e] at hr ho1 hap6 hll HWI
  have HR := Lib.hid hr
  have HU1 := Lib.hid ho1
  have HU2 := Lib.hid ho2
  have HAP := Lib.hid hap6
  have HLEN := Lib.hid hll
  have HSW : Hid (B2 ≤ w6.heap.size) := Nat.le_trans hs5 hg6.size
  have HB6 := Lib.hid (hb5.trans (hg6.mono (by omega)))
  have OX6 := Lib.hid (ox5.low (by omega) hg6)
  have OR6 := Lib.hid (or5.low (by omega) hg6)
  have hn5 : B2 ≤ w5.heap.size := hs5
  have HE6 : Hid (El w6 (.slice a ys.length c) ys) := HE0.out.below HB6.out
  clear hr hq1 hq2 hq3 ho1 ho2 hap6 hll hl1e hap hb5 ox5 or5 he5 hs5 hv1 hv2 hg6 hlo hhi
  go_wp2_with (at_builtin; refine app_go rfl (.tmp 18) (.tmp 22) 22 rfl _ _ _ _ rfl rfl HR.out ?_)
  obtain ⟨⟨x0, x1⟩, xf⟩ := OX6.out
  have kc : ∀ w', Below B2 w6 w' → w'.cell? ⟨w.heap.size, 0, none⟩ = some (.int .i64 M) := fun w' h => (h.cell (p := ⟨w.heap.size, 0, none⟩) (by show w.heap.size < B2; omega)).trans x0
  have HROW : ∀ b, Value.ownBlock (.slice (some ⟨g1, 0, none⟩) l1.length c1) = some b → b < w6.heap.size := fun b hb => (HU1.out.lt b hb).2
  refine T3.wp_region_tail (C := fun w' => Below B2 w6 w' ∧ OwE w' B2 (.slice (some ⟨g1, 0, none⟩) l1.length c1) (l1) ∧ OwE w' B2 (.slice a4 hi.length c4) (hi)) (X := GZ B2 ((l1) ++ (hi)) (Value.ownBlock (.slice (some ⟨g1, 0, none⟩) l1.length c1)) 4) (n := 40) 7 (by kernel_rfl) (by kernel_rfl) (by kernel_rfl) (by kernel_rfl) rfl (GZ_refl _ _ _ 4) ⟨(Below.refl _ _).drew, gown_below HU1.out (Below.refl _ _).drew, gown_below HU2.out (Below.refl _ _).drew⟩ ?_
  simp only [List.take_succ_cons, List.take_zero, List.drop_succ_cons, List.drop_zero]
  refine T3.w_is (GZ_refl _ _ _ 4) rfl _ (.inl rfl) (fun ρ w hC hc hfn hf => by have e3 : ρ (.tmp 3) = _ := hf 3 (by decide); (conv => lhs; simp [execOp, go_sem, hc, e3])) ?_
  refine T3.w_is (GZ_refl _ _ _ 4) rfl _ (.inl rfl) (fun ρ w hC hc hfn hf => by have e24 : ρ (.tmp 24) = _ := hf 24 (by decide); (conv => lhs; simp [execOp, go_sem, hc, e24, kc w hC.1])) ?_
  refine T3.w_is (GZ_refl _ _ _ 4) rfl _ (.inl rfl) (fun ρ w hC hc hfn hf => by have e8 : ρ (.tmp 8) = _ := hf 8 (by decide); (conv => lhs; simp [execOp, go_sem, hc, e8])) ?_
  refine T3.w_is (GZ_refl _ _ _ 4) rfl _ (.inl rfl) (fun ρ w hC hc hfn hf => by have e9 : ρ (.tmp 9) = _ := hf 9 (by decide); (conv => lhs; simp [execOp, go_sem, hc, e9])) ?_
  refine T3.w_make rfl (NewOE B2 ((l1) ++ (hi))) (NewOE.keepz 4 4) (.inl rfl) (fun ρ w hC hc hfn hf => by have e26 : ρ (.tmp 26) = _ := hf 26 (by decide); have e27 : ρ (.tmp 27) = _ := hf 27 (by decide); obtain ⟨r, wq, hr, hq1, hq2, hq3, hq4⟩ := run_gapps2 RE w 22 B2 (.slice (some ⟨g1, 0, none⟩) l1.length c1) (l1) (show w.ownsRow B2 RE.T RE.K (.slice (some ⟨g1, 0, none⟩) l1.length c1) (l1).length (gflat RE (l1)) from hC.2.1) B2 (.slice a4 hi.length c4) (hi) (show w.ownsRow B2 RE.T RE.K (.slice a4 hi.length c4) (hi).length (gflat RE (hi)) from hC.2.2) HLEN.out (Nat.le_trans HSW.out hC.1.size); exact ⟨_, wq, gexec_append rfl e26 e27 hr, ⟨hC.1.trans ((Below.refl B2 w).grown hq2 (Nat.le_trans HSW.out hC.1.size) (fun k hk => (hC.2.1.lt k hk).1)), hq3, World.ownsRow.kept hC.2.2 hq2 HAP.out⟩, GZ_at rfl hq2 hq4, OwE.form hq1, hq1⟩) ?_
  refine T3.w_make rfl (NewBa B2 M ((l1) ++ (hi))) (NewBa.keepz 4 5) (.inl rfl) (fun ρ w hC hc hfn hf => by have e25 : ρ (.tmp 25) = _ := hf 25 (by decide); obtain ⟨⟨aq, cq, e28⟩, OQ⟩ := (show NewOE B2 ((l1) ++ (hi)) (ρ (.tmp 28)) w from hf 28 (by decide)); rw [e28] at OQ; exact ⟨_, _, by (conv => lhs; simp [execOp, go_sem, hc, e25, e28]), hC, GZ_of (by decide) (Below.refl _ w), ⟨aq, cq, by simp, OQ⟩⟩) ?_
  refine T3.w_make rfl (NewBx w6) (NewBx.keepz HROW 4 6) (.inl rfl) (fun ρ w hC hc hfn hf => by exact ⟨_, _, by (conv => lhs; simp [execOp, go_sem, hc]), ⟨hC.1.alloc (Nat.le_trans HSW.out hC.1.size) _, gown_below hC.2.1 ((Below.refl _ w).alloc (Nat.le_refl _) _), gown_below hC.2.2 ((Below.refl _ w).alloc (Nat.le_refl _) _)⟩, GZ_of (by decide) ((Below.refl _ w).alloc (Nat.le_refl _) _), ⟨w.heap.size, rfl, hC.1.size, World.alloc_heap_new w _⟩⟩) ?_
  intro A V5 hC hn hd hf
  obtain ⟨⟨ar, cr, y28⟩, -⟩ := (show NewOE B2 ((l1) ++ (hi)) (A.eval (.tmp 28)) V5 from hf 28)
  obtain ⟨aq, cq, y29, OQ⟩ := (show NewBa B2 M ((l1) ++ (hi)) (A.eval (.tmp 29)) V5 from hf 29)
  obtain ⟨bq, y10, hbq, OB⟩ := (show NewBx w6 (A.eval (.tmp 10)) V5 from hf 10)
  obtain ⟨Lq, hLq⟩ : ∃ Lq, ((l1) ++ (hi)).length = Lq := ⟨_, rfl⟩
  rw [hLq] at y28 y29 OQ
  have HLq := Lib.hid hLq
  clear hLq
  have y0 : A.eval (.tmp 0) = _ := Eq.trans (hf 0) (by conv => lhs; simp [go_sem])
  have y1 : A.eval (.tmp 1) = _ := Eq.trans (hf 1) (by conv => lhs; simp [go_sem])
  have y2 : A.eval (.tmp 2) = _ := Eq.trans (hf 2) (by conv => lhs; simp [go_sem])
  have y3 : A.eval (.tmp 3) = _ := Eq.trans (hf 3) (by conv => lhs; simp [go_sem])
  have y4 : A.eval (.tmp 4) = _ := Eq.trans (hf 4) (by conv => lhs; simp [go_sem])
  have y5 : A.eval (.tmp 5) = _ := Eq.trans (hf 5) (by conv => lhs; simp [go_sem])
  have y6 : A.eval (.tmp 6) = _ := Eq.trans (hf 6) (by conv => lhs; simp [go_sem])
  have y7 : A.eval (.tmp 7) = _ := Eq.trans (hf 7) (by conv => lhs; simp [go_sem])
  have y8 : A.eval (.tmp 8) = _ := Eq.trans (hf 8) (by conv => lhs; simp [go_sem])
  have y9 : A.eval (.tmp 9) = _ := Eq.trans (hf 9) (by conv => lhs; simp [go_sem])
  have y11 : A.eval (.tmp 11) = _ := Eq.trans (hf 11) (by conv => lhs; simp [go_sem])
  have y12 : A.eval (.tmp 12) = _ := Eq.trans (hf 12) (by conv => lhs; simp [go_sem])
  have y13 : A.eval (.tmp 13) = _ := Eq.trans (hf 13) (by conv => lhs; simp [go_sem])
  have y14 : A.eval (.tmp 14) = _ := Eq.trans (hf 14) (by conv => lhs; simp [go_sem])
  have y15 : A.eval (.tmp 15) = _ := Eq.trans (hf 15) (by conv => lhs; simp [go_sem])
  have y16 : A.eval (.tmp 16) = _ := Eq.trans (hf 16) (by conv => lhs; simp [go_sem])
  have y17 : A.eval (.tmp 17) = _ := Eq.trans (hf 17) (by conv => lhs; simp [go_sem])
  have y18 : A.eval (.tmp 18) = _ := Eq.trans (hf 18) (by conv => lhs; simp [go_sem])
  have y19 : A.eval (.tmp 19) = _ := Eq.trans (hf 19) (by conv => lhs; simp [go_sem])
  have y20 : A.eval (.tmp 20) = _ := Eq.trans (hf 20) (by conv => lhs; simp [go_sem])
  have y21 : A.eval (.tmp 21) = _ := Eq.trans (hf 21) (by conv => lhs; simp [go_sem])
  have y22 : A.eval (.tmp 22) = _ := Eq.trans (hf 22) (by conv => lhs; simp [go_sem])
  have y23 : A.eval (.tmp 23) = _ := Eq.trans (hf 23) (by conv => lhs; simp [go_sem])
  have y24 : A.eval (.tmp 24) = _ := hf 24
  have y25 : A.eval (.tmp 25) = _ := hf 25
  have y26 : A.eval (.tmp 26) = _ := hf 26
  have y27 : A.eval (.tmp 27) = _ := hf 27
  have y30 : A.eval (.tmp 30) = _ := Eq.trans (hf 30) (by conv => lhs; simp [go_sem])
  have y31 : A.eval (.tmp 31) = _ := Eq.trans (hf 31) (by conv => lhs; simp [go_sem])
  have y32 : A.eval (.tmp 32) = _ := Eq.trans (hf 32) (by conv => lhs; simp [go_sem])
  have y33 : A.eval (.tmp 33) = _ := Eq.trans (hf 33) (by conv => lhs; simp [go_sem])
  have y34 : A.eval (.tmp 34) = _ := Eq.trans (hf 34) (by conv => lhs; simp [go_sem])
  have y35 : A.eval (.tmp 35) = _ := Eq.trans (hf 35) (by conv => lhs; simp [go_sem])
  have y36 : A.eval (.tmp 36) = _ := Eq.trans (hf 36) (by conv => lhs; simp [go_sem])
  have y37 : A.eval (.tmp 37) = _ := Eq.trans (hf 37) (by conv => lhs; simp [go_sem])
  have y38 : A.eval (.tmp 38) = _ := Eq.trans (hf 38) (by conv => lhs; simp [go_sem])
  have y39 : A.eval (.tmp 39) = _ := Eq.trans (hf 39) (by conv => lhs; simp [go_sem])
  clear hf
  have hA := frame_eq hn
  rw [show List.range 40 = [0, 1, 2, 3, 4, 5, 6, 7, 8, 9, 10, 11, 12, 13, 14, 15, 16, 17, 18, 19, 20, 21, 22, 23, 24, 25, 26, 27, 28, 29, 30, 31, 32, 33, 34, 35, 36, 37, 38, 39] from rfl, hd] at hA
  simp only [List.map_cons, List.map_nil, y0, y1, y2, y3, y4, y5, y6, y7, y8, y9, y10, y11, y12, y13, y14, y15, y16, y17, y18, y19, y20, y21, y22, y23, y24, y25, y26, y27, y28, y29, y30, y31, y32, y33, y34, y35, y36, y37, y38, y39] at hA
  clear y0 y1 y2 y3 y4 y5 y6 y7 y8 y9 y10 y11 y12 y13 y14 y15 y16 y17 y18 y19 y20 y21 y22 y23 y24 y25 y26 y27 y28 y29 y30 y31 y32 y33 y34 y35 y36 y37 y38 y39
  clear hn hd
  subst hA
  have OBb := ownb2_of_heap OB
  have hbB : B2 ≤ bq := Nat.le_trans HSW.out hbq
  have OX7 := Lib.hid (((OX6.out.low (by omega) hC.1).apart (show w.heap.size ≠ bq by omega) 0 (u := .int .i64 M)).apart (show w.heap.size ≠ bq by omega) 1 (u := .slice aq Lq cq))
  have OR7 := Lib.hid (((OR6.out.low (by omega) hC.1).apart (show w.heap.size + 1 ≠ bq by omega) 0 (u := .int .i64 M)).apart (show w.heap.size + 1 ≠ bq by omega) 1 (u := .slice aq Lq cq))
  have OB7 := Lib.hid (OBb.set M (.slice aq Lq cq))
  have HB7 := Lib.hid (belb_set2 (b := bq) (hB := by omega) (HB6.out.trans (hC.1.mono (by omega))) M (.slice aq Lq cq))
  have hoq : OwE ((V5.setCell ⟨bq, 0, none⟩ (.int .i64 M)).setCell ⟨bq, 1, none⟩ (.slice aq Lq cq)) B2 (.slice aq Lq cq) (l1 ++ hi) := own_set_other (own_set_other OQ (var_not_row OB OQ) 0 _) (var_not_row OB OQ) 1 _
  have HOQ := Lib.hid hoq
  have HSZ : Hid (bq < V5.heap.size) := (Array.getElem?_eq_some_iff.1 OB).1
  have HBB := Lib.hid hbB
  have o0 := OBb.1.1
  have o1 := OBb.1.2
  have of := OBb.2
  clear kc x0 x1 xf OQ hC HROW hbB OBb OB hbq hoq
  go_upto_region 4 with (fail)
  obtain ⟨V6, hV6⟩ : ∃ V6, (V5.setCell ⟨bq, 0, none⟩ (.int .i64 M)).setCell ⟨bq, 1, none⟩ (.slice aq Lq cq) = V6 := ⟨_, rfl⟩
  have hs6 : V6.heap.size = V5.heap.size := by rw [← hV6]; simp
  rw [hV6] at OX7 OR7 OB7 HB7 HOQ
  simp only [hV6]
  clear hV6 o0 o1 of
  have HE7 := Lib.hid (HE0.out.below HB7.out)
  have HEQ := Lib.hid HOQ.out.el
  have C1 := Lib.hid (check_fix M _ ys q HQ.out V6 HE7.out (by omega))
  obtain ⟨q2, hq2⟩ : ∃ q2 : Bool, q2 = true ↔ BeOk M (l1 ++ hi) := ⟨decide (BeOk M (l1 ++ hi)), decide_eq_true_iff⟩
  have HQ2 := Lib.hid hq2
  have HBQ : Hid (bq < V6.heap.size) := by show _ < _; rw [hs6]; exact HSZ.out
  have HLN : Hid ((l1 ++ hi).length ≤ 3000) := by show _ ≤ _; have := HLEN.out; rw [List.length_append]; exact this
  clear hq2 hs6
  obtain ⟨⟨x0, x1⟩, xf⟩ := OX7.out
  go_wp2_with fail
  refine C1.out.mono ?_
  rintro e w8 ⟨rfl, hb⟩
  have HB8 := Lib.hid (HB7.out.trans (hb.mono HB7.out.size))
  have OR8 := Lib.hid (OR7.out.below hb)
  have OB8 := Lib.hid (OB7.out.below hb)
  have HO8 : Hid (OwE w8 B2 (.slice aq Lq cq) (l1 ++ hi)) := gown_below HOQ.out hb
  clear hb x0 x1 xf C1 OX7 OR7 OB7 HB7 HOQ HE7 HEQ
  obtain ⟨⟨r0, r1⟩, rf⟩ := OR8.out
  obtain ⟨⟨b0, b1⟩, bf⟩ := OB8.out
  cases q with
  | false =>
    have HO : Hid (¬ BeOk M ys) := fun h => by cases HQ.out.2 h
    go_wp2_with fail
    have hs := (OR8.out.set 0 (.slice none 0 0)).1
    have hbs := belb_set2 (b := w.heap.size + 1) HB8.out (by omega) 0 (.slice none 0 0)
    generalize (w8.setCell ⟨w.heap.size + 1, 0, none⟩ (.int .i64 0)).setCell ⟨w.heap.size + 1, 1, none⟩ (.slice none 0 0) = W5 at *
    obtain ⟨s0_, s1_⟩ := hs
    exact bodyPost_ret (v := .tuple #[.agg #[.int .i64 0, .slice none 0 0], .int .i64 1]) (by simp [results, Try.results13, go_sem, s0_, s1_]) rfl ⟨⟨_, _, rfl, .inl ⟨fun h => HO.out h.1, rfl, rfl⟩⟩, hbs⟩
  | true =>
    have HO : Hid (BeOk M ys) := HQ.out.1 rfl
    have C2 := Lib.hid (check_fix M (.slice aq Lq cq) (l1 ++ hi) q2 HQ2.out w8 HO8.out.el HLN.out)
    go_wp2_with fail
    refine C2.out.mono ?_
    rintro e w9 ⟨rfl, hb⟩
    have HB9 := Lib.hid (HB8.out.trans (hb.mono HB8.out.size))
    have OR9 := Lib.hid (OR8.out.below hb)
    have OB9 := Lib.hid (OB8.out.below hb)
    have HO9 : Hid (OwE w9 B2 (.slice aq Lq cq) (l1 ++ hi)) := gown_below HO8.out hb
    clear hb r0 r1 rf b0 b1 bf C2 OR8 OB8 HB8 HO8
    obtain ⟨⟨r0, r1⟩, rf⟩ := OR9.out
    obtain ⟨⟨b0, b1⟩, bf⟩ := OB9.out
    cases q2 with
    | false =>
      go_wp2_with fail
      have hs := (OR9.out.set 0 (.slice none 0 0)).1
      have hbs := belb_set2 (b := w.heap.size + 1) HB9.out (by omega) 0 (.slice none 0 0)
      generalize (w9.setCell ⟨w.heap.size + 1, 0, none⟩ (.int .i64 0)).setCell ⟨w.heap.size + 1, 1, none⟩ (.slice none 0 0) = W5 at *
      obtain ⟨s0_, s1_⟩ := hs
      exact bodyPost_ret (v := .tuple #[.agg #[.int .i64 0, .slice none 0 0], .int .i64 1]) (by simp [results, Try.results13, go_sem, s0_, s1_]) rfl ⟨⟨_, _, rfl, .inl ⟨fun h => (by have h2 := h.2; rw [← HWI.out HO.out] at h2; cases HQ2.out.2 h2), rfl, rfl⟩⟩, hbs⟩
    | true =>
      go_wp2_with fail
      have hs := (OR9.out.set M (.slice aq Lq cq)).1
      have hbs := belb_set2 (b := w.heap.size + 1) HB9.out (by omega) M (.slice aq Lq cq)
      have hos := own_set_other (own_set_other HO9.out (show Value.ownBlock (.slice aq Lq cq) ≠ some (w.heap.size + 1) from fun e => by have := (HO9.out.lt _ e).1; omega) 0 (.int .i64 M)) (show Value.ownBlock (.slice aq Lq cq) ≠ some (w.heap.size + 1) from fun e => by have := (HO9.out.lt _ e).1; omega) 1 (.slice aq Lq cq)
      rw [HWI.out HO.out] at hos
      generalize (w9.setCell ⟨w.heap.size + 1, 0, none⟩ (.int .i64 M)).setCell ⟨w.heap.size + 1, 1, none⟩ (.slice aq Lq cq) = W5 at *
      obtain ⟨s0_, s1_⟩ := hs
      exact bodyPost_ret (v := .tuple #[.agg #[.int .i64 M, .slice aq Lq cq], .int .i64 0]) (by simp [results, Try.results13, go_sem, s0_, s1_]) rfl ⟨⟨_, _, rfl, .inr ⟨HO.out, by rw [← HWI.out HO.out]; exact (by have := HQ2.out; simpa using this), rfl, _, rfl, hos.mono (by omega)⟩⟩, hbs⟩
#print axioms with_any
end Go.Proofs.Ytaflgabjpcfgpaa
