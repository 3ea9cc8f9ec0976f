/- The reference's queue: Put. No conditions but on lengths. -/
import Derived.Test.YtgcjmnjepnmaeaaQpk
import Derived.Test.YtgcjmnjepnmaeaaTyped
import Derived.Test.YtgcjmnjepnmaeaaTyp4
import Derived.Deep.Cut
namespace Go.Proofs.Ytgcjmnjepnmaeaa
set_option maxRecDepth 100000
open Go.RowKit

def Pk.Ok (y : Pk) : Prop := PkOk y.1 y.2.1 y.2.2.1 y.2.2.2.1 y.2.2.2.2
noncomputable instance decPkOk (y : Pk) : Decidable (Pk.Ok y) := Classical.propDecidable _
/-- What Put answers, and leaves. -/
noncomputable def putE (m : Int) (l : List Pk) (y : Pk) : Int := if ¬ y.Ok then 1 else if m ≤ l.length then 8 else 0
noncomputable def putL (m : Int) (l : List Pk) (y : Pk) : List Pk := if y.Ok ∧ (l.length : Int) < m then l ++ [y] else l
/-- A row of the call's own behind an append: the elder one's block, or a new one. -/
def NewK (wo : World) (S : Nat) (v : Value) (zs : List Pk) (n : Nat) : Ty := fun u w => ∃ g cap, u = .slice (some ⟨g, 0, none⟩) n cap ∧ OwK w S u zs ∧ (v.ownBlock = some g ∨ wo.heap.size ≤ g)
theorem NewK.keeps {wo : World} {S n : Nat} {v : Value} {zs : List Pk} {row : Option Nat} (s : Nat) : T3.Keeps (GX row s) s (NewK wo S v zs n) := by
  rintro j hj u w w' ⟨g, cap, h1, h2, h3⟩ hx
  unfold GX at hx
  rw [if_neg hj] at hx
  exact ⟨g, cap, h1, h2.below hx, h3⟩
/-- One packet more: the elder row is there as it was; the new one lies in its block, or in a new one. -/
theorem run_gapp3 (w : World) (S : Nat) (v : Value) (xs : List Pk) (hown : OwK w S v xs) (b : Nat) (y : Pk) (hy : GC RK w b 0 y) (hl : xs.length ≤ 3000) (hS : S ≤ w.heap.size) :
    ∃ g cap w', (Builtin.append_ #[30, 30] 30 #[v, .slice (some ⟨b, 0, none⟩) 1 1]).run Try.prog w = .ok (.slice (some ⟨g, 0, none⟩) (xs.length + 1) cap) w' ∧ OwK w' S (.slice (some ⟨g, 0, none⟩) (xs.length + 1) cap) (xs ++ [y]) ∧ w.grownBy w' v.ownBlock ∧ OwK w' S v xs ∧ (v.ownBlock = some g ∨ w.heap.size ≤ g) := by
  obtain ⟨g, cap, w1, hr, h2, h3, h4⟩ := run_gapp (R := RK) w 30 S v xs hown b y hy hl hS
  obtain ⟨g2, cap2, w2, hr2, _, _, h5⟩ := run_gapp2 RK w 30 S v xs hown b y hy hl hS
  have e := hr.symm.trans hr2
  simp only [Result.ok.injEq, Value.slice.injEq, Option.some.injEq, Addr.mk.injEq, and_true, true_and] at e
  obtain ⟨⟨e1, _⟩, _⟩ := e
  exact ⟨g, cap, w1, hr, h2, h3, h4, e1 ▸ h5⟩
theorem Chg.dn {F : Nat → Prop} {a w : World} (h : Chg F a w) (n : Nat) : Chg F a (w.drewN n) := ⟨h.os, h.tape, h.output, h.size, h.block⟩
theorem OwK.dn {w : World} {S : Nat} {v : Value} {l : List Pk} (h : OwK w S v l) (n : Nat) : OwK (w.drewN n) S v l := h
theorem RQ.dn {w : World} {b : Nat} {m : Int} {v : Value} {l : List Pk} (h : RQ w b m v l) (n : Nat) : RQ (w.drewN n) b m v l := ⟨h.hp, h.own.dn n⟩
theorem OwnP.dn {w : World} {b : Nat} {s d t n : Int} {x : ByteArray} (h : OwnP w b s d t n x) (k : Nat) : OwnP (w.drewN k) b s d t n x := h
set_option maxHeartbeats 8000000 in
theorem rqput_any (b : Nat) (m : Int) (v : Value) (l : List Pk) (y : Pk) (w : World) (h : RQ w b m v l) (hl : l.length ≤ 2000) :
    Calls Try.prog 12 #[.pointer (some ⟨b, 0, none⟩), pkV y] w fun e w' => e = .returned (.int .i64 (putE m l y)) ∧ Chg (QF b v) w w' ∧ ∃ v', RQ w' b m v' (putL m l y) ∧ ∀ g, v'.ownBlock = some g → v.ownBlock = some g ∨ w.heap.size ≤ g := by
  have hb0 : Below w.heap.size w (w.alloc (.cells #[.int .i64 y.1, .int .i64 y.2.1, .int .i64 y.2.2.1, .int .i64 y.2.2.2.1, .string y.2.2.2.2] 34)) := (Below.refl _ w).alloc (Nat.le_refl _) _
  have OV := Lib.hid (ownp_alloc w y.1 y.2.1 y.2.2.1 y.2.2.2.1 y.2.2.2.2 34 w.heap.size rfl)
  obtain ⟨a, c, rfl⟩ := h.own.form
  have HQ := Lib.hid (h.below hb0)
  have HB := Lib.hid hb0
  have HW := Lib.hid h.lt
  have HRW : Hid (∀ k, (Value.slice a l.length c).ownBlock = some k → k < w.heap.size) := fun k hk => (h.own.lt k hk).2
  obtain ⟨q, hq⟩ : ∃ q : Bool, q = true ↔ y.Ok := ⟨decide y.Ok, decide_eq_true_iff⟩
  have HOK := Lib.hid hq
  clear h hb0 hq
  have C1 := Lib.hid (rpright_fix y.1 y.2.1 y.2.2.1 y.2.2.2.1 y.2.2.2.2 q HOK.out (w.alloc (.cells #[.int .i64 y.1, .int .i64 y.2.1, .int .i64 y.2.2.1, .int .i64 y.2.2.2.1, .string y.2.2.2.2] 34)))
  obtain ⟨⟨u0, u1, u2, u3, u4⟩, uf⟩ := OV.out
  go_enter Try.func12, Try.ntmps12
  go_wp2_with fail
  refine C1.out.mono ?_
  rintro e W1 ⟨rfl, hb⟩
  have OV1 := Lib.hid (OV.out.below hb)
  have HQ1 := Lib.hid (HQ.out.below hb)
  have HB1 := Lib.hid (HB.out.trans (hb.mono HB.out.size))
  have HS1 : Hid (w.heap.size + 1 ≤ W1.heap.size) := by show _ ≤ _; have := hb.size; simp at this; omega
  clear hb u0 u1 u2 u3 u4 uf C1 OV HQ HB
  obtain ⟨⟨u0, u1, u2, u3, u4⟩, uf⟩ := OV1.out
  obtain ⟨c0, c1, cf⟩ := HQ1.out.cells
  cases q with
  | false =>
    have hn : ¬ y.Ok := fun h => by cases HOK.out.2 h
    have e1 : Hid (putE m l y = 1) := by unfold putE; exact if_pos hn
    have e2 : Hid (putL m l y = l) := by unfold putL; exact if_neg (fun h => hn h.1)
    clear hn
    go_wp2_with fail
    go_ret
    rw [e1.out, e2.out]
    exact ⟨rfl, chg0 HB1.out, _, HQ1.out, fun g hg => .inl hg⟩
  | true =>
    have HO : Hid (y.Ok) := HOK.out.1 rfl
    clear HOK
    by_cases hfull : m ≤ (l.length : Int)
    · have e1 : Hid (putE m l y = 8) := by unfold putE; rw [if_neg (fun h => h HO.out)]; exact if_pos hfull
      have e2 : Hid (putL m l y = l) := by unfold putL; exact if_neg (fun h => by have := h.2; omega)
      have hd : decide (m ≤ (l.length : Int)) = true := decide_eq_true hfull
      clear hfull
      go_wp2_with fail
      go_quiet (fail)
      go_wp2_with fail
      go_ret
      rw [e1.out, e2.out]
      exact ⟨rfl, (chg0 HB1.out).dn _, _, HQ1.out.dn _, fun g hg => .inl hg⟩
    · have e1 : Hid (putE m l y = 0) := by unfold putE; rw [if_neg (fun h => h HO.out)]; exact if_neg hfull
      have e2 : Hid (putL m l y = l ++ [y]) := by unfold putL; exact if_pos ⟨HO.out, by omega⟩
      have hd : decide (m ≤ (l.length : Int)) = false := decide_eq_false hfull
      clear hfull
      go_wp2_with fail
      go_quiet (fail)
      obtain ⟨W2, hW2⟩ : ∃ W2, W1.drewN nq = W2 := ⟨_, rfl⟩
      have HQ2 : Hid (RQ W2 b m (.slice a l.length c) l) := hW2 ▸ HQ1.out.dn nq
      have OV2 : Hid (OwnP W2 w.heap.size y.1 y.2.1 y.2.2.1 y.2.2.2.1 y.2.2.2.2) := hW2 ▸ OV1.out.dn nq
      have HC2 : Hid (Chg (QF b (.slice a l.length c)) w W2) := hW2 ▸ (chg0 HB1.out).dn nq
      have HS2 : Hid (w.heap.size + 1 ≤ W2.heap.size) := hW2 ▸ HS1.out
      clear u0 u1 u2 u3 u4 uf c0 c1 cf
      rw [hW2]
      clear hW2
      go_upto_region 5 with (fail)
      have kc : ∀ w', Chg (fun k => (Value.slice a l.length c).ownBlock = some k) W2 w' → (w'.cell? ⟨b, 1, none⟩ = some (.slice a l.length c)) ∧ (w'.cell? ⟨w.heap.size, 0, none⟩ = some (.int .i64 y.1)) ∧ (w'.cell? ⟨w.heap.size, 1, none⟩ = some (.int .i64 y.2.1)) ∧ (w'.cell? ⟨w.heap.size, 2, none⟩ = some (.int .i64 y.2.2.1)) ∧ (w'.cell? ⟨w.heap.size, 3, none⟩ = some (.int .i64 y.2.2.2.1)) ∧ (w'.cell? ⟨w.heap.size, 4, none⟩ = some (.string y.2.2.2.2)) := by
        intro w' h
        have n1 : ¬ (Value.slice a l.length c).ownBlock = some b := fun e => by have := HQ2.out.own.lt b e; omega
        have n2 : ¬ (Value.slice a l.length c).ownBlock = some w.heap.size := fun e => by have := HRW.out _ e; omega
        have o2 := OV2.out.chg h n2
        exact ⟨(h.cell HQ2.out.lt n1).trans HQ2.out.cells.2.1, o2.1⟩
      have HXL : Hid (l.length ≤ 3000) := Nat.le_trans hl (by decide)
      have HSW : Hid (b + 1 ≤ W2.heap.size) := HQ2.out.lt
      have OW := Lib.hid HQ2.out.own
      have HROW : ∀ k, (Value.slice a l.length c).ownBlock = some k → k < W2.heap.size := fun k hk => (HQ2.out.own.lt k hk).2
      refine T3.wp_region_tail (C := fun w' => Chg (fun k => (Value.slice a l.length c).ownBlock = some k) W2 w' ∧ OwK w' (b + 1) (Value.slice a l.length c) (l)) (X := GX (Value.ownBlock (Value.slice a l.length c)) 7) (n := 28) 10 (by kernel_rfl) (by kernel_rfl) (by kernel_rfl) (by kernel_rfl) rfl (GX_refl _ 7) ⟨(Chg.refl _ _).drew, OW.out.drew⟩ ?_
      simp only [List.take_succ_cons, List.take_zero, List.drop_succ_cons, List.drop_zero]
      refine T3.w_is (GX_refl _ 7) rfl _ (.inl rfl) (fun ρ w hC hc hfn hf => by have e0 : ρ (.tmp 0) = _ := hf 0 (by decide); (conv => lhs; simp [execOp, go_sem, hc, e0])) ?_
      refine T3.w_is (GX_refl _ 7) rfl _ (.inl rfl) (fun ρ w hC hc hfn hf => by have e0 : ρ (.tmp 0) = _ := hf 0 (by decide); (conv => lhs; simp [execOp, go_sem, hc, e0])) ?_
      refine T3.w_is (GX_refl _ 7) rfl _ (.inl rfl) (fun ρ w hC hc hfn hf => by have e19 : ρ (.tmp 19) = _ := hf 19 (by decide); (conv => lhs; simp [execOp, go_sem, hc, e19])) ?_
      refine T3.w_is (GX_refl _ 7) rfl _ (.inl rfl) (fun ρ w hC hc hfn hf => by have e20 : ρ (.tmp 20) = _ := hf 20 (by decide); (conv => lhs; simp [execOp, go_sem, hc, e20])) ?_
      refine T3.w_is (GX_refl _ 7) rfl _ (.inl rfl) (fun ρ w hC hc hfn hf => by have e21 : ρ (.tmp 21) = _ := hf 21 (by decide); (conv => lhs; simp [execOp, go_sem, hc, e21, kc w hC.1])) ?_
      refine T3.w_is (GX_refl _ 7) rfl _ (.inl rfl) (fun ρ w hC hc hfn hf => by have e3 : ρ (.tmp 3) = _ := hf 3 (by decide); (conv => lhs; simp [execOp, go_sem, hc, e3, kc w hC.1])) ?_
      refine T3.w_make rfl (NewG (R := RK) W2 y) (NewG.keeps HROW 7 6) (.inl rfl) (fun ρ w hC hc hfn hf => by have e23 : ρ (.tmp 23) = _ := hf 23 (by decide); exact ⟨_, _, by (conv => lhs; simp [execOp, go_sem, hc, e23]); rfl, ⟨hC.1.alloc _, hC.2.below ((Below.refl _ w).alloc (Nat.le_refl _) _)⟩, GX_of (by decide) ((Below.refl _ w).alloc (Nat.le_refl _) _), ⟨_, rfl, hC.1.size, gc_alloc RK w y _ rfl 34⟩⟩) ?_
      refine T3.w_make rfl (NewK W2 (b + 1) (Value.slice a l.length c) ((l) ++ [y]) ((l).length + 1)) (NewK.keeps 7) (.inl rfl) (fun ρ w hC hc hfn hf => by have e22 : ρ (.tmp 22) = _ := hf 22 (by decide); obtain ⟨bq, e24, hb1, hb2⟩ := (show NewG (R := RK) W2 y (ρ (.tmp 24)) w from hf 24 (by decide)); obtain ⟨gq, cq, wq, hr, hq1, hq2, hq4, hq3⟩ := run_gapp3 w (b + 1) _ (l) hC.2 bq y hb2 HXL.out (Nat.le_trans HSW.out hC.1.size); exact ⟨_, wq, gexec_append rfl e22 e24 hr, ⟨hC.1.grown hq2 (fun k hk => .inl hk), hq4⟩, GX_at rfl hq2, ⟨gq, cq, rfl, hq1, hq3.imp (fun h => h) (fun h => Nat.le_trans hC.1.size h)⟩⟩) ?_
      refine T3.w_is (GX_refl _ 7) rfl _ (.inl rfl) (fun ρ w hC hc hfn hf => by have e18 : ρ (.tmp 18) = _ := hf 18 (by decide); (conv => lhs; simp [execOp, go_sem, hc, e18])) ?_
      refine T3.w_is (GX_refl _ 7) rfl _ (.inl rfl) (fun ρ w hC hc hfn hf => by have e26 : ρ (.tmp 26) = _ := hf 26 (by decide); (conv => lhs; simp [execOp, go_sem, hc, e26])) ?_
      intro A V5 hC hn hd hf
      obtain ⟨bq, y24, -, -⟩ := (show NewG (R := RK) W2 y (A.eval (.tmp 24)) V5 from hf 24)
      obtain ⟨gq, cq, y25, OQ, HQ9⟩ := (show NewK W2 (b + 1) (Value.slice a l.length c) ((l) ++ [y]) ((l).length + 1) (A.eval (.tmp 25)) V5 from hf 25)
      rw [y25] at OQ
      have y0 : A.eval (.tmp 0) = _ := Eq.trans (hf 0) (by conv => lhs; simp [go_sem])
      have y1 : A.eval (.tmp 1) = _ := Eq.trans (hf 1) (by conv => lhs; simp [go_sem])
      have y2 : A.eval (.tmp 2) = _ := Eq.trans (hf 2) (by conv => lhs; simp [go_sem])
      have y3 : A.eval (.tmp 3) = _ := Eq.trans (hf 3) (by conv => lhs; simp [go_sem])
      have y4 : A.eval (.tmp 4) = _ := Eq.trans (hf 4) (by conv => lhs; simp [go_sem])
      have y5 : A.eval (.tmp 5) = _ := Eq.trans (hf 5) (by conv => lhs; simp [go_sem])
      have y6 : A.eval (.tmp 6) = _ := Eq.trans (hf 6) (by conv => lhs; simp [go_sem])
      have y7 : A.eval (.tmp 7) = _ := Eq.trans (hf 7) (by conv => lhs; simp [go_sem])
      have y8 : A.eval (.tmp 8) = _ := Eq.trans (hf 8) (by conv => lhs; simp [go_sem])
      have y9 : A.eval (.tmp 9) = _ := Eq.trans (hf 9) (by conv => lhs; simp [go_sem])
      have y10 : A.eval (.tmp 10) = _ := Eq.trans (hf 10) (by conv => lhs; simp [go_sem])
      have y11 : A.eval (.tmp 11) = _ := Eq.trans (hf 11) (by conv => lhs; simp [go_sem])
      have y12 : A.eval (.tmp 12) = _ := Eq.trans (hf 12) (by conv => lhs; simp [go_sem])
      have y13 : A.eval (.tmp 13) = _ := Eq.trans (hf 13) (by conv => lhs; simp [go_sem])
      have y14 : A.eval (.tmp 14) = _ := Eq.trans (hf 14) (by conv => lhs; simp [go_sem])
      have y15 : A.eval (.tmp 15) = _ := Eq.trans (hf 15) (by conv => lhs; simp [go_sem])
      have y16 : A.eval (.tmp 16) = _ := Eq.trans (hf 16) (by conv => lhs; simp [go_sem])
      have y17 : A.eval (.tmp 17) = _ := Eq.trans (hf 17) (by conv => lhs; simp [go_sem])
      have y18 : A.eval (.tmp 18) = _ := hf 18
      have y19 : A.eval (.tmp 19) = _ := hf 19
      have y20 : A.eval (.tmp 20) = _ := hf 20
      have y21 : A.eval (.tmp 21) = _ := hf 21
      have y22 : A.eval (.tmp 22) = _ := hf 22
      have y23 : A.eval (.tmp 23) = _ := hf 23
      have y26 : A.eval (.tmp 26) = _ := hf 26
      have y27 : A.eval (.tmp 27) = _ := hf 27
      clear hf
      have hA := frame_eq hn
      rw [show List.range 28 = [0, 1, 2, 3, 4, 5, 6, 7, 8, 9, 10, 11, 12, 13, 14, 15, 16, 17, 18, 19, 20, 21, 22, 23, 24, 25, 26, 27] from rfl, hd] at hA
      simp only [List.map_cons, List.map_nil, y0, y1, y2, y3, y4, y5, y6, y7, y8, y9, y10, y11, y12, y13, y14, y15, y16, y17, y18, y19, y20, y21, y22, y23, y24, y25, y26, y27] at hA
      clear y0 y1 y2 y3 y4 y5 y6 y7 y8 y9 y10 y11 y12 y13 y14 y15 y16 y17 y18 y19 y20 y21 y22 y23 y24 y25 y26 y27
      clear hn hd
      subst hA
      have hpb : V5.heap[b]? = some (.cells #[.int .i64 m, .slice a l.length c] 32) := (hC.1.block b HQ2.out.lt (fun e => by have := HQ2.out.own.lt b e; omega)).trans HQ2.out.hp
      have hrq := RQ.set hpb OQ
      have hcg : Chg (QF b (.slice a l.length c)) w (V5.setCell ⟨b, 1, none⟩ (.slice (some ⟨gq, 0, none⟩) (l.length + 1) cq)) := (HC2.out.trans hC.1 (fun x _ hx => .inr hx)).setCell (.inl (.inl rfl)) _
      have HQ8 : Hid (Value.ownBlock (.slice a l.length c) = some gq ∨ w.heap.size ≤ gq) := HQ9.imp (fun h => h) (fun h => Nat.le_trans (Nat.le_of_succ_le HS2.out) h)
      have c1 : V5.cell? ⟨b, 1, none⟩ = some (.slice a l.length c) := by simp [World.cell?, hpb]
      have cf : ∀ j, V5.frozen? ⟨b, j, none⟩ = false := fun j => by simp [World.frozen?, hpb]
      have HCG := Lib.hid hcg
      have HRQ := Lib.hid hrq
      clear hpb hrq hcg kc HROW HQ9 OQ hC
      go_wp2_with fail
      go_ret
      rw [e1.out, e2.out]
      exact ⟨rfl, HCG.out, _, HRQ.out, fun g hg => by cases hg; exact HQ8.out⟩
end Go.Proofs.Ytgcjmnjepnmaeaa
