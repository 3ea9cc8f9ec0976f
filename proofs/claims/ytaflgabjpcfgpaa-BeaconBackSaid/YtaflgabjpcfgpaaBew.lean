/- Beacons without an echo: the reference's Without. No conditions but on lengths. -/
import Derived.Test.YtaflgabjpcfgpaaBer
import Derived.Test.YtaflgabjpcfgpaaBes
namespace Go.Proofs.Ytaflgabjpcfgpaa
set_option maxRecDepth 100000
open Go.RowKit

theorem ec_alloc (w : World) (y1 y2 : Int) : GC RE (w.alloc (.cells #[.int .i64 y1, .int .i64 y2] 52)) w.heap.size 0 (y1, y2) := gc_alloc RE w (y1, y2) _ rfl 52
/-- Echoes in memory of one's own. -/
def OwE (w : World) (S : Nat) (v : Value) (xs : List (Int × Int)) : Prop := w.ownsRow S 52 2 v xs.length (eflat xs)
theorem OwE.form {w : World} {S : Nat} {v : Value} {xs : List (Int × Int)} (h : OwE w S v xs) : ∃ a c, v = .slice a xs.length c := gown_form h
theorem OwE.lt {w : World} {S : Nat} {v : Value} {xs : List (Int × Int)} (h : OwE w S v xs) (b : Nat) (hb : v.ownBlock = some b) : S ≤ b ∧ b < w.heap.size := World.ownsRow.lt h b hb
theorem OwE.set {w : World} {S b : Nat} {v u : Value} {xs : List (Int × Int)} (h : OwE w S v xs) (hb : b < S) (j : Nat) : OwE (w.setCell ⟨b, j, none⟩ u) S v xs := gown_apart h hb j
theorem OwE.mono {w : World} {S B : Nat} {v : Value} {xs : List (Int × Int)} (h : OwE w S v xs) (hB : B ≤ S) : OwE w B v xs := gown_mono h hB
/-- The echoes of others. -/
def wout (ys : List (Int × Int)) (id : Int) : List (Int × Int) := ys.filter fun y => y.1 != id
def wofirst (ys : List (Int × Int)) (id : Int) (k : Nat) : List (Int × Int) := wout (ys.take k) id
theorem take_snoc {ys : List (Int × Int)} {k : Nat} (h : k < ys.length) : ys.take (k + 1) = ys.take k ++ [ys.getD k (0, 0)] := by
  rw [List.take_add_one, List.getD_eq_getElem?_getD, List.getElem?_eq_getElem h]; rfl
theorem wofirst_eq {ys : List (Int × Int)} {id : Int} {k : Nat} (h : k < ys.length) (he : (ys.getD k (0, 0)).1 = id) : wofirst ys id (k + 1) = wofirst ys id k := by
  unfold wofirst wout
  rw [take_snoc h, List.filter_append, List.filter_cons_of_neg (by simpa using he)]; simp
theorem wofirst_ne {ys : List (Int × Int)} {id : Int} {k : Nat} (h : k < ys.length) (he : (ys.getD k (0, 0)).1 ≠ id) : wofirst ys id (k + 1) = wofirst ys id k ++ [ys.getD k (0, 0)] := by
  unfold wofirst wout
  rw [take_snoc h, List.filter_append, List.filter_cons_of_pos (by simpa using he)]; simp
theorem wofirst_len (ys : List (Int × Int)) (id : Int) (k : Nat) : (wofirst ys id k).length ≤ k := by
  unfold wofirst wout
  exact Nat.le_trans (List.length_filter_le _ _) (by simp; omega)
theorem wofirst_all (ys : List (Int × Int)) (id : Int) : wofirst ys id ys.length = wout ys id := by unfold wofirst; rw [List.take_length]
theorem woutlen (ys : List (Int × Int)) (id : Int) : (wout ys id).length = ys.length ↔ hear ys id = none := by
  unfold wout hear
  rw [List.length_filter_eq_length_iff, Option.map_eq_none_iff, List.find?_eq_none]
  simp
theorem OwnB2.set {w : World} {b : Nat} {M : Int} {v : Value} (h : OwnB2 w b M v) (M' : Int) (v' : Value) : OwnB2 ((w.setCell ⟨b, 0, none⟩ (.int .i64 M')).setCell ⟨b, 1, none⟩ v') b M' v' := by
  obtain ⟨⟨h0, h1⟩, hf⟩ := h
  refine ⟨⟨?_, ?_⟩, fun j => ?_⟩ <;> simp [go_sem, hf, h0, h1]
theorem belb_set2 {B : Nat} {u w : World} {b : Nat} (h : Below B u w) (hB : B ≤ b) (M : Int) (v : Value) : Below B u ((w.setCell ⟨b, 0, none⟩ (.int .i64 M)).setCell ⟨b, 1, none⟩ v) := (h.setCell (p := ⟨b, 0, none⟩) hB _).setCell (p := ⟨b, 1, none⟩) hB _
/-- A beacon of one's own stands apart from what is laid into an elder variable. -/
theorem eown_set2 {w : World} {b S n : Nat} {v : Value} {xs : List Value} (h : w.ownsRow S 52 2 v n xs) (hb : b < S) (M : Int) (u : Value) : ((w.setCell ⟨b, 0, none⟩ (.int .i64 M)).setCell ⟨b, 1, none⟩ u).ownsRow S 52 2 v n xs := gown_apart (gown_apart h hb 0) hb 1
set_option maxHeartbeats 32000000 in
theorem rwout_any (M : Int) (v : Value) (ys : List (Int × Int)) (id : Int) (w : World) (hy : Es w v ys) (hl : ys.length ≤ 3000) :
    Calls Try.prog 16 #[.agg #[.int .i64 M, v], .int .i64 id] w fun e w' => (∃ u k, e = .returned (.tuple #[u, .int .i64 k]) ∧
      ((¬ BeOk M ys ∧ u = .agg #[.int .i64 0, .slice none 0 0] ∧ k = 1) ∨ (BeOk M ys ∧ hear ys id = none ∧ u = .agg #[.int .i64 0, .slice none 0 0] ∧ k = 7) ∨
       (BeOk M ys ∧ hear ys id ≠ none ∧ k = 0 ∧ ∃ u', u = .agg #[.int .i64 M, u'] ∧ OwE w' w.heap.size u' (wout ys id)))) ∧ Below w.heap.size w w' := by
  obtain ⟨a, c, rfl⟩ := hy.form
  obtain ⟨W1, hW1⟩ : ∃ W1, W1 = w.alloc (.cells #[.int .i64 M, .slice a ys.length c] 24) := ⟨_, rfl⟩
  obtain ⟨V, hV⟩ : ∃ V, V = W1.alloc (.cells #[.int .i64 0, .slice none 0 0] 24) := ⟨_, rfl⟩
  have hs1 : W1.heap.size = w.heap.size + 1 := by rw [hW1]; simp
  have hsV : V.heap.size = w.heap.size + 2 := by rw [hV]; simp; omega
  have hb1 : Below w.heap.size w W1 := by rw [hW1]; exact (Below.refl _ w).alloc (Nat.le_refl _) _
  have hb2 : Below W1.heap.size W1 V := by rw [hV]; exact (Below.refl _ W1).alloc (Nat.le_refl _) _
  have OX := Lib.hid ((show OwnB2 W1 w.heap.size M (.slice a ys.length c) by rw [hW1]; exact ownb2_alloc w M (.slice a ys.length c) 24 w.heap.size rfl).below hb2)
  have OR := Lib.hid (show OwnB2 V W1.heap.size 0 (.slice none 0 0) by rw [hV]; exact ownb2_alloc W1 0 (.slice none 0 0) 24 W1.heap.size rfl)
  have HY := Lib.hid ((hy.below hb1).below hb2)
  have HB : Hid (Below w.heap.size w V) := hb1.trans (hb2.mono hb1.size)
  rw [hs1] at OR
  clear hy hb1 hb2
  obtain ⟨q, hq⟩ : ∃ q : Bool, q = true ↔ BeOk M ys := ⟨decide (BeOk M ys), decide_eq_true_iff⟩
  have HQ := Lib.hid hq
  have CR := Lib.hid (rbright_fix M (.slice a ys.length c) ys q hq V HY.out hl)
  clear hq
  obtain ⟨x0, x1⟩ := OX.out.1
  have hs1' : (w.alloc (.cells #[.int .i64 M, .slice a ys.length c] 24)).heap.size = w.heap.size + 1 := by simp
  go_enter Try.func16, Try.ntmps16
  go_wp2_with fail
  try simp only [hs1']
  try rw [← hW1]
  try rw [← hV]
  refine CR.out.mono ?_
  rintro e w2 ⟨rfl, hb3⟩
  replace OX := Lib.hid (OX.out.below hb3)
  replace OR := Lib.hid (OR.out.below hb3)
  replace HY := Lib.hid (HY.out.below hb3)
  replace HB : Hid (Below w.heap.size w w2) := HB.out.trans (hb3.mono HB.out.size)
  have hs2 : Hid (w.heap.size + 2 ≤ w2.heap.size) := by have := hb3.size; rw [hsV] at this; exact this
  clear hb3 CR hV hW1 hsV hs1 x0 x1 hs1'
  clear V W1
  have r2 := OR.out.2
  cases q with
  | false =>
    have HN : Hid (¬ BeOk M ys) := fun h => by cases HQ.out.2 h
    obtain ⟨⟨z0, z1⟩, zf⟩ := OR.out
    go_wp2_with fail
    have hs := (OR.out.set 0 (.slice none 0 0)).1
    have hbs := belb_set2 (b := w.heap.size + 1) HB.out (by omega) 0 (.slice none 0 0)
    generalize ((w2.setCell ⟨(w.heap.size + 1), 0, none⟩ (.int .i64 0)).setCell ⟨(w.heap.size + 1), 1, none⟩ (.slice none 0 0)) = W5 at *
    obtain ⟨s0_, s1_⟩ := hs
    exact bodyPost_ret (v := .tuple #[.agg #[.int .i64 0, .slice none 0 0], .int .i64 1]) (by simp [results, Try.results16, go_sem, s0_, s1_]) rfl ⟨⟨_, _, rfl, .inl ⟨HN.out, rfl, rfl⟩⟩, hbs⟩
  | true =>
    have HO : Hid (BeOk M ys) := HQ.out.1 rfl
    clear HQ
    obtain ⟨x0, x1⟩ := OX.out.1
    obtain ⟨g0, hg0⟩ : ∃ g0, w2.heap.size = g0 := ⟨_, rfl⟩
    have hal := (Below.refl w2.heap.size w2).alloc (Nat.le_refl _) (.cells #[.int .i64 M, .slice none 0 0] 24)
    have OB := ownb2_alloc w2 M (.slice none 0 0) 24 w2.heap.size rfl
    rw [hg0] at hal OB
    have hgs : (w2.alloc (.cells #[.int .i64 M, .slice none 0 0] 24)).heap.size = g0 + 1 := by rw [← hg0]; simp
    go_wp2_with fail
    obtain ⟨V0, hV0⟩ : ∃ V0, w2.alloc (.cells #[.int .i64 M, .slice none 0 0] 24) = V0 := ⟨_, rfl⟩
    rw [hV0] at hal OB hgs
    have HAL := Lib.hid hal
    have HOB := Lib.hid OB
    have HGS := Lib.hid hgs
    have HG0 := Lib.hid hg0
    clear hal OB hgs
    simp only [hV0]
    clear hV0 x0 x1
    go_loopw [7] (fun i wr => ∃ (k : Nat) (v : Value), k ≤ ys.length ∧ i = .int .i64 k ∧ OwnB2 wr g0 M v ∧ OwE wr (g0 + 1) v (wofirst ys id k) ∧ g0 + 1 ≤ wr.heap.size ∧ Below g0 w2 wr) (fun i _ => ys.length - (intOf i).toNat)
    case atStart => exact ⟨0, _, Nat.zero_le _, rfl, HOB.out, eown_nil _ _, Nat.le_of_eq HGS.out.symm, HAL.out⟩
    case round =>
      obtain ⟨k, v, hk, rfl, hob, hrow, hsz, hbel⟩ := hrel
      obtain ⟨a3, c3, rfl⟩ := hrow.form
      have HX := Lib.hid (OX.out.low (by have := hs2.out; omega) hbel)
      have HYW : Hid (Es wr (.slice a ys.length c) ys) := HY.out.below (by rw [HG0.out]; exact hbel)
      have HW := Lib.hid hbel
      have OO := Lib.hid hob
      have OW := Lib.hid hrow
      have HSW := Lib.hid hsz
      clear hbel hob hrow hsz
      obtain ⟨x0, x1⟩ := HX.out.1
      obtain ⟨o0, o1⟩ := OO.out.1
      by_cases hlt : k < ys.length
      · obtain ⟨b, off, rfl, hB, p0, p1⟩ := HYW.out.at hlt
        obtain ⟨⟨y1, y2⟩, hyk⟩ : ∃ y, ys.getD k (0, 0) = y := ⟨_, rfl⟩
        rw [hyk] at p0 p1
        simp only at p0 p1
        by_cases he : y1 = id
        · have he' : (y1 != id) = false := by simpa using he
          have HE := Lib.hid (wofirst_eq (id := id) hlt (by rw [hyk]; exact he))
          clear he
          go_wp2_with fail
          go_roundw
          case rel =>
            exact ⟨k + 1, _, by omega, by go_num, OO.out, by rw [HE.out]; exact OW.out, HSW.out, HW.out⟩
          case measure => simp [intOf]; omega
        · have he' : (y1 != id) = true := by simpa using he
          have HE := Lib.hid (wofirst_ne (id := id) hlt (by rw [hyk]; exact he))
          rw [hyk] at HE
          have HXL : Hid ((wofirst ys id k).length ≤ 3000) := Nat.le_trans (wofirst_len ys id k) (by omega)
          have hq0 : (0 : Int) ≤ (k : Int) := by omega
          have hq1 : (k : Int) < (ys.length : Int) := by omega
          have hqn : ((k : Int)).toNat = k := Int.toNat_natCast k
          have HROW : ∀ b, Value.ownBlock (.slice a3 (wofirst ys id k).length c3) = some b → b < wr.heap.size := fun b hb => (OW.out.lt b hb).2
          have hxg : w.heap.size < g0 + 1 := by have := hs2.out; omega
          have hbg : b < g0 + 1 := Nat.lt_succ_of_lt (by have h9 := (HY.out.all hlt).1; rw [HG0.out] at h9; exact h9)
          have kc : ∀ w', Below (g0 + 1) wr w' → w'.cell? ⟨g0, 1, none⟩ = some (.slice a3 (wofirst ys id k).length c3) ∧ w'.cell? ⟨w.heap.size, 1, none⟩ = some (.slice (some ⟨b, off, none⟩) ys.length c) ∧ w'.cell? ⟨b, off + k * 2, none⟩ = some (.int .i64 y1) ∧ w'.cell? ⟨b, off + k * 2 + 1, none⟩ = some (.int .i64 y2) := fun w' h =>
            ⟨(h.cell (p := ⟨g0, 1, none⟩) (Nat.lt_succ_self _)).trans o1, (h.cell (p := ⟨w.heap.size, 1, none⟩) hxg).trans x1, (h.cell (p := ⟨b, off + k * 2, none⟩) hbg).trans p0, (h.cell (p := ⟨b, off + k * 2 + 1, none⟩) hbg).trans p1⟩
          clear he
          go_wp2_with fail
          refine T3.wp_region_tail (C := fun w' => Below (g0 + 1) wr w' ∧ w'.ownsRow (g0 + 1) RE.T RE.K ((.slice a3 (wofirst ys id k).length c3)) (wofirst ys id k).length (gflat RE (wofirst ys id k))) (X := GX (Value.ownBlock ((.slice a3 (wofirst ys id k).length c3))) 8) (n := 49) 10 (by kernel_rfl) (by kernel_rfl) (by kernel_rfl) (by kernel_rfl) rfl (GX_refl _ 8) ⟨(Below.refl _ _).drew, OW.out.drew⟩ ?_
          simp only [List.take_succ_cons, List.take_zero, List.drop_succ_cons, List.drop_zero]
          refine T3.w_is (GX_refl _ 8) rfl _ (.inl rfl) (fun ρ w hC hc hfn hf => by have e6 : ρ (.tmp 6) = _ := hf 6 (by decide); (conv => lhs; simp [execOp, go_sem, hc, e6])) ?_
          refine T3.w_is (GX_refl _ 8) rfl _ (.inl rfl) (fun ρ w hC hc hfn hf => by have e30 : ρ (.tmp 30) = _ := hf 30 (by decide); (conv => lhs; simp [execOp, go_sem, hc, e30, kc w hC.1])) ?_
          refine T3.w_is (GX_refl _ 8) rfl _ (.inl rfl) (fun ρ w hC hc hfn hf => by have e2 : ρ (.tmp 2) = _ := hf 2 (by decide); (conv => lhs; simp [execOp, go_sem, hc, e2])) ?_
          refine T3.w_is (GX_refl _ 8) rfl _ (.inl rfl) (fun ρ w hC hc hfn hf => by have e32 : ρ (.tmp 32) = _ := hf 32 (by decide); (conv => lhs; simp [execOp, go_sem, hc, e32, kc w hC.1])) ?_
          refine T3.w_is (GX_refl _ 8) rfl _ (.inl rfl) (fun ρ w hC hc hfn hf => by have e7 : ρ (.tmp 7) = _ := hf 7 (by decide); (conv => lhs; simp [execOp, go_sem, hc, e7])) ?_
          refine T3.w_is (GX_refl _ 8) rfl _ (.inl rfl) (fun ρ w hC hc hfn hf => by have e33 : ρ (.tmp 33) = _ := hf 33 (by decide); have e34 : ρ (.tmp 34) = _ := hf 34 (by decide); (conv => lhs; simp [execOp, go_sem, hc, e33, e34, hq0, hq1, hqn])) ?_
          refine T3.w_is (GX_refl _ 8) rfl _ (.inl rfl) (fun ρ w hC hc hfn hf => by have e35 : ρ (.tmp 35) = _ := hf 35 (by decide); (conv => lhs; simp [execOp, go_sem, hc, e35, kc w hC.1])) ?_
          refine T3.w_make rfl (NewG (R := RE) wr (y1, y2)) (NewG.keeps HROW 8 7) (.inl rfl) (fun ρ w hC hc hfn hf => by have e36 : ρ (.tmp 36) = _ := hf 36 (by decide); exact ⟨_, _, by (conv => lhs; simp [execOp, go_sem, hc, e36]), ⟨hC.1.alloc (Nat.le_trans HSW.out hC.1.size) _, hC.2.alloc _⟩, GX_of (by decide) ((Below.refl _ w).alloc (Nat.le_refl _) _), ⟨_, rfl, hC.1.size, ec_alloc w y1 y2⟩⟩) ?_
          refine T3.w_make rfl (NewGRow (R := RE) (g0 + 1) ((wofirst ys id k) ++ [(y1, y2)]) ((wofirst ys id k).length + 1)) (NewGRow.keeps 8) (.inl rfl) (fun ρ w hC hc hfn hf => by have e31 : ρ (.tmp 31) = _ := hf 31 (by decide); obtain ⟨bq, e37, hb1, hb2⟩ := (show NewG (R := RE) wr (y1, y2) (ρ (.tmp 37)) w from hf 37 (by decide)); obtain ⟨gq, cq, wq, hr, hq1, hq2, hq3⟩ := run_gapp (R := RE) w 22 (g0 + 1) _ (wofirst ys id k) hC.2 bq (y1, y2) hb2 HXL.out (Nat.le_trans HSW.out hC.1.size); exact ⟨_, wq, gexec_append rfl e31 e37 hr, ⟨hC.1.trans ((Below.refl (g0 + 1) w).grown hq2 (Nat.le_trans HSW.out hC.1.size) (fun k hk => (hC.2.lt k hk).1)), hq3⟩, GX_at rfl hq2, ⟨gq, cq, rfl, hq1⟩⟩) ?_
          refine T3.w_is (GX_refl _ 8) rfl _ (.inl rfl) (fun ρ w hC hc hfn hf => by have e6 : ρ (.tmp 6) = _ := hf 6 (by decide); (conv => lhs; simp [execOp, go_sem, hc, e6])) ?_
          intro A V5 hC hn hd hf
          obtain ⟨bq, y37, -, -⟩ := (show NewG (R := RE) wr (y1, y2) (A.eval (.tmp 37)) V5 from hf 37)
          obtain ⟨gq, cq, y38, OQ⟩ := (show NewGRow (R := RE) (g0 + 1) ((wofirst ys id k) ++ [(y1, y2)]) ((wofirst ys id k).length + 1) (A.eval (.tmp 38)) V5 from hf 38)
          rw [y38] at OQ
          have y0 : A.eval (.tmp 0) = _ := Eq.trans (hf 0) (by conv => lhs; simp [go_sem])
          have y1 : A.eval (.tmp 1) = _ := Eq.trans (hf 1) (by conv => lhs; simp [go_sem])
          have y2 : A.eval (.tmp 2) = _ := Eq.trans (hf 2) (by conv => lhs; simp [go_sem])
          have y3 : A.eval (.tmp 3) = _ := Eq.trans (hf 3) (by conv => lhs; simp [go_sem])
          have y4 : A.eval (.tmp 4) = _ := Eq.trans (hf 4) (by conv => lhs; simp [go_sem])
          have y5 : A.eval (.tmp 5) = _ := Eq.trans (hf 5) (by conv => lhs; simp [go_sem])
          have y6 : A.eval (.tmp 6) = _ := Eq.trans (hf 6) (by conv => lhs; simp [go_sem])
          have y7 : A.eval (.tmp 7) = _ := Eq.trans (hf 7) (by conv => lhs; simp [go_sem])
          have y8 : A.eval (.tmp 8) = _ := Eq.trans (hf 8) (by conv => lhs; simp [go_sem])
          have y9 : A.eval (.tmp 9) = _ := Eq.trans (hf 9) (by conv => lhs; simp [go_sem])
          have y10 : A.eval (.tmp 10) = _ := Eq.trans (hf 10) (by conv => lhs; simp [go_sem])
          have y11 : A.eval (.tmp 11) = _ := Eq.trans (hf 11) (by conv => lhs; simp [go_sem])
          have y12 : A.eval (.tmp 12) = _ := Eq.trans (hf 12) (by conv => lhs; simp [go_sem])
          have y13 : A.eval (.tmp 13) = _ := Eq.trans (hf 13) (by conv => lhs; simp [go_sem])
          have y14 : A.eval (.tmp 14) = _ := Eq.trans (hf 14) (by conv => lhs; simp [go_sem])
          have y15 : A.eval (.tmp 15) = _ := Eq.trans (hf 15) (by conv => lhs; simp [go_sem])
          have y16 : A.eval (.tmp 16) = _ := Eq.trans (hf 16) (by conv => lhs; simp [go_sem])
          have y17 : A.eval (.tmp 17) = _ := Eq.trans (hf 17) (by conv => lhs; simp [go_sem])
          have y18 : A.eval (.tmp 18) = _ := Eq.trans (hf 18) (by conv => lhs; simp [go_sem])
          have y19 : A.eval (.tmp 19) = _ := Eq.trans (hf 19) (by conv => lhs; simp [go_sem])
          have y20 : A.eval (.tmp 20) = _ := Eq.trans (hf 20) (by conv => lhs; simp [go_sem])
          have y21 : A.eval (.tmp 21) = _ := Eq.trans (hf 21) (by conv => lhs; simp [go_sem])
          have y22 : A.eval (.tmp 22) = _ := Eq.trans (hf 22) (by conv => lhs; simp [go_sem])
          have y23 : A.eval (.tmp 23) = _ := Eq.trans (hf 23) (by conv => lhs; simp [go_sem])
          have y24 : A.eval (.tmp 24) = _ := Eq.trans (hf 24) (by conv => lhs; simp [go_sem])
          have y25 : A.eval (.tmp 25) = _ := Eq.trans (hf 25) (by conv => lhs; simp [go_sem])
          have y26 : A.eval (.tmp 26) = _ := Eq.trans (hf 26) (by conv => lhs; simp [go_sem])
          have y27 : A.eval (.tmp 27) = _ := Eq.trans (hf 27) (by conv => lhs; simp [go_sem])
          have y28 : A.eval (.tmp 28) = _ := Eq.trans (hf 28) (by conv => lhs; simp [go_sem])
          have y29 : A.eval (.tmp 29) = _ := Eq.trans (hf 29) (by conv => lhs; simp [go_sem])
          have y30 : A.eval (.tmp 30) = _ := hf 30
          have y31 : A.eval (.tmp 31) = _ := hf 31
          have y32 : A.eval (.tmp 32) = _ := hf 32
          have y33 : A.eval (.tmp 33) = _ := hf 33
          have y34 : A.eval (.tmp 34) = _ := hf 34
          have y35 : A.eval (.tmp 35) = _ := hf 35
          have y36 : A.eval (.tmp 36) = _ := hf 36
          have y39 : A.eval (.tmp 39) = _ := hf 39
          have y40 : A.eval (.tmp 40) = _ := Eq.trans (hf 40) (by conv => lhs; simp [go_sem])
          have y41 : A.eval (.tmp 41) = _ := Eq.trans (hf 41) (by conv => lhs; simp [go_sem])
          have y42 : A.eval (.tmp 42) = _ := Eq.trans (hf 42) (by conv => lhs; simp [go_sem])
          have y43 : A.eval (.tmp 43) = _ := Eq.trans (hf 43) (by conv => lhs; simp [go_sem])
          have y44 : A.eval (.tmp 44) = _ := Eq.trans (hf 44) (by conv => lhs; simp [go_sem])
          have y45 : A.eval (.tmp 45) = _ := Eq.trans (hf 45) (by conv => lhs; simp [go_sem])
          have y46 : A.eval (.tmp 46) = _ := Eq.trans (hf 46) (by conv => lhs; simp [go_sem])
          have y47 : A.eval (.tmp 47) = _ := Eq.trans (hf 47) (by conv => lhs; simp [go_sem])
          have y48 : A.eval (.tmp 48) = _ := Eq.trans (hf 48) (by conv => lhs; simp [go_sem])
          clear hf
          have hA := frame_eq hn
          rw [show List.range 49 = [0, 1, 2, 3, 4, 5, 6, 7, 8, 9, 10, 11, 12, 13, 14, 15, 16, 17, 18, 19, 20, 21, 22, 23, 24, 25, 26, 27, 28, 29, 30, 31, 32, 33, 34, 35, 36, 37, 38, 39, 40, 41, 42, 43, 44, 45, 46, 47, 48] from rfl, hd] at hA
          simp only [List.map_cons, List.map_nil, y0, y1, y2, y3, y4, y5, y6, y7, y8, y9, y10, y11, y12, y13, y14, y15, y16, y17, y18, y19, y20, y21, y22, y23, y24, y25, y26, y27, y28, y29, y30, y31, y32, y33, y34, y35, y36, y37, y38, y39, y40, y41, y42, y43, y44, y45, y46, y47, y48] at hA
          clear y0 y1 y2 y3 y4 y5 y6 y7 y8 y9 y10 y11 y12 y13 y14 y15 y16 y17 y18 y19 y20 y21 y22 y23 y24 y25 y26 y27 y28 y29 y30 y31 y32 y33 y34 y35 y36 y37 y38 y39 y40 y41 y42 y43 y44 y45 y46 y47 y48
          clear hn hd
          subst hA
          have hcell5 : V5.cell? ⟨g0, 1, none⟩ = _ := (kc V5 hC.1).1
          have hfz5 : V5.frozen? ⟨g0, 1, none⟩ = false := by rw [hC.1.frozen (p := ⟨g0, 1, none⟩) (Nat.lt_succ_self _)]; exact OO.out.2 1
          have OO5 := Lib.hid ((OO.out.low (Nat.lt_succ_self _) hC.1).set1 (.slice (some ⟨gq, 0, none⟩) ((wofirst ys id k).length + 1) cq))
          have OQ5 : Hid (OwE V5 (g0 + 1) (.slice (some ⟨gq, 0, none⟩) ((wofirst ys id k).length + 1) cq) (wofirst ys id k ++ [(y1, y2)])) := OQ
          have HW5 := Lib.hid ((HW.out.trans (hC.1.mono (Nat.le_succ _))).setCell (p := ⟨g0, 1, none⟩) (Nat.le_refl _) (.slice (some ⟨gq, 0, none⟩) ((wofirst ys id k).length + 1) cq))
          have HS5 : Hid (g0 + 1 ≤ V5.heap.size) := Nat.le_trans HSW.out hC.1.size
          clear kc OQ hC HROW p0 p1 x0 x1 o0 o1
          go_wp2_with fail
          go_roundw
          case rel =>
            exact ⟨k + 1, _, by omega, by go_num, OO5.out, by rw [HE.out]; exact OQ5.out.set (Nat.lt_succ_self _) 1, by simp; exact HS5.out, HW5.out⟩
          case measure => simp [intOf]; omega
      · obtain rfl : k = ys.length := by omega
        rw [wofirst_all] at OW OO o1
        have hgx : w.heap.size + 1 < g0 := by have := hs2.out; omega
        have HZ := Lib.hid (OR.out.low hgx HW.out)
        obtain ⟨⟨z0, z1⟩, zf⟩ := HZ.out
        have HBW : Hid (Below w.heap.size w wr) := HB.out.trans (HW.out.mono (by omega))
        obtain ⟨L, hL0⟩ : ∃ L, (wout ys id).length = L := ⟨_, rfl⟩
        have HL0 := Lib.hid hL0
        rw [hL0] at o1
        by_cases hn : hear ys id = none
        · have hL : ((L : Int) == (ys.length : Int)) = true := by rw [← hL0, (woutlen ys id).2 hn]; simp
          have HN := Lib.hid hn
          clear hL0 hn
          go_wp2_with fail
          have hs := (HZ.out.set 0 (.slice none 0 0)).1
          have hbs := belb_set2 (b := w.heap.size + 1) HBW.out (by omega) 0 (.slice none 0 0)
          generalize ((wr.setCell ⟨(w.heap.size + 1), 0, none⟩ (.int .i64 0)).setCell ⟨(w.heap.size + 1), 1, none⟩ (.slice none 0 0)) = W5 at *
          obtain ⟨s0_, s1_⟩ := hs
          exact bodyPost_ret (v := .tuple #[.agg #[.int .i64 0, .slice none 0 0], .int .i64 7]) (by simp [results, Try.results16, go_sem, s0_, s1_]) rfl ⟨⟨_, _, rfl, .inr (.inl ⟨HO.out, HN.out, rfl, rfl⟩)⟩, hbs⟩
        · have hL : ((L : Int) == (ys.length : Int)) = false := by
            rw [beq_eq_false_iff_ne]
            intro h
            exact hn ((woutlen ys id).1 (by omega))
          have HN := Lib.hid hn
          clear hL0 hn
          go_wp2_with fail
          have hs := (HZ.out.set M (.slice a3 L c3)).1
          have hbs := belb_set2 (b := w.heap.size + 1) HBW.out (by omega) M (.slice a3 L c3)
          have hos : OwE _ (g0 + 1) _ _ := eown_set2 (b := w.heap.size + 1) OW.out (by omega) M (.slice a3 L c3)
          rw [HL0.out] at hos
          generalize ((wr.setCell ⟨(w.heap.size + 1), 0, none⟩ (.int .i64 M)).setCell ⟨(w.heap.size + 1), 1, none⟩ (.slice a3 L c3)) = W5 at *
          obtain ⟨s0_, s1_⟩ := hs
          exact bodyPost_ret (v := .tuple #[.agg #[.int .i64 M, .slice a3 L c3], .int .i64 0]) (by simp [results, Try.results16, go_sem, s0_, s1_]) rfl ⟨⟨_, _, rfl, .inr (.inr ⟨HO.out, HN.out, rfl, _, rfl, hos.mono (by omega)⟩)⟩, hbs⟩
#print axioms rwout_any
end Go.Proofs.Ytaflgabjpcfgpaa
