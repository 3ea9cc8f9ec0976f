/- A batch read out of bytes: what Parse answers. No conditions. -/
import Derived.Test.YtjghebcnmoojmaaGreatU29
namespace Go.Proofs.YtjghebcnmoojmaaGreat
set_option maxRecDepth 100000
open Go.RowKit Go.Sort

theorem own_onl {w w' : World} {b S size n : Nat} {e : TypeId} {v : Value} {xs : List Value} (h : w.ownsRow S e size v n xs) (ho : Onl b w w') (hb : b < S) : w'.ownsRow S e size v n xs := by
 refine ⟨h.1, ?_⟩
 rcases h.2 with h2 | ⟨g, cap, cur, rfl, h3, hg, rest⟩
 ·exact .inl h2
 ·refine .inr ⟨g, cap, cur, rfl, h3, ?_, rest⟩
  rw [ho.block g (Array.getElem?_eq_some_iff.1 hg).1 (by omega)]; exact hg
theorem Own2.low {w w' : World} {b S : Nat} {M : Int} {v : Value} (h : Own2 w b M v) (hb : b < S) (hB : Below S w w') : Own2 w' b M v :=
 ⟨⟨(hB.cell (p := ⟨b, 0, none⟩) hb).trans h.1.1, (hB.cell (p := ⟨b, 1, none⟩) hb).trans h.1.2⟩, fun j => (hB.frozen (p := ⟨b, j, none⟩) hb).trans (h.2 j)⟩
theorem Rd.low {w w' : World} {b S : Nat} {x y : Int} (h : Rd w b x y) (hb : b < S) (hB : Below S w w') : Rd w' b x y :=
 ⟨(hB.cell (p := ⟨b, 0, none⟩) hb).trans h.1, (hB.cell (p := ⟨b, 1, none⟩) hb).trans h.2.1, fun j => (hB.frozen (p := ⟨b, j, none⟩) hb).trans (h.2.2 j)⟩
theorem Own2.allocs {w : World} {b : Nat} {M : Int} {v : Value} (h : Own2 w b M v) : ∀ O, (w.alloc O).cell? ⟨b, 1, none⟩ = some v := fun O => (h.below ((Below.refl _ _).alloc (Nat.le_refl _) O)).1.2
theorem bdV_form (N1 : Int) (ys : List Ob) (s4 e4 : Int) (a3 : Option Addr) (c3 : Nat) (q : Bool) (hq : q = true ↔ BtOk N1 ys) : ∃ (M9 : Int) (a9 : Option Addr) (l9 c9 : Nat) (t9 e9 : Int),
  bdV e4 q N1 a3 ys.length c3 s4 = .tuple #[.agg #[.int .i64 M9, .slice a9 l9 c9], .int .i64 t9, .int .i64 e9] ∧ M9 = (bparseF N1 (ys, (s4, e4))).M ∧ t9 = (bparseF N1 (ys, (s4, e4))).to ∧ e9 = (bparseF N1 (ys, (s4, e4))).e ∧ ∀ (W : World) (B : Nat), W.ownsRow B 63 12 (.slice a3 ys.length c3) ys.length (flat ys) → W.ownsRow B 63 12 (.slice a9 l9 c9) (bparseF N1 (ys, (s4, e4))).ys.length (flat (bparseF N1 (ys, (s4, e4))).ys) := by
 unfold bdV bparseF
 by_cases h0 : e4 = 0
 ·subst h0
  by_cases hb : BtOk N1 ys
  ·obtain rfl : q = true := hq.2 hb
   rw [show needE 0 true = 0 from rfl, if_pos rfl, if_pos rfl, if_pos hb]
   exact ⟨_, _, _, _, _, _, rfl, rfl, rfl, rfl, fun W B h => h⟩
  ·obtain rfl : q = false := by cases q with
    | false => rfl
    | true => exact absurd (hq.1 rfl) hb
   rw [show needE 0 false = 4 from rfl, if_neg (by decide), if_pos rfl, if_neg hb]
   exact ⟨_, _, _, _, _, _, rfl, rfl, rfl, rfl, fun W B h => World.ownsRow_nil _ _ _ _⟩
 ·rw [show needE e4 q = e4 by simp [needE, h0], if_neg h0, if_neg h0]
  exact ⟨_, _, _, _, _, _, rfl, rfl, rfl, rfl, fun W B h => World.ownsRow_nil _ _ _ _⟩
set_option maxHeartbeats 32000000 in
theorem bparse_own (v : Value) (k : Int) (xs : List Int) (w : World) (hv : Bs w v xs) : Calls Tryz.prog 93 #[v, .int .i64 k] w fun e w' => ∃ r, e = .returned (.tuple #[.agg #[.int .i64 (bparseS xs k).M, r], .int .i64 (bparseS xs k).to, .int .i64 (bparseS xs k).e]) ∧ w'.ownsRow w.heap.size 63 12 r (bparseS xs k).ys.length (flat (bparseS xs k).ys) ∧ Below w.heap.size w w' := by
 obtain ⟨a, l, c, rfl⟩ := Bs_form hv
 obtain ⟨N1, s1, e1, h1⟩ : ∃ x y z, numS xs 2 (k, 0) = (x, y, z) := ⟨_, _, _, rfl⟩
 obtain ⟨cn, s2, e2, h2⟩ : ∃ x y z, numS xs 1 (s1, e1) = (x, y, z) := ⟨_, _, _, rfl⟩
 have hcn : 0 ≤ cn ∧ cn ≤ 255 := by have := num1_bd hv.1 (s1, e1); rw [h2] at this; exact this
 obtain ⟨C, rfl⟩ : ∃ C : Nat, cn = C := ⟨cn.toNat, by omega⟩
 have he : bparseS xs k = bparseF N1 (readsO xs C (s2, needE e2 (cntOk C))) := by
  unfold bparseS
  simp only [h1, h2, Int.toNat_natCast]
 rw [he]
 clear he
 have HV := Lib.hid hv
 have c1 : ∀ V, Rd V (w.heap.size + 1) k 0 → Bs V (.slice a l c) xs → Calls Tryz.prog 31 #[.pointer (some ⟨(w.heap.size + 1), 0, none⟩), .slice a l c, .int .i64 2] V fun e w' => e = .returned (.int .i64 N1) ∧ Rd w' (w.heap.size + 1) s1 e1 ∧ Onl (w.heap.size + 1) V w' := fun V h hv => by
  have h := number_any (w.heap.size + 1) (.slice a l c) xs 2 k 0 V h hv
  rw [h1] at h
  exact h
 have c2 : ∀ V, Rd V (w.heap.size + 1) s1 e1 → Bs V (.slice a l c) xs → Calls Tryz.prog 31 #[.pointer (some ⟨(w.heap.size + 1), 0, none⟩), .slice a l c, .int .i64 1] V fun e w' => e = .returned (.int .i64 C) ∧ Rd w' (w.heap.size + 1) s2 e2 ∧ Onl (w.heap.size + 1) V w' := fun V h hv => by
  have h := number_any (w.heap.size + 1) (.slice a l c) xs 1 s1 e1 V h hv
  rw [h2] at h
  exact h
 have c3 := fun V => iscount_fix C (cntOk C) decide_eq_true_iff V
 obtain ⟨e3, he3⟩ : ∃ e3, needE e2 (cntOk C) = e3 := ⟨_, rfl⟩
 have c4 := fun V h => need_any (w.heap.size + 1) (cntOk C) s2 e2 V h
 rw [he3] at c4 ⊢
 generalize cntOk C = Q at *
 obtain ⟨st, hst⟩ : ∃ st, (s2, e3) = st := ⟨_, rfl⟩
 rw [hst]
 have HST := Lib.hid hst
 clear hv h1 h2 he3 hst
 go_enter Tryz.func93, Tryz.ntmps93
 go_wp2_with fail
 refine (new_any _ _).mono ?_
 rintro e _ ⟨rfl, rfl⟩
 go_wp2_with fail
 have OR := Lib.hid ((own2_alloc w 0 (.slice none 0 0) 45 w.heap.size rfl).below ((Below.refl _ _).alloc (Nat.le_refl _) (.cells #[.int .i64 k, .int .i64 0] 89)))
 have R := Lib.hid (rd_alloc (w.alloc (.cells #[.int .i64 0, .slice none 0 0] 45)) k (w.heap.size + 1) (by simp))
 have HB : Hid (Below w.heap.size w ((w.alloc (.cells #[.int .i64 0, .slice none 0 0] 45)).alloc (.cells #[.int .i64 k, .int .i64 0] 89))) := ((Below.refl _ w).alloc (Nat.le_refl _) _).alloc (by simp) _
 generalize ((w.alloc (.cells #[.int .i64 0, .slice none 0 0] 45)).alloc (.cells #[.int .i64 k, .int .i64 0] 89)) = V0 at *
 refine (c1 _ R.out (Bs_below HV.out HB.out)).mono ?_
 rintro e V1 ⟨rfl, hR, ho⟩
 replace OR := Lib.hid (OR.out.onl ho (by omega)); replace HB := Lib.hid (HB.out.trans (ho.below (by omega) HB.out.size)); replace R := Lib.hid hR; clear ho hR
 have HG : Hid ((w.heap.size + 1) < V1.heap.size) := World.block_lt_of_cell? V1 _ R.out.1
 go_wp2_with fail
 have OX := Lib.hid (own2_alloc V1 N1 (.slice none 0 0) 45 V1.heap.size rfl)
 have hb : Below V1.heap.size V1 (V1.alloc (.cells #[.int .i64 N1, .slice none 0 0] 45)) := (Below.refl _ V1).alloc (Nat.le_refl _) _
 replace OR := Lib.hid (OR.out.below hb); replace HB := Lib.hid (HB.out.trans (hb.mono HB.out.size)); replace R := Lib.hid (R.out.below hb); clear hb
 generalize V1.alloc (.cells #[.int .i64 N1, .slice none 0 0] 45) = V2 at *
 obtain ⟨X, hX⟩ : ∃ X, V1.heap.size = X := ⟨_, rfl⟩
 rw [hX] at HG OX
 simp only [hX]
 clear hX
 refine (c2 _ R.out (Bs_below HV.out HB.out)).mono ?_
 rintro e V3 ⟨rfl, hR, ho⟩
 replace OR := Lib.hid (OR.out.onl ho (by omega)); replace OX := Lib.hid (OX.out.onl ho (by have := HG.out; omega)); replace HB := Lib.hid (HB.out.trans (ho.below (by omega) HB.out.size)); replace R := Lib.hid hR; clear ho hR
 go_wp2_with fail
 refine (c3 _).mono ?_
 rintro e _ ⟨rfl, rfl⟩
 go_wp2_with fail
 refine (c4 _ R.out).mono ?_
 rintro e V4 ⟨rfl, hR, ho⟩
 replace OR := Lib.hid (OR.out.onl ho (by omega)); replace OX := Lib.hid (OX.out.onl ho (by have := HG.out; omega)); replace HB := Lib.hid (HB.out.trans (ho.below (by omega) HB.out.size)); replace R := Lib.hid hR; clear ho hR
 have HX : Hid (X < V4.heap.size) := OX.out.lt
 clear c1 c2 c3 c4
 go_wp2_with fail
 obtain ⟨S, hS⟩ : ∃ S, V4.heap.size = S := ⟨_, rfl⟩
 rw [hS] at HX
 have HS : Hid (S ≤ V4.heap.size) := Nat.le_of_eq hS.symm
 clear hS
 have R0 : Hid (Rd V4 (w.heap.size + 1) st.1 st.2) := by have h := HST.out; rw [← h]; exact R.out
 clear R HST
 go_loopw [24] (fun i wr => ∃ (q : Nat) (u : Value), q ≤ C ∧ i = .int .i64 q ∧ Rd wr (w.heap.size + 1) (readsO xs q st).2.1 (readsO xs q st).2.2 ∧ Own2 wr X N1 u ∧ wr.ownsRow S 63 12 u (readsO xs q st).1.length (flat (readsO xs q st).1) ∧ Own2 wr w.heap.size 0 (.slice none 0 0) ∧ Below w.heap.size w wr ∧ S ≤ wr.heap.size) (fun i _ => C - (intOf i).toNat)
 case atStart => exact ⟨0, _, Nat.zero_le _, rfl, R0.out, OX.out, ⟨rfl, .inl ⟨rfl, rfl⟩⟩, OR.out, HB.out, HS.out⟩
 case round =>
  obtain ⟨q, u, hq, rfl, hR, hX, hown, hOR, hbel, hSS⟩ := hrel
  have HL := Lib.hid (readsO_len xs st q)
  have HSU : Hid (readsO xs (q + 1) st = ((readsO xs q st).1 ++ [(nextO xs (readsO xs q st).2).ob], ((nextO xs (readsO xs q st).2).to, (nextO xs (readsO xs q st).2).e))) := rfl
  obtain ⟨⟨ys, s4, e4⟩, hrd⟩ : ∃ r, readsO xs q st = r := ⟨_, rfl⟩
  rw [hrd] at hR hown HL HSU
  simp only at hR hown HL HSU
  obtain ⟨a3, c3, rfl⟩ := own_form hown
  have R := Lib.hid hR
  have OX := Lib.hid hX
  have OW := Lib.hid hown
  have OR := Lib.hid hOR
  have HB := Lib.hid hbel
  have HS := Lib.hid hSS
  have HRD := Lib.hid hrd
  clear hR hX hown hOR hbel hSS hrd
  have hg1 : (w.heap.size + 1) < X := HG.out
  have hg2 : X < S := HX.out
  have hyl : ys.length ≤ 255 := by have := HL.out; omega
  by_cases hlt : q < C
  ·obtain ⟨y, s5, e5, hO⟩ : ∃ (y : Ob) (s5 e5 : Int), nextO xs (s4, e4) = ⟨y.k, y.x, y.n, y.t, y.o, y.r, y.d, y.i, y.p, y.q, y.s, y.m, s5, e5⟩ := ⟨(nextO xs (s4, e4)).ob, (nextO xs (s4, e4)).to, (nextO xs (s4, e4)).e, rfl⟩
   have cN : Calls Tryz.prog 113 #[.pointer (some ⟨(w.heap.size + 1), 0, none⟩), .slice a l c, .func (Fn.func 114) #[] #[]] wr.drew fun e w' => ∃ v, e = .returned v ∧ (v = .agg #[.int .i64 y.k, .int .i64 y.x, .bool y.n, .int .i64 y.t, .int .i64 y.o, .int .i64 y.r, .int .i64 y.d, .int .i64 y.i, .int .i64 y.p, .int .i64 y.q, .int .i64 y.s, .int .i64 y.m] ∧ Rd w' (w.heap.size + 1) s5 e5 ∧ Onl (w.heap.size + 1) wr.drew w') :=
    (nexto_any (w.heap.size + 1) (.slice a l c) xs s4 e4 y.k y.x y.n y.t y.o y.r y.d y.i y.p y.q y.s y.m s5 e5 wr.drew R.out (Bs_below HV.out HB.out.drew) hO).mono fun e w' ⟨h1, h2, h3⟩ => ⟨_, h1, rfl, h2, h3⟩
   have HN : Hid (readsO xs (q + 1) st = (ys ++ [y], (s5, e5))) := by rw [HSU.out, hO]; rfl
   clear hO HSU
   have x1 := OX.out.1.2
   go_wp2_with fail
   go_region_law (first
    | (refine step_enter (by rfl) 113 _ (fun v w' => v = .agg #[.int .i64 y.k, .int .i64 y.x, .bool y.n, .int .i64 y.t, .int .i64 y.o, .int .i64 y.r, .int .i64 y.d, .int .i64 y.i, .int .i64 y.p, .int .i64 y.q, .int .i64 y.s, .int .i64 y.m] ∧ Rd w' (w.heap.size + 1) s5 e5 ∧ Onl (w.heap.size + 1) wr.drew w') (exec_call3 (by rfl) (by rfl) (by rfl) (by rfl) (by rfl) (call37 _ _)) cN ?_; rintro v w1 ⟨rfl, hR, ho⟩; clear cN; have OX1 := Lib.hid ((show Own2 wr.drew X N1 _ from OX.out).onl ho (by omega)); have OR1 := Lib.hid ((show Own2 wr.drew w.heap.size 0 _ from OR.out).onl ho (by omega)); have OW1 := Lib.hid (own_onl OW.out.drew ho (by omega)); have HB1 := Lib.hid (HB.out.drew.trans (ho.below (by omega) HB.out.drew.size)); have HS1 : Hid (S ≤ w1.heap.size) := Nat.le_trans HS.out ho.size; have R1 := Lib.hid hR; clear hR ho; have d1 := OX1.out.1.2; have d2 := OX1.out.allocs)
    | (refine step_oapp (by rfl) (.tmp 27) (.tmp 31) (by rfl) w1 y rfl S _ ys (by rfl) (by rfl) OW1.out (by omega) HS1.out ?_; intro g cap w2 hown hb; have OX2 := Lib.hid (OX1.out.low hg2 hb); have OR2 := Lib.hid (OR1.out.low (S := S) (by omega) hb); have R2 := Lib.hid (R1.out.low (S := S) (by omega) hb); have OW2 := Lib.hid hown; have HB2 := Lib.hid (HB1.out.trans (hb.mono (by omega))); have HS2 : Hid (S ≤ w2.heap.size) := Nat.le_trans HS1.out hb.size; clear hown hb; have f1 := OX2.out.1.2; have f2 := OX2.out.2))
   all_goals
    go_wp2_with fail
    have ho : Onl X w2 (w2.setCell ⟨X, 1, none⟩ (.slice (some ⟨g, 0, none⟩) (ys.length + 1) cap)) := (Onl.refl X w2).set 1 _
    have OX3 := Lib.hid (OX2.out.set1 (.slice (some ⟨g, 0, none⟩) (ys.length + 1) cap))
    have OR3 := Lib.hid (OR2.out.onl ho (by omega))
    have R3 := Lib.hid (R2.out.onl ho (by omega))
    have OW3 := Lib.hid (own_onl OW2.out ho hg2)
    have HB3 := Lib.hid (HB2.out.trans (ho.below (by omega) HB2.out.size))
    have HS3 : Hid (S ≤ (w2.setCell ⟨X, 1, none⟩ (.slice (some ⟨g, 0, none⟩) (ys.length + 1) cap)).heap.size) := Nat.le_trans HS2.out ho.size
    clear ho
    go_roundw
    case rel => exact ⟨q + 1, _, by omega, by go_num, by rw [HN.out]; exact R3.out, OX3.out, by rw [HN.out]; exact OW3.out, OR3.out, HB3.out, HS3.out⟩
    case measure => simp [intOf]; omega
  ·obtain rfl : q = C := by omega
   clear HSU
   go_wp2_with fail
   replace OX : Hid (Own2 wr.drew X N1 (.slice a3 ys.length c3)) := OX.out
   replace OR : Hid (Own2 wr.drew w.heap.size 0 (.slice none 0 0)) := OR.out
   replace R : Hid (Rd wr.drew (w.heap.size + 1) s4 e4) := R.out
   replace OW : Hid (wr.drew.ownsRow S 63 12 (.slice a3 ys.length c3) ys.length (flat ys)) := OW.out
   replace HB : Hid (Below w.heap.size w wr.drew) := HB.out.drew
   obtain ⟨x0, x1⟩ := (show Own2 wr X N1 (.slice a3 ys.length c3) from OX.out).1
   by_cases hbt : BtOk N1 ys
   ·skip
    have cC : ∀ W, Os W (.slice a3 ys.length c3) ys → Calls Tryz.prog 102 #[.agg #[.int .i64 N1, .slice a3 ys.length c3]] W fun e w' => e = .returned (.int .i64 0) ∧ Below W.heap.size W w' := fun W h => by
     have h := pcheck_any N1 _ ys W h (by omega)
     rwa [btc, if_pos hbt] at h
    obtain ⟨M9, a9, l9, c9, t9, e9, hD, hM, ht, he, hOs⟩ := bdV_form N1 ys s4 e4 a3 c3 true (by simp [hbt])
    have cD : ∀ W, Rd W (w.heap.size + 1) s4 e4 → Calls Tryz.prog 115 #[.pointer (some ⟨(w.heap.size + 1), 0, none⟩), .agg #[.int .i64 N1, .slice a3 ys.length c3], .bool true] W fun e w' => e = .returned (.tuple #[.agg #[.int .i64 M9, .slice a9 l9 c9], .int .i64 t9, .int .i64 e9]) ∧ Onl (w.heap.size + 1) W w' := fun W h => by
     have h := bdone_any (w.heap.size + 1) N1 a3 ys.length c3 true s4 e4 W h
     rwa [hD] at h
    have HM := Lib.hid hM
    have HT := Lib.hid ht
    have HE := Lib.hid he
    have HO := Lib.hid hOs
    clear hbt hD hM ht he hOs
    go_region_with (first
     | (go_at_call 102; refine (cC _ (Os_of_own OW.out).1).mono ?_; rintro e V88 ⟨rfl, hb⟩; replace OX := Lib.hid (OX.out.below hb); replace OR := Lib.hid (OR.out.below hb); replace OW := Lib.hid (own_below OW.out hb); replace HB := Lib.hid (HB.out.trans (hb.mono HB.out.size)); replace R := Lib.hid (R.out.below hb); clear hb; clear x0 x1; obtain ⟨x0, x1⟩ := OX.out.1)
     | (go_at_call 115; refine (cD _ R.out).mono ?_; rintro e V99 ⟨rfl, ho⟩; replace OR := Lib.hid (OR.out.onl ho (by omega)); replace OW := Lib.hid (own_onl OW.out ho (by omega)); replace HB := Lib.hid (HB.out.trans (ho.below (by omega) HB.out.size)); clear ho; clear x0 x1; obtain ⟨⟨u0, u1⟩, uf⟩ := OR.out))
    all_goals
     go_wp2_with fail
     have hs := (OR.out.set M9 (.slice a9 l9 c9)).1
     have hbs := bel_set2 (b := w.heap.size) HB.out (Nat.le_refl _) M9 (.slice a9 l9 c9)
     have ho9 : Onl w.heap.size V99 ((V99.setCell ⟨w.heap.size, 0, none⟩ (.int .i64 M9)).setCell ⟨w.heap.size, 1, none⟩ (.slice a9 l9 c9)) := ((Onl.refl _ V99).set 0 _).set 1 _
     have hos := HO.out _ w.heap.size (own_mono (own_onl OW.out ho9 (by omega)) (by omega))
     generalize (V99.setCell ⟨w.heap.size, 0, none⟩ (.int .i64 M9)).setCell ⟨w.heap.size, 1, none⟩ (.slice a9 l9 c9) = W5 at *
     obtain ⟨s0_, s1_⟩ := hs
     exact bodyPost_ret (v := .tuple #[.agg #[.int .i64 M9, .slice a9 l9 c9], .int .i64 t9, .int .i64 e9]) (by simp [results, Tryz.results93, go_sem, s0_, s1_]) rfl ⟨.slice a9 l9 c9, by rw [HRD.out, ← HM.out, ← HT.out, ← HE.out], by rw [HRD.out]; exact hos, hbs⟩
   ·skip
    have cC : ∀ W, Os W (.slice a3 ys.length c3) ys → Calls Tryz.prog 102 #[.agg #[.int .i64 N1, .slice a3 ys.length c3]] W fun e w' => e = .returned (.int .i64 1) ∧ Below W.heap.size W w' := fun W h => by
     have h := pcheck_any N1 _ ys W h (by omega)
     rwa [btc, if_neg hbt] at h
    obtain ⟨M9, a9, l9, c9, t9, e9, hD, hM, ht, he, hOs⟩ := bdV_form N1 ys s4 e4 a3 c3 false (by simp [hbt])
    have cD : ∀ W, Rd W (w.heap.size + 1) s4 e4 → Calls Tryz.prog 115 #[.pointer (some ⟨(w.heap.size + 1), 0, none⟩), .agg #[.int .i64 N1, .slice a3 ys.length c3], .bool false] W fun e w' => e = .returned (.tuple #[.agg #[.int .i64 M9, .slice a9 l9 c9], .int .i64 t9, .int .i64 e9]) ∧ Onl (w.heap.size + 1) W w' := fun W h => by
     have h := bdone_any (w.heap.size + 1) N1 a3 ys.length c3 false s4 e4 W h
     rwa [hD] at h
    have HM := Lib.hid hM
    have HT := Lib.hid ht
    have HE := Lib.hid he
    have HO := Lib.hid hOs
    clear hbt hD hM ht he hOs
    go_region_with (first
     | (go_at_call 102; refine (cC _ (Os_of_own OW.out).1).mono ?_; rintro e V88 ⟨rfl, hb⟩; replace OX := Lib.hid (OX.out.below hb); replace OR := Lib.hid (OR.out.below hb); replace OW := Lib.hid (own_below OW.out hb); replace HB := Lib.hid (HB.out.trans (hb.mono HB.out.size)); replace R := Lib.hid (R.out.below hb); clear hb; clear x0 x1; obtain ⟨x0, x1⟩ := OX.out.1)
     | (go_at_call 115; refine (cD _ R.out).mono ?_; rintro e V99 ⟨rfl, ho⟩; replace OR := Lib.hid (OR.out.onl ho (by omega)); replace OW := Lib.hid (own_onl OW.out ho (by omega)); replace HB := Lib.hid (HB.out.trans (ho.below (by omega) HB.out.size)); clear ho; clear x0 x1; obtain ⟨⟨u0, u1⟩, uf⟩ := OR.out))
    all_goals
     go_wp2_with fail
     have hs := (OR.out.set M9 (.slice a9 l9 c9)).1
     have hbs := bel_set2 (b := w.heap.size) HB.out (Nat.le_refl _) M9 (.slice a9 l9 c9)
     have ho9 : Onl w.heap.size V99 ((V99.setCell ⟨w.heap.size, 0, none⟩ (.int .i64 M9)).setCell ⟨w.heap.size, 1, none⟩ (.slice a9 l9 c9)) := ((Onl.refl _ V99).set 0 _).set 1 _
     have hos := HO.out _ w.heap.size (own_mono (own_onl OW.out ho9 (by omega)) (by omega))
     generalize (V99.setCell ⟨w.heap.size, 0, none⟩ (.int .i64 M9)).setCell ⟨w.heap.size, 1, none⟩ (.slice a9 l9 c9) = W5 at *
     obtain ⟨s0_, s1_⟩ := hs
     exact bodyPost_ret (v := .tuple #[.agg #[.int .i64 M9, .slice a9 l9 c9], .int .i64 t9, .int .i64 e9]) (by simp [results, Tryz.results93, go_sem, s0_, s1_]) rfl ⟨.slice a9 l9 c9, by rw [HRD.out, ← HM.out, ← HT.out, ← HE.out], by rw [HRD.out]; exact hos, hbs⟩
end Go.Proofs.YtjghebcnmoojmaaGreat
