/- A batch read out of bytes: what Parse answers. No conditions. What is parsed of a batch has the same bytes, what has bytes is parsed: by the reading's own words. No conditions. Rows of bytes, one behind the other, of thousands of bytes: the reference's Both. No conditions but on lengths. -/
import Derived.Test.YtfdjaodnmjkpcaaBm3
import Derived.Test.YtfdjaodnmjkpcaaPlain
import Derived.LoopTactic
namespace Go.Proofs.Ytfdjaodnmjkpcaa
set_option maxRecDepth 100000
open Go.RowKit Go.Sort

theorem own_onl {w w' : World} {b S size n : Nat} {e : TypeId} {v : Value} {xs : List Value} (h : w.ownsRow S e size v n xs) (ho : Onl b w w') (hb : b < S) : w'.ownsRow S e size v n xs := by
  refine ⟨h.1, ?_⟩
  rcases h.2 with h2 | ⟨g, cap, cur, rfl, h3, hg, rest⟩
  · exact .inl h2
  · refine .inr ⟨g, cap, cur, rfl, h3, ?_, rest⟩
    rw [ho.block g (Array.getElem?_eq_some_iff.1 hg).1 (by omega)]; exact hg
theorem Own2.low {w w' : World} {b S : Nat} {M : Int} {v : Value} (h : Own2 w b M v) (hb : b < S) (hB : Below S w w') : Own2 w' b M v :=
  ⟨⟨(hB.cell (p := ⟨b, 0, none⟩) hb).trans h.1.1, (hB.cell (p := ⟨b, 1, none⟩) hb).trans h.1.2⟩, fun j => (hB.frozen (p := ⟨b, j, none⟩) hb).trans (h.2 j)⟩
theorem Rd.low {w w' : World} {b S : Nat} {x y : Int} (h : Rd w b x y) (hb : b < S) (hB : Below S w w') : Rd w' b x y :=
  ⟨(hB.cell (p := ⟨b, 0, none⟩) hb).trans h.1, (hB.cell (p := ⟨b, 1, none⟩) hb).trans h.2.1, fun j => (hB.frozen (p := ⟨b, j, none⟩) hb).trans (h.2.2 j)⟩
theorem Own2.allocs {w : World} {b : Nat} {M : Int} {v : Value} (h : Own2 w b M v) : ∀ O, (w.alloc O).cell? ⟨b, 1, none⟩ = some v := fun O => (h.below ((Below.refl _ _).alloc (Nat.le_refl _) O)).1.2
/-- What is told at the end, in its form. -/
theorem bdV_form (N1 : Int) (ys : List Ob) (s4 e4 : Int) (a3 : Option Addr) (c3 : Nat) (q : Bool) (hq : q = true ↔ BtOk N1 ys) : ∃ (M9 : Int) (a9 : Option Addr) (l9 c9 : Nat) (t9 e9 : Int),
    bdV e4 q N1 a3 ys.length c3 s4 = .tuple #[.agg #[.int .i64 M9, .slice a9 l9 c9], .int .i64 t9, .int .i64 e9] ∧ M9 = (bparseF N1 (ys, (s4, e4))).M ∧ t9 = (bparseF N1 (ys, (s4, e4))).to ∧ e9 = (bparseF N1 (ys, (s4, e4))).e ∧ ∀ W, Os W (.slice a3 ys.length c3) ys → Os W (.slice a9 l9 c9) (bparseF N1 (ys, (s4, e4))).ys := by
  unfold bdV bparseF
  by_cases h0 : e4 = 0
  · subst h0
    by_cases hb : BtOk N1 ys
    · obtain rfl : q = true := hq.2 hb
      rw [show needE 0 true = 0 from rfl, if_pos rfl, if_pos rfl, if_pos hb]
      exact ⟨_, _, _, _, _, _, rfl, rfl, rfl, rfl, fun W h => h⟩
    · obtain rfl : q = false := by cases q with
        | false => rfl
        | true => exact absurd (hq.1 rfl) hb
      rw [show needE 0 false = 4 from rfl, if_neg (by decide), if_pos rfl, if_neg hb]
      exact ⟨_, _, _, _, _, _, rfl, rfl, rfl, rfl, fun W h => Os_nil W⟩
  · rw [show needE e4 q = e4 by simp [needE, h0], if_neg h0, if_neg h0]
    exact ⟨_, _, _, _, _, _, rfl, rfl, rfl, rfl, fun W h => Os_nil W⟩

set_option maxHeartbeats 32000000 in
theorem bparse_any (v : Value) (k : Int) (xs : List Int) (w : World) (hv : Bs w v xs) : Calls Try.prog 18 #[v, .int .i64 k] w fun e w' => ∃ r, e = .returned (.tuple #[.agg #[.int .i64 (bparseS xs k).M, r], .int .i64 (bparseS xs k).to, .int .i64 (bparseS xs k).e]) ∧ Os w' r (bparseS xs k).ys ∧ Below w.heap.size w w' := by
  obtain ⟨a, l, c, rfl⟩ := Bs_form hv
  obtain ⟨N1, s1, e1, h1⟩ : ∃ x y z, numS xs 2 (k, 0) = (x, y, z) := ⟨_, _, _, rfl⟩
  obtain ⟨cn, s2, e2, h2⟩ : ∃ x y z, numS xs 1 (s1, e1) = (x, y, z) := ⟨_, _, _, rfl⟩
  have hcn : 0 ≤ cn ∧ cn ≤ 255 := by have := num1_bd hv.1 (s1, e1); rw [h2] at this; exact this
  obtain ⟨C, rfl⟩ : ∃ C : Nat, cn = C := ⟨cn.toNat, by omega⟩
  have he : bparseS xs k = bparseF N1 (readsO xs C (s2, needE e2 (cntOk C))) := by
    unfold bparseS
    simp only [h1, h2, Int.toNat_natCast]
  rw [he]
  clear he
  have HV := Lib.hid hv
  have c1 : ∀ V, Rd V (w.heap.size + 1) k 0 → Bs V (.slice a l c) xs → Calls Try.prog 35 #[.pointer (some ⟨(w.heap.size + 1), 0, none⟩), .slice a l c, .int .i64 2] V fun e w' => e = .returned (.int .i64 N1) ∧ Rd w' (w.heap.size + 1) s1 e1 ∧ Onl (w.heap.size + 1) V w' := fun V h hv => by
    have h := number_any (w.heap.size + 1) (.slice a l c) xs 2 k 0 V h hv
    rw [h1] at h
    exact h
  have c2 : ∀ V, Rd V (w.heap.size + 1) s1 e1 → Bs V (.slice a l c) xs → Calls Try.prog 35 #[.pointer (some ⟨(w.heap.size + 1), 0, none⟩), .slice a l c, .int .i64 1] V fun e w' => e = .returned (.int .i64 C) ∧ Rd w' (w.heap.size + 1) s2 e2 ∧ Onl (w.heap.size + 1) V w' := fun V h hv => by
    have h := number_any (w.heap.size + 1) (.slice a l c) xs 1 s1 e1 V h hv
    rw [h2] at h
    exact h
  have c3 := fun V => iscount_fix C (cntOk C) decide_eq_true_iff V
  obtain ⟨e3, he3⟩ : ∃ e3, needE e2 (cntOk C) = e3 := ⟨_, rfl⟩
  have c4 := fun V h => need_any (w.heap.size + 1) (cntOk C) s2 e2 V h
  rw [he3] at c4 ⊢
  generalize cntOk C = Q at *
  obtain ⟨st, hst⟩ : ∃ st, (s2, e3) = st := ⟨_, rfl⟩
  rw [hst]
  have HST := Lib.hid hst
  clear hv h1 h2 he3 hst
  go_enter Try.func18, Try.ntmps18
  go_wp2_with fail
  refine (new_any _ _).mono ?_
  rintro e _ ⟨rfl, rfl⟩
  go_wp2_with fail
  have OR := Lib.hid ((own2_alloc w 0 (.slice none 0 0) 24 w.heap.size rfl).below ((Below.refl _ _).alloc (Nat.le_refl _) (.cells #[.int .i64 k, .int .i64 0] 81)))
  have R := Lib.hid (rd_alloc (w.alloc (.cells #[.int .i64 0, .slice none 0 0] 24)) k (w.heap.size + 1) (by simp))
  have HB : Hid (Below w.heap.size w ((w.alloc (.cells #[.int .i64 0, .slice none 0 0] 24)).alloc (.cells #[.int .i64 k, .int .i64 0] 81))) := ((Below.refl _ w).alloc (Nat.le_refl _) _).alloc (by simp) _
  generalize ((w.alloc (.cells #[.int .i64 0, .slice none 0 0] 24)).alloc (.cells #[.int .i64 k, .int .i64 0] 81)) = V0 at *
  refine (c1 _ R.out (Bs_below HV.out HB.out)).mono ?_
  rintro e V1 ⟨rfl, hR, ho⟩
  replace OR := Lib.hid (OR.out.onl ho (by omega)); replace HB := Lib.hid (HB.out.trans (ho.below (by omega) HB.out.size)); replace R := Lib.hid hR; clear ho hR
  have HG : Hid ((w.heap.size + 1) < V1.heap.size) := World.block_lt_of_cell? V1 _ R.out.1
  go_wp2_with fail
  have OX := Lib.hid (own2_alloc V1 N1 (.slice none 0 0) 24 V1.heap.size rfl)
  have hb : Below V1.heap.size V1 (V1.alloc (.cells #[.int .i64 N1, .slice none 0 0] 24)) := (Below.refl _ V1).alloc (Nat.le_refl _) _
  replace OR := Lib.hid (OR.out.below hb); replace HB := Lib.hid (HB.out.trans (hb.mono HB.out.size)); replace R := Lib.hid (R.out.below hb); clear hb
  generalize V1.alloc (.cells #[.int .i64 N1, .slice none 0 0] 24) = V2 at *
  obtain ⟨X, hX⟩ : ∃ X, V1.heap.size = X := ⟨_, rfl⟩
  rw [hX] at HG OX
  simp only [hX]
  clear hX
  refine (c2 _ R.out (Bs_below HV.out HB.out)).mono ?_
  rintro e V3 ⟨rfl, hR, ho⟩
  replace OR := Lib.hid (OR.out.onl ho (by omega)); replace OX := Lib.hid (OX.out.onl ho (by have := HG.out; omega)); replace HB := Lib.hid (HB.out.trans (ho.below (by omega) HB.out.size)); replace R := Lib.hid hR; clear ho hR
  go_wp2_with fail
  refine (c3 _).mono ?_
  rintro e _ ⟨rfl, rfl⟩
  go_wp2_with fail
  refine (c4 _ R.out).mono ?_
  rintro e V4 ⟨rfl, hR, ho⟩
  replace OR := Lib.hid (OR.out.onl ho (by omega)); replace OX := Lib.hid (OX.out.onl ho (by have := HG.out; omega)); replace HB := Lib.hid (HB.out.trans (ho.below (by omega) HB.out.size)); replace R := Lib.hid hR; clear ho hR
  have HX : Hid (X < V4.heap.size) := OX.out.lt
  clear c1 c2 c3 c4
  go_wp2_with fail
  obtain ⟨S, hS⟩ : ∃ S, V4.heap.size = S := ⟨_, rfl⟩
  rw [hS] at HX
  have HS : Hid (S ≤ V4.heap.size) := Nat.le_of_eq hS.symm
  clear hS
  have R0 : Hid (Rd V4 (w.heap.size + 1) st.1 st.2) := by have h := HST.out; rw [← h]; exact R.out
  clear R HST
  go_loopw [24] (fun i wr => ∃ (q : Nat) (u : Value), q ≤ C ∧ i = .int .i64 q ∧ Rd wr (w.heap.size + 1) (readsO xs q st).2.1 (readsO xs q st).2.2 ∧ Own2 wr X N1 u ∧ wr.ownsRow S 52 12 u (readsO xs q st).1.length (flat (readsO xs q st).1) ∧ Own2 wr w.heap.size 0 (.slice none 0 0) ∧ Below w.heap.size w wr ∧ S ≤ wr.heap.size) (fun i _ => C - (intOf i).toNat)
  case atStart => exact ⟨0, _, Nat.zero_le _, rfl, R0.out, OX.out, ⟨rfl, .inl ⟨rfl, rfl⟩⟩, OR.out, HB.out, HS.out⟩
  case round =>
    obtain ⟨q, u, hq, rfl, hR, hX, hown, hOR, hbel, hSS⟩ := hrel
    have HL := Lib.hid (readsO_len xs st q)
    have HSU : Hid (readsO xs (q + 1) st = ((readsO xs q st).1 ++ [(nextO xs (readsO xs q st).2).ob], ((nextO xs (readsO xs q st).2).to, (nextO xs (readsO xs q st).2).e))) := rfl
    obtain ⟨⟨ys, s4, e4⟩, hrd⟩ : ∃ r, readsO xs q st = r := ⟨_, rfl⟩
    rw [hrd] at hR hown HL HSU
    simp only at hR hown HL HSU
    obtain ⟨a3, c3, rfl⟩ := own_form hown
    have R := Lib.hid hR
    have OX := Lib.hid hX
    have OW := Lib.hid hown
    have OR := Lib.hid hOR
    have HB := Lib.hid hbel
    have HS := Lib.hid hSS
    have HRD := Lib.hid hrd
    clear hR hX hown hOR hbel hSS hrd
    have hg1 : (w.heap.size + 1) < X := HG.out
    have hg2 : X < S := HX.out
    have hyl : ys.length ≤ 255 := by have := HL.out; omega
    by_cases hlt : q < C
    · obtain ⟨y, s5, e5, hO⟩ : ∃ (y : Ob) (s5 e5 : Int), nextO xs (s4, e4) = ⟨y.k, y.x, y.n, y.t, y.o, y.r, y.d, y.i, y.p, y.q, y.s, y.m, s5, e5⟩ := ⟨(nextO xs (s4, e4)).ob, (nextO xs (s4, e4)).to, (nextO xs (s4, e4)).e, rfl⟩
      have cN : Calls Try.prog 37 #[.pointer (some ⟨(w.heap.size + 1), 0, none⟩), .slice a l c, .func (Fn.func 38) #[] #[]] wr.drew fun e w' => ∃ v, e = .returned v ∧ (v = .agg #[.int .i64 y.k, .int .i64 y.x, .bool y.n, .int .i64 y.t, .int .i64 y.o, .int .i64 y.r, .int .i64 y.d, .int .i64 y.i, .int .i64 y.p, .int .i64 y.q, .int .i64 y.s, .int .i64 y.m] ∧ Rd w' (w.heap.size + 1) s5 e5 ∧ Onl (w.heap.size + 1) wr.drew w') :=
        (nexto_any (w.heap.size + 1) (.slice a l c) xs s4 e4 y.k y.x y.n y.t y.o y.r y.d y.i y.p y.q y.s y.m s5 e5 wr.drew R.out (Bs_below HV.out HB.out.drew) hO).mono fun e w' ⟨h1, h2, h3⟩ => ⟨_, h1, rfl, h2, h3⟩
      have HN : Hid (readsO xs (q + 1) st = (ys ++ [y], (s5, e5))) := by rw [HSU.out, hO]; rfl
      clear hO HSU
      have x1 := OX.out.1.2
      go_wp2_with fail
      go_region_law (first
        | (refine step_enter (by rfl) 37 _ (fun v w' => v = .agg #[.int .i64 y.k, .int .i64 y.x, .bool y.n, .int .i64 y.t, .int .i64 y.o, .int .i64 y.r, .int .i64 y.d, .int .i64 y.i, .int .i64 y.p, .int .i64 y.q, .int .i64 y.s, .int .i64 y.m] ∧ Rd w' (w.heap.size + 1) s5 e5 ∧ Onl (w.heap.size + 1) wr.drew w') (exec_call3 (by rfl) (by rfl) (by rfl) (by rfl) (by rfl) (call37 _ _)) cN ?_; rintro v w1 ⟨rfl, hR, ho⟩; clear cN; have OX1 := Lib.hid ((show Own2 wr.drew X N1 _ from OX.out).onl ho (by omega)); have OR1 := Lib.hid ((show Own2 wr.drew w.heap.size 0 _ from OR.out).onl ho (by omega)); have OW1 := Lib.hid (own_onl OW.out.drew ho (by omega)); have HB1 := Lib.hid (HB.out.drew.trans (ho.below (by omega) HB.out.drew.size)); have HS1 : Hid (S ≤ w1.heap.size) := Nat.le_trans HS.out ho.size; have R1 := Lib.hid hR; clear hR ho; have d1 := OX1.out.1.2; have d2 := OX1.out.allocs)
        | (refine step_oapp (by rfl) (.tmp 27) (.tmp 31) (by rfl) w1 y rfl S _ ys (by rfl) (by rfl) OW1.out (by omega) HS1.out ?_; intro g cap w2 hown hb; have OX2 := Lib.hid (OX1.out.low hg2 hb); have OR2 := Lib.hid (OR1.out.low (S := S) (by omega) hb); have R2 := Lib.hid (R1.out.low (S := S) (by omega) hb); have OW2 := Lib.hid hown; have HB2 := Lib.hid (HB1.out.trans (hb.mono (by omega))); have HS2 : Hid (S ≤ w2.heap.size) := Nat.le_trans HS1.out hb.size; clear hown hb; have f1 := OX2.out.1.2; have f2 := OX2.out.2))
      all_goals
        go_wp2_with fail
        have ho : Onl X w2 (w2.setCell ⟨X, 1, none⟩ (.slice (some ⟨g, 0, none⟩) (ys.length + 1) cap)) := (Onl.refl X w2).set 1 _
        have OX3 := Lib.hid (OX2.out.set1 (.slice (some ⟨g, 0, none⟩) (ys.length + 1) cap))
        have OR3 := Lib.hid (OR2.out.onl ho (by omega))
        have R3 := Lib.hid (R2.out.onl ho (by omega))
        have OW3 := Lib.hid (own_onl OW2.out ho hg2)
        have HB3 := Lib.hid (HB2.out.trans (ho.below (by omega) HB2.out.size))
        have HS3 : Hid (S ≤ (w2.setCell ⟨X, 1, none⟩ (.slice (some ⟨g, 0, none⟩) (ys.length + 1) cap)).heap.size) := Nat.le_trans HS2.out ho.size
        clear ho
        go_roundw
        case rel => exact ⟨q + 1, _, by omega, by go_num, by rw [HN.out]; exact R3.out, OX3.out, by rw [HN.out]; exact OW3.out, OR3.out, HB3.out, HS3.out⟩
        case measure => simp [intOf]; omega
    · obtain rfl : q = C := by omega
      clear HSU
      go_wp2_with fail
      replace OX : Hid (Own2 wr.drew X N1 (.slice a3 ys.length c3)) := OX.out
      replace OR : Hid (Own2 wr.drew w.heap.size 0 (.slice none 0 0)) := OR.out
      replace R : Hid (Rd wr.drew (w.heap.size + 1) s4 e4) := R.out
      replace OW : Hid (wr.drew.ownsRow S 52 12 (.slice a3 ys.length c3) ys.length (flat ys)) := OW.out
      replace HB : Hid (Below w.heap.size w wr.drew) := HB.out.drew
      obtain ⟨x0, x1⟩ := (show Own2 wr X N1 (.slice a3 ys.length c3) from OX.out).1
      by_cases hbt : BtOk N1 ys
      · skip
        have cC : ∀ W, Os W (.slice a3 ys.length c3) ys → Calls Try.prog 12 #[.agg #[.int .i64 N1, .slice a3 ys.length c3]] W fun e w' => e = .returned (.int .i64 0) ∧ Below W.heap.size W w' := fun W h => by
          have h := pcheck_any N1 _ ys W h (by omega)
          rwa [btc, if_pos hbt] at h
        obtain ⟨M9, a9, l9, c9, t9, e9, hD, hM, ht, he, hOs⟩ := bdV_form N1 ys s4 e4 a3 c3 true (by simp [hbt])
        have cD : ∀ W, Rd W (w.heap.size + 1) s4 e4 → Calls Try.prog 39 #[.pointer (some ⟨(w.heap.size + 1), 0, none⟩), .agg #[.int .i64 N1, .slice a3 ys.length c3], .bool true] W fun e w' => e = .returned (.tuple #[.agg #[.int .i64 M9, .slice a9 l9 c9], .int .i64 t9, .int .i64 e9]) ∧ Onl (w.heap.size + 1) W w' := fun W h => by
          have h := bdone_any (w.heap.size + 1) N1 a3 ys.length c3 true s4 e4 W h
          rwa [hD] at h
        have HM := Lib.hid hM
        have HT := Lib.hid ht
        have HE := Lib.hid he
        have HO := Lib.hid hOs
        clear hbt hD hM ht he hOs
        go_region_with (first
          | (go_at_call 12; refine (cC _ (Os_of_own OW.out).1).mono ?_; rintro e V88 ⟨rfl, hb⟩; replace OX := Lib.hid (OX.out.below hb); replace OR := Lib.hid (OR.out.below hb); replace OW := Lib.hid (own_below OW.out hb); replace HB := Lib.hid (HB.out.trans (hb.mono HB.out.size)); replace R := Lib.hid (R.out.below hb); clear hb; clear x0 x1; obtain ⟨x0, x1⟩ := OX.out.1)
          | (go_at_call 39; refine (cD _ R.out).mono ?_; rintro e V99 ⟨rfl, ho⟩; replace OR := Lib.hid (OR.out.onl ho (by omega)); replace OW := Lib.hid (own_onl OW.out ho (by omega)); replace HB := Lib.hid (HB.out.trans (ho.below (by omega) HB.out.size)); clear ho; clear x0 x1; obtain ⟨⟨u0, u1⟩, uf⟩ := OR.out))
        all_goals
          go_wp2_with fail
          have hs := (OR.out.set M9 (.slice a9 l9 c9)).1
          have hbs := bel_set2 (b := w.heap.size) HB.out (Nat.le_refl _) M9 (.slice a9 l9 c9)
          have ho9 : Onl w.heap.size V99 ((V99.setCell ⟨w.heap.size, 0, none⟩ (.int .i64 M9)).setCell ⟨w.heap.size, 1, none⟩ (.slice a9 l9 c9)) := ((Onl.refl _ V99).set 0 _).set 1 _
          have hos := HO.out _ (Os_of_own (own_onl OW.out ho9 (by omega))).1
          generalize (V99.setCell ⟨w.heap.size, 0, none⟩ (.int .i64 M9)).setCell ⟨w.heap.size, 1, none⟩ (.slice a9 l9 c9) = W5 at *
          obtain ⟨s0_, s1_⟩ := hs
          exact bodyPost_ret (v := .tuple #[.agg #[.int .i64 M9, .slice a9 l9 c9], .int .i64 t9, .int .i64 e9]) (by simp [results, Try.results18, go_sem, s0_, s1_]) rfl ⟨.slice a9 l9 c9, by rw [HRD.out, ← HM.out, ← HT.out, ← HE.out], by rw [HRD.out]; exact hos, hbs⟩
      · skip
        have cC : ∀ W, Os W (.slice a3 ys.length c3) ys → Calls Try.prog 12 #[.agg #[.int .i64 N1, .slice a3 ys.length c3]] W fun e w' => e = .returned (.int .i64 1) ∧ Below W.heap.size W w' := fun W h => by
          have h := pcheck_any N1 _ ys W h (by omega)
          rwa [btc, if_neg hbt] at h
        obtain ⟨M9, a9, l9, c9, t9, e9, hD, hM, ht, he, hOs⟩ := bdV_form N1 ys s4 e4 a3 c3 false (by simp [hbt])
        have cD : ∀ W, Rd W (w.heap.size + 1) s4 e4 → Calls Try.prog 39 #[.pointer (some ⟨(w.heap.size + 1), 0, none⟩), .agg #[.int .i64 N1, .slice a3 ys.length c3], .bool false] W fun e w' => e = .returned (.tuple #[.agg #[.int .i64 M9, .slice a9 l9 c9], .int .i64 t9, .int .i64 e9]) ∧ Onl (w.heap.size + 1) W w' := fun W h => by
          have h := bdone_any (w.heap.size + 1) N1 a3 ys.length c3 false s4 e4 W h
          rwa [hD] at h
        have HM := Lib.hid hM
        have HT := Lib.hid ht
        have HE := Lib.hid he
        have HO := Lib.hid hOs
        clear hbt hD hM ht he hOs
        go_region_with (first
          | (go_at_call 12; refine (cC _ (Os_of_own OW.out).1).mono ?_; rintro e V88 ⟨rfl, hb⟩; replace OX := Lib.hid (OX.out.below hb); replace OR := Lib.hid (OR.out.below hb); replace OW := Lib.hid (own_below OW.out hb); replace HB := Lib.hid (HB.out.trans (hb.mono HB.out.size)); replace R := Lib.hid (R.out.below hb); clear hb; clear x0 x1; obtain ⟨x0, x1⟩ := OX.out.1)
          | (go_at_call 39; refine (cD _ R.out).mono ?_; rintro e V99 ⟨rfl, ho⟩; replace OR := Lib.hid (OR.out.onl ho (by omega)); replace OW := Lib.hid (own_onl OW.out ho (by omega)); replace HB := Lib.hid (HB.out.trans (ho.below (by omega) HB.out.size)); clear ho; clear x0 x1; obtain ⟨⟨u0, u1⟩, uf⟩ := OR.out))
        all_goals
          go_wp2_with fail
          have hs := (OR.out.set M9 (.slice a9 l9 c9)).1
          have hbs := bel_set2 (b := w.heap.size) HB.out (Nat.le_refl _) M9 (.slice a9 l9 c9)
          have ho9 : Onl w.heap.size V99 ((V99.setCell ⟨w.heap.size, 0, none⟩ (.int .i64 M9)).setCell ⟨w.heap.size, 1, none⟩ (.slice a9 l9 c9)) := ((Onl.refl _ V99).set 0 _).set 1 _
          have hos := HO.out _ (Os_of_own (own_onl OW.out ho9 (by omega))).1
          generalize (V99.setCell ⟨w.heap.size, 0, none⟩ (.int .i64 M9)).setCell ⟨w.heap.size, 1, none⟩ (.slice a9 l9 c9) = W5 at *
          obtain ⟨s0_, s1_⟩ := hs
          exact bodyPost_ret (v := .tuple #[.agg #[.int .i64 M9, .slice a9 l9 c9], .int .i64 t9, .int .i64 e9]) (by simp [results, Try.results18, go_sem, s0_, s1_]) rfl ⟨.slice a9 l9 c9, by rw [HRD.out, ← HM.out, ← HT.out, ← HE.out], by rw [HRD.out]; exact hos, hbs⟩
#print axioms bparse_any
end Go.Proofs.Ytfdjaodnmjkpcaa

namespace Go.Proofs.Ytfdjaodnmjkpcaa
set_option maxRecDepth 100000
open Go.RowKit Go.Sort

/-- An object that is parsed somewhere has just the bytes that it was read from. -/
theorem oparse_inv_at (xs : List Int) (hx : ∀ x ∈ xs, 0 ≤ x ∧ x < 256) (K : Nat) (O : OP) (hO : oparseS xs (K : Int) = O) (he : O.e = 0) :
    ObOk O.k O.x O.n O.t O.o O.r O.d O.i O.p O.q O.s O.m ∧ ∃ T : Nat, O.to = ((K + T : Nat) : Int) ∧ 2 ≤ T ∧ K + T ≤ xs.length ∧ (xs.drop K).take T = obB O.k O.x O.n O.t O.o O.r O.d O.i O.p O.q O.s O.m := by
  obtain ⟨k1, s1, e1, h1⟩ : ∃ x y z, shortS xs ((K : Int), 0) = (x, y, z) := ⟨_, _, _, rfl⟩
  obtain ⟨x, s2, e2, h2⟩ : ∃ x y z, shortS xs (s1, e1) = (x, y, z) := ⟨_, _, _, rfl⟩
  by_cases hk : kn k1 = true
  · have e : O = oparseD xs k1 (x, s2, e2) := by rw [← hO]; unfold oparseS; simp only [h1]; rw [if_pos hk, h2]
    have pos : e2 = 0 → e1 = 0 ∧ K + 1 < xs.length ∧ k1 = xs.getD K 0 ∧ x = xs.getD (K + 1) 0 ∧ s2 = ((K + 2 : Nat) : Int) := by
      intro z2
      subst z2
      have z1 := short_pos h2
      simp only [] at z1
      subst z1
      obtain ⟨-, l1, v1, rfl⟩ := short_inv h1
      rw [show ((K : Int) + 1) = ((K + 1 : Nat) : Int) by omega] at h2
      obtain ⟨-, l2, v2, rfl⟩ := short_inv h2
      exact ⟨rfl, l2, v1, v2, by omega⟩
    have two : K + 1 < xs.length → (xs.drop K).take 2 = [xs.getD K 0, xs.getD (K + 1) 0] := fun h => take_two xs K h
    have hk4 : k1 = 1 ∨ k1 = 2 ∨ k1 = 3 ∨ k1 = 4 := by
      simp only [kn, Bool.or_eq_true, beq_iff_eq] at hk; exact hk
    clear hk hO
    rcases hk4 with rfl | rfl | rfl | rfl
    · have e' : O = oparseF 1 x false 0 0 0 0 0 0 0 0 0 (s2, e2) := by rw [e]; unfold oparseD; rw [if_pos rfl]
      obtain ⟨z2, hq, rfl⟩ := oparseF_inv e' he
      simp only [] at z2
      obtain ⟨-, l1, v1, v2, rfl⟩ := pos z2
      refine ⟨hq, 2, rfl, by omega, by omega, ?_⟩
      rw [obB_1, two l1, ← v1, ← v2]
    · obtain ⟨P, hP⟩ : ∃ P, nextP xs (s2, e2) = P := ⟨_, rfl⟩
      have e' : O = oparseF 2 x P.n P.t P.o P.r P.d P.i 0 0 0 0 (P.to, P.e) := by rw [e]; unfold oparseD; rw [if_neg (by decide), if_pos rfl]; simp only [hP]; rfl
      obtain ⟨zp, hq, rfl⟩ := oparseF_inv e' he
      simp only [] at zp
      have z2 : e2 = 0 := by
        by_cases z : e2 = 0
        · exact z
        · rw [nextP, if_neg z] at hP; rw [← hP] at zp; exact zp
      obtain ⟨-, l1, v1, v2, rfl⟩ := pos z2
      subst z2
      rw [nextP, if_pos rfl] at hP
      obtain ⟨-, T, hT, hl, hb⟩ := parse_inv_at xs hx (K + 2) P hP zp
      refine ⟨hq, 2 + T, by simp only []; rw [hT]; omega, by omega, by omega, ?_⟩
      rw [obB_2, List.take_add, List.drop_drop, two l1, hb, ← v1, ← v2]
    · obtain ⟨p, s3, e3, h3⟩ : ∃ x y z, longS xs (s2, e2) = (x, y, z) := ⟨_, _, _, rfl⟩
      obtain ⟨q, s4, e4, h4⟩ : ∃ x y z, shortS xs (s3, e3) = (x, y, z) := ⟨_, _, _, rfl⟩
      obtain ⟨s, s5, e5, h5⟩ : ∃ x y z, shortS xs (s4, e4) = (x, y, z) := ⟨_, _, _, rfl⟩
      have e' : O = oparseF 3 x false 0 0 0 0 0 p q s 0 (s5, e5) := by rw [e]; unfold oparseD; rw [if_neg (by decide), if_neg (by decide), if_pos rfl]; simp only [h3, h4, h5]; rfl
      obtain ⟨z5, hq, rfl⟩ := oparseF_inv e' he
      simp only [] at z5
      subst z5
      have z4 := short_pos h5
      simp only [] at z4
      subst z4
      have z3 := short_pos h4
      simp only [] at z3
      subst z3
      have z2 := long_pos h3
      simp only [] at z2
      obtain ⟨-, l1, v1, v2, rfl⟩ := pos z2
      subst z2
      obtain ⟨-, l3, v3, rfl⟩ := long_inv h3
      rw [show (((K + 2 : Nat) : Int) + 8) = ((K + 10 : Nat) : Int) by omega] at h4
      obtain ⟨-, l4, v4, rfl⟩ := short_inv h4
      rw [show (((K + 10 : Nat) : Int) + 1) = ((K + 11 : Nat) : Int) by omega] at h5
      obtain ⟨-, l5, v5, rfl⟩ := short_inv h5
      refine ⟨hq, 12, by simp only []; omega, by omega, by omega, ?_⟩
      have b3 := seg_eight hx l3
      have b4 := take_two xs (K + 10) (by omega)
      rw [obB_3, show 12 = 2 + (8 + 2) from rfl, List.take_add, List.take_add, List.drop_drop, List.drop_drop, two l1, show K + (2 + 8) = K + 10 by omega, b4, ← b3, ← v1, ← v2, ← v3, ← v4, ← v5]
      simp
    · obtain ⟨P, hP⟩ : ∃ P, nextP xs (s2, e2) = P := ⟨_, rfl⟩
      obtain ⟨m, s4, e4, h4⟩ : ∃ x y z, numS xs 2 (P.to, P.e) = (x, y, z) := ⟨_, _, _, rfl⟩
      have e' : O = oparseF 4 x P.n P.t P.o P.r P.d P.i 0 0 0 m (s4, e4) := by rw [e]; unfold oparseD; rw [if_neg (by decide), if_neg (by decide), if_neg (by decide)]; simp only [hP]; unfold oparse4; simp only [h4]
      obtain ⟨z4, hq, rfl⟩ := oparseF_inv e' he
      simp only [] at z4
      subst z4
      have zp : P.e = 0 := by
        by_cases z : P.e = 0
        · exact z
        · rw [numS, if_neg z] at h4
          simp only [Prod.mk.injEq] at h4
          exact h4.2.2
      have z2 : e2 = 0 := by
        by_cases z : e2 = 0
        · exact z
        · rw [nextP, if_neg z] at hP; rw [← hP] at zp; exact zp
      obtain ⟨-, l1, v1, v2, rfl⟩ := pos z2
      subst z2
      rw [nextP, if_pos rfl] at hP
      obtain ⟨-, T, hT, hl, hb⟩ := parse_inv_at xs hx (K + 2) P hP zp
      rw [hT] at h4
      obtain ⟨-, l4, v4, rfl⟩ := num2_inv h4
      obtain ⟨-, bm⟩ := seg_two hx l4
      refine ⟨hq, 2 + T + 2, by simp only []; omega, by omega, by omega, ?_⟩
      rw [obB_4, List.take_add, List.take_add, List.drop_drop, List.drop_drop, two l1, hb, show K + (2 + T) = K + 2 + T by omega, bm, ← v1, ← v2, ← v4]
  · have e : O = .no (needE e1 false) := by rw [← hO]; unfold oparseS; simp only [h1]; rw [if_neg hk]
    subst e
    have : needE e1 false ≠ 0 := by unfold needE; by_cases h : e1 = 0 <;> simp [h]
    exact (this he).elim

theorem nextO_pos {xs : List Int} {u : Int × Int} (h : (nextO xs u).e = 0) : u.2 = 0 ∧ oparseS xs u.1 = nextO xs u := by
  by_cases he : u.2 = 0
  · exact ⟨he, by rw [nextO, if_pos he]⟩
  · rw [nextO, if_neg he] at h; exact absurd h he
/-- Objects that are read one behind the other have just the bytes that they were read from. -/
theorem reads_inv (xs : List Int) (hx : ∀ x ∈ xs, 0 ≤ x ∧ x < 256) (K : Nat) (e : Int) : ∀ n, (readsO xs n ((K : Int), e)).2.2 = 0 →
    e = 0 ∧ AllOk (readsO xs n ((K : Int), e)).1 ∧ ∃ T : Nat, (readsO xs n ((K : Int), e)).2.1 = ((K + T : Nat) : Int) ∧ 2 * n ≤ T ∧ (0 < n → K + T ≤ xs.length) ∧ (xs.drop K).take T = ((readsO xs n ((K : Int), e)).1.map Ob.bs).flatten
  | 0, h => ⟨h, fun i hi => by simp [readsO] at hi, 0, by simp [readsO], by omega, by omega, by simp [readsO]⟩
  | n + 1, h => by
    rw [readsO] at h ⊢
    simp only at h ⊢
    obtain ⟨h1, h2⟩ := nextO_pos h
    obtain ⟨i1, i2, T, i3, i4, i5, i6⟩ := reads_inv xs hx K e n h1
    generalize readsO xs n ((K : Int), e) = r at *
    rw [i3] at h2
    obtain ⟨j1, T', j2, j3, j4, j5⟩ := oparse_inv_at xs hx (K + T) _ h2 h
    generalize nextO xs r.2 = O at *
    refine ⟨i1, fun i hi => ?_, T + T', by rw [j2]; congr 1; omega, by omega, fun _ => by omega, ?_⟩
    · by_cases hl : i < r.1.length
      · rw [show (r.1 ++ [O.ob]).getD i z12 = r.1.getD i z12 by simp [List.getD, List.getElem?_append, hl]]
        exact i2 i hl
      · have : i = r.1.length := by simp at hi; omega
        subst this
        rw [show (r.1 ++ [O.ob]).getD r.1.length z12 = O.ob by simp [List.getD]]
        exact j1
    · rw [List.take_add, List.drop_drop, i6, j5, List.map_append, List.flatten_append]
      congr 1
      simp only [List.map_cons, List.map_nil, List.flatten_cons, List.flatten_nil, List.append_nil]
      exact (if_pos j1).symm
theorem num_one (xs : List Int) (u : Int × Int) : numS xs 1 u = shortS xs u := rfl
/-- What is parsed at the beginning is right, and has just the bytes that it was read from. -/
theorem bparse_inv (xs : List Int) (hx : ∀ x ∈ xs, 0 ≤ x ∧ x < 256) (B : BP) (hB : bparseS xs 0 = B) (he : B.e = 0) :
    BtOk B.M B.ys ∧ ∃ T : Nat, B.to = (T : Int) ∧ 5 ≤ T ∧ T ≤ xs.length ∧ xs.take T = btB B.M B.ys := by
  obtain ⟨M, s1, e1, h1⟩ : ∃ x y z, numS xs 2 (((0 : Nat) : Int), 0) = (x, y, z) := ⟨_, _, _, rfl⟩
  have h1' : numS xs 2 (0, 0) = (M, s1, e1) := h1
  obtain ⟨cn, s2, e2, h2⟩ : ∃ x y z, numS xs 1 (s1, e1) = (x, y, z) := ⟨_, _, _, rfl⟩
  have hcn : 0 ≤ cn ∧ cn ≤ 255 := by have := num1_bd hx (s1, e1); rw [h2] at this; exact this
  have e : B = bparseF M (readsO xs cn.toNat (s2, needE e2 (cntOk cn))) := by rw [← hB]; unfold bparseS; simp only [h1', h2]
  clear hB
  have hlen := readsO_len xs (s2, needE e2 (cntOk cn)) cn.toNat
  obtain ⟨e3, he3⟩ : ∃ e3, needE e2 (cntOk cn) = e3 := ⟨_, rfl⟩
  rw [he3] at e hlen
  have key : (readsO xs cn.toNat (s2, e3)).2.2 = 0 ∧ BtOk M (readsO xs cn.toNat (s2, e3)).1 ∧ B = ⟨M, (readsO xs cn.toNat (s2, e3)).1, (readsO xs cn.toNat (s2, e3)).2.1, 0⟩ := by
    subst e
    unfold bparseF at he ⊢
    by_cases h0 : (readsO xs cn.toNat (s2, e3)).2.2 = 0
    · rw [if_pos h0] at he ⊢
      by_cases hb : BtOk M (readsO xs cn.toNat (s2, e3)).1
      · rw [if_pos hb]; exact ⟨h0, hb, rfl⟩
      · rw [if_neg hb] at he; cases he
    · rw [if_neg h0] at he; exact (h0 he).elim
  obtain ⟨k1, k2, rfl⟩ := key
  have hpos : ∀ n, (readsO xs n (s2, e3)).2.2 = 0 → e3 = 0 := fun n => by
    induction n with
    | zero => exact id
    | succ n ih =>
      intro h
      rw [readsO] at h
      exact ih (nextO_pos h).1
  have z3 : e3 = 0 := hpos _ k1
  subst z3
  have z2 : e2 = 0 := by unfold needE at he3; split at he3 <;> omega
  subst z2
  rw [num_one] at h2
  have z1 := short_pos h2
  simp only [] at z1
  subst z1
  obtain ⟨-, l1, v1, rfl⟩ := num2_inv h1
  rw [show (((0 : Nat) : Int) + 2) = ((2 : Nat) : Int) by omega] at h2
  obtain ⟨-, l2, v2, rfl⟩ := short_inv h2
  rw [show (((2 : Nat) : Int) + 1) = ((3 : Nat) : Int) by omega] at k1 k2 hlen ⊢
  obtain ⟨-, -, T, i3, i4, i5, i6⟩ := reads_inv xs hx 3 0 cn.toNat k1
  have hc1 : 1 ≤ cn.toNat := by have := k2.2.1.1; omega
  refine ⟨k2, 3 + T, i3, by omega, i5 (by omega), ?_⟩
  obtain ⟨-, b1⟩ := seg_two hx l1
  have b2 := take_one xs 2 l2
  rw [← v1, List.drop_zero] at b1
  rw [show 3 + T = 2 + (1 + T) by omega, List.take_add, List.take_add, List.drop_drop, b1, b2, ← v2, i6]
  unfold btB
  rw [hlen, Int.toNat_of_nonneg hcn.1]
  simp

/-- Objects behind one another are read as themselves. -/
theorem reads_fwd (f M : List Int) (ys : List Ob) (hok : AllOk ys) (K : Nat) (hK : K = f.length) : ∀ n, n ≤ ys.length →
    readsO (f ++ ((ys.map Ob.bs).flatten ++ M)) n ((K : Int), 0) = (ys.take n, (((K + osz (ys.take n) : Nat) : Int), 0))
  | 0, _ => by simp [readsO, osz]
  | n + 1, h => by
    rw [readsO, reads_fwd f M ys hok K hK n (by omega)]
    simp only []
    have hq := hok n (by omega)
    have h1 := flat_bs ys n (by omega)
    have h2 := osz_succ ys n (by omega)
    have h3 : ys.take (n + 1) = ys.take n ++ [ys.getD n z12] := by
      rw [List.take_succ_eq_append_getElem (by omega)]
      simp [List.getD, show n < ys.length by omega]
    have e : f ++ ((ys.map Ob.bs).flatten ++ M) = (f ++ ((ys.take n).map Ob.bs).flatten) ++ ((ys.getD n z12).bs ++ (((ys.drop (n + 1)).map Ob.bs).flatten ++ M)) := by
      have h4 : (ys.map Ob.bs).flatten = ((ys.take (n + 1)).map Ob.bs).flatten ++ ((ys.drop (n + 1)).map Ob.bs).flatten := by
        rw [← List.flatten_append, ← List.map_append, List.take_append_drop]
      rw [h4, h1]
      simp
    have hl : (f ++ ((ys.take n).map Ob.bs).flatten).length = K + osz (ys.take n) := by rw [List.length_append, bs_flat_len, hK]
    generalize ys.getD n z12 = y at *
    have hb : y.bs = obB y.k y.x y.n y.t y.o y.r y.d y.i y.p y.q y.s y.m := if_pos hq
    have hf := oparse_fwd (f ++ ((ys.take n).map Ob.bs).flatten) (((ys.drop (n + 1)).map Ob.bs).flatten ++ M) (show ObOk y.k y.x y.n y.t y.o y.r y.d y.i y.p y.q y.s y.m from hq)
    rw [← hb, ← e, hl] at hf
    rw [nextO, if_pos rfl]
    simp only []
    rw [hf, h3, osz_app]
    simp only [OP.ob, Prod.mk.injEq, true_and, and_true]
    simp [osz]
    omega
/-- What has bytes is parsed as itself, wherever it stands. -/
theorem bparse_fwd (f M : List Int) (N : Int) (ys : List Ob) (h : BtOk N ys) : bparseS (f ++ (btB N ys ++ M)) f.length = ⟨N, ys, (f.length : Int) + ((btB N ys).length : Int), 0⟩ := by
  have hN : 0 ≤ N ∧ N ≤ 65535 := h.1
  have ok : PutOk N 2 := ⟨by decide, by decide, hN.1, by rw [show pow256 (2 : Int).toNat = 65536 by decide]; omega⟩
  have g1 := back_get f ((ys.length : Int) :: ((ys.map Ob.bs).flatten ++ M)) ok
  rw [putB, if_pos ok, show (2 : Int).toNat = 2 from rfl, lo_two hN] at g1
  have e1 : f ++ (btB N ys ++ M) = f ++ ([N / 256, N % 256] ++ ((ys.length : Int) :: ((ys.map Ob.bs).flatten ++ M))) := by unfold btB; simp
  have e2 : f ++ (btB N ys ++ M) = (f ++ [N / 256, N % 256]) ++ ((ys.length : Int) :: ((ys.map Ob.bs).flatten ++ M)) := by unfold btB; simp
  have e3 : f ++ (btB N ys ++ M) = (f ++ [N / 256, N % 256, (ys.length : Int)]) ++ ((ys.map Ob.bs).flatten ++ M) := by unfold btB; simp
  have g2 := short_mid (f ++ [N / 256, N % 256]) ((ys.map Ob.bs).flatten ++ M) (ys.length : Int) (f.length + 2) (by simp)
  have g3 := reads_fwd (f ++ [N / 256, N % 256, (ys.length : Int)]) M ys h.2.2.1 (f.length + 3) (by simp) ys.length (Nat.le_refl _)
  rw [← e1] at g1
  rw [← e2] at g2
  rw [← e3, List.take_length] at g3
  have hlen : (btB N ys).length = 3 + osz ys := by unfold btB; rw [List.length_append, bs_flat_len]; rfl
  have c1 : numS (f ++ (btB N ys ++ M)) 2 ((f.length : Int), 0) = (N, ((f.length + 2 : Nat) : Int), 0) := by
    unfold numS
    rw [if_pos rfl]
    simp only []
    rw [g1]
    simp
  have hq : cntOk (ys.length : Int) = true := by unfold cntOk; have := h.2.1; rw [decide_eq_true (by omega)]
  unfold bparseS
  simp only [c1]
  rw [num_one, g2]
  simp only []
  rw [hq, show needE 0 true = 0 from rfl, Int.toNat_natCast, show (((f.length + 2 : Nat) : Int) + 1) = ((f.length + 3 : Nat) : Int) by omega, g3]
  unfold bparseF
  simp only [if_true]
  rw [if_pos h, hlen]
  congr 1
  omega
#print axioms bparse_inv
#print axioms bparse_fwd
end Go.Proofs.Ytfdjaodnmjkpcaa

namespace Go.Proofs.Ytfdjaodnmjkpcaa
set_option maxRecDepth 100000
open Go.RowKit

set_option maxHeartbeats 1000000 in
theorem both_big (g : Nat) (vs : List Value) (xss : List (List Int)) (w : World) (hl : vs.length = xss.length)
    (hcell : ∀ i, i < vs.length → w.cell? ⟨g, i, none⟩ = some (vs.getD i undef)) (hb : ∀ i, i < vs.length → Bs w (vs.getD i undef) (xss.getD i [])) (tot : xss.flatten.length ≤ 5000) (h9 : vs.length ≤ 9) :
    Calls Try.prog 19 #[.slice (some ⟨g, 0, none⟩) vs.length vs.length] w (RetOwn xss.flatten w) := by
  obtain ⟨i0, hi, hz0, hz1, hz2⟩ := info_parts Try.info5
  have hbytes := Lib.hid (fun i (hi : i < vs.length) => (hb i hi).1)
  have hl' : vs.length ≤ xss.length := by omega
  have HL := Lib.hid hl
  clear hl
  go_enter Try.func19, Try.ntmps19
  go_wp2
  go_loopw [3, 4] (fun v i wr => ∃ k : Nat, k ≤ vs.length ∧ i = .int .i64 k ∧ wr.ownsRow w.heap.size 5 1 v (xss.take k).flatten.length ((xss.take k).flatten.map (Value.int .u8)) ∧ Below w.heap.size w wr) (fun _ i _ => vs.length - (intOf i).toNat)
  case atStart => exact ⟨0, Nat.zero_le _, rfl, World.ownsRow_nil _ _ _ _, Below.refl _ _⟩
  case round =>
    obtain ⟨k, hk, rfl, hown, hbel⟩ := hrel
    by_cases hlt : k < vs.length
    · have hc := hcell k hlt
      have hc1 : wr.cell? ⟨g, k, none⟩ = some (vs.getD k undef) := by rw [hbel.cell (World.block_lt_of_cell? w _ hc)]; exact hc
      have hB := Bs_below (hb k hlt) hbel
      have hbs : w.heap.size ≤ wr.heap.size := hbel.size
      have hb2 := Lib.hid hbel
      have hfs := Lib.hid (flat_step xss k (by omega))
      have hle := flat_le xss (k + 1)
      rw [hfs.out, List.length_append] at hle
      clear hcell hb hc hbel
      generalize vs.getD k undef = vk at *
      generalize xss.getD k [] = xk at *
      obtain ⟨_, _, ⟨a, cap, rfl, hz, rfl⟩ | ⟨b, off, cap, rfl, hcap, hcs⟩⟩ := hB
      · have ho := Lib.hid hown
        clear hown
        cases a with
        | none =>
          obtain rfl : cap = 0 := hz rfl
          clear hz
          go_wp2_with (at_builtin; go_must (refine wpList_append_own_none rfl (.tmp 11) (.tmp 15) 26 rfl w.heap.size 5 i0 1 Try.underlying26 hi _ _ _ rfl ho.out rfl ?_))
          go_roundw
          case rel => exact ⟨k + 1, by omega, by go_num, by rw [hfs.out, List.append_nil]; exact ho.out, hb2.out⟩
          case measure => simp [intOf]; omega
        | some x =>
          clear hz
          go_wp2_with (at_builtin; go_must (refine wpList_append_own _ rfl (.tmp 11) (.tmp 15) 26 rfl w.heap.size 5 i0 (.int .u8 0) 1 1 Try.underlying26 hi hz0 hz1 hz2 rfl (by decide) _ _ _ rfl ho.out x 0 cap [] rfl (by simp) (by simp) (by simp) (by unfold maxLen; omega) (by omega) hbs ?_); intro v' w1 hown1 hgrow _)
          go_roundw
          case rel => exact ⟨k + 1, by omega, by go_num, by rw [hfs.out, List.append_nil]; simpa using hown1, hb2.out.grown hgrow hbs (fun k hk => (ho.out.lt k hk).1)⟩
          case measure => simp [intOf]; omega
      · have ho := Lib.hid hown
        have hnews := Lib.hid (news_of hcs)
        clear hown hcs
        go_wp2_with (at_builtin; go_must (refine wpList_append_own _ rfl (.tmp 11) (.tmp 15) 26 rfl w.heap.size 5 i0 (.int .u8 0) 1 1 Try.underlying26 hi hz0 hz1 hz2 rfl (by decide) _ _ _ rfl ho.out ⟨b, off, none⟩ xk.length cap (xk.map (Value.int .u8)) rfl (by simp) hnews.out (ones xk) (by unfold maxLen; omega) (by omega) hbs ?_); intro v' w1 hown1 hgrow _)
        go_roundw
        case rel => exact ⟨k + 1, by omega, by go_num, by rw [hfs.out, List.length_append, List.map_append]; exact hown1, hb2.out.grown hgrow hbs (fun k hk => (ho.out.lt k hk).1)⟩
        case measure => simp [intOf]; omega
    · obtain rfl : k = vs.length := by omega
      have ho := Lib.hid hown
      have hb2 := Lib.hid hbel
      clear hown hbel hcell
      go_wp2
      go_ret
      refine ⟨_, rfl, ?_, ?_, hb2.out⟩
      · have hr := ho.out
        have hl := HL.out
        rw [hl, List.take_length] at hr
        exact hr
      have hl := HL.out
      intro x hx
      obtain ⟨l, hl1, hl2⟩ := List.mem_flatten.1 hx
      obtain ⟨i, hi1, rfl⟩ := List.mem_iff_getElem.1 hl1
      have := hbytes.out i (by omega)
      simp only [List.getD, hi1, List.getElem?_eq_getElem, Option.getD_some] at this
      exact this x hl2
theorem both3_big {w : World} {v1 v2 v3 : Value} {x1 x2 x3 : List Int} (h1 : Bs w v1 x1) (h2 : Bs w v2 x2) (h3 : Bs w v3 x3) (T : TypeId) (tot : x1.length + x2.length + x3.length ≤ 5000) :
    Calls Try.prog 19 #[.slice (some ⟨w.heap.size, 0, none⟩) 3 3] (w.alloc (.cells #[v1, v2, v3] T)) (RetOwn (x1 ++ (x2 ++ x3)) (w.alloc (.cells #[v1, v2, v3] T))) := by
  have h := both_big w.heap.size [v1, v2, v3] [x1, x2, x3] (w.alloc (.cells #[v1, v2, v3] T)) rfl (cell_lit w [v1, v2, v3] T) (fun i hi => by
    have : i = 0 ∨ i = 1 ∨ i = 2 := by simp at hi; omega
    rcases this with rfl | rfl | rfl
    · exact Bs_alloc h1 _
    · exact Bs_alloc h2 _
    · exact Bs_alloc h3 _) (by simp; omega) (by simp)
  simpa using h
#print axioms both3_big
end Go.Proofs.Ytfdjaodnmjkpcaa
