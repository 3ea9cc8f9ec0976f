/- An object read out of bytes: the walk. No conditions. -/
import Derived.Test.YtjghebcnmoojmaaGreatU18
namespace Go.Proofs.YtjghebcnmoojmaaGreat
set_option maxRecDepth 100000
open Go.RowKit Go.Sort

set_option maxHeartbeats 16000000 in
theorem po4_0 (a : Option Addr) (l c : Nat) (at' : Int) (xs : List Int) (w : World) (hv0 : Bs w (.slice a l c) xs) (n : Bool) (s1 e1 x s2 e2 t o r d i s3 e3 m s4 e4 : Int) (hc1 : shortS xs (at', 0) = (4, s1, e1)) (hc2 : shortS xs (s1, e1) = (x, s2, e2)) (hc3 : nextP xs (s2, e2) = ⟨n, t, o, r, d, i, s3, e3⟩) (hc4 : numS xs 2 (s3, e3) = (m, s4, e4)) (k9 x9 t9 o9 r9 d9 i9 p9 q9 s9 m9 to9 e9 : Int) (n9 : Bool)
  (cC : ∀ W, Calls Tryz.prog 130 #[.agg #[.int .i64 4, .int .i64 x, .bool n, .int .i64 t, .int .i64 o, .int .i64 r, .int .i64 d, .int .i64 i, .int .i64 0, .int .i64 0, .int .i64 0, .int .i64 m]] W fun e w' => e = .returned (.int .i64 0) ∧ Below W.heap.size W w')
  (D : ∀ W, Rd W (w.heap.size + 1) s4 e4 → Calls Tryz.prog 141 #[.pointer (some ⟨(w.heap.size + 1), 0, none⟩), .agg #[.int .i64 4, .int .i64 x, .bool n, .int .i64 t, .int .i64 o, .int .i64 r, .int .i64 d, .int .i64 i, .int .i64 0, .int .i64 0, .int .i64 0, .int .i64 m], .bool true] W fun e w' => e = .returned (.tuple #[.agg #[.int .i64 k9, .int .i64 x9, .bool n9, .int .i64 t9, .int .i64 o9, .int .i64 r9, .int .i64 d9, .int .i64 i9, .int .i64 p9, .int .i64 q9, .int .i64 s9, .int .i64 m9], .int .i64 to9, .int .i64 e9]) ∧ Onl (w.heap.size + 1) W w') :
  Calls Tryz.prog 114 #[.slice a l c, .int .i64 at'] w fun e w' => e = .returned (.tuple #[.agg #[.int .i64 k9, .int .i64 x9, .bool n9, .int .i64 t9, .int .i64 o9, .int .i64 r9, .int .i64 d9, .int .i64 i9, .int .i64 p9, .int .i64 q9, .int .i64 s9, .int .i64 m9], .int .i64 to9, .int .i64 e9]) ∧ Below w.heap.size w w' := by
 have hv := Lib.hid hv0
 clear hv0
 have c1 : ∀ V, Rd V (w.heap.size + 1) at' 0 → Bs V (.slice a l c) xs → Calls Tryz.prog 31 #[.pointer (some ⟨(w.heap.size + 1), 0, none⟩), .slice a l c, .int .i64 1] V fun e w' => e = .returned (.int .i64 4) ∧ Rd w' (w.heap.size + 1) s1 e1 ∧ Onl (w.heap.size + 1) V w' := fun V h hv => by
  have h : Calls Tryz.prog 31 #[.pointer (some ⟨(w.heap.size + 1), 0, none⟩), .slice a l c, .int .i64 1] V fun e w' => e = .returned (.int .i64 (shortS xs (at', 0)).1) ∧ Rd w' (w.heap.size + 1) (shortS xs (at', 0)).2.1 (shortS xs (at', 0)).2.2 ∧ Onl (w.heap.size + 1) V w' := number_any (w.heap.size + 1) (.slice a l c) xs 1 at' 0 V h hv
  rw [hc1] at h
  exact h
 have c2 : ∀ V, Rd V (w.heap.size + 1) s1 e1 → Bs V (.slice a l c) xs → Calls Tryz.prog 31 #[.pointer (some ⟨(w.heap.size + 1), 0, none⟩), .slice a l c, .int .i64 1] V fun e w' => e = .returned (.int .i64 x) ∧ Rd w' (w.heap.size + 1) s2 e2 ∧ Onl (w.heap.size + 1) V w' := fun V h hv => by
  have h : Calls Tryz.prog 31 #[.pointer (some ⟨(w.heap.size + 1), 0, none⟩), .slice a l c, .int .i64 1] V fun e w' => e = .returned (.int .i64 (shortS xs (s1, e1)).1) ∧ Rd w' (w.heap.size + 1) (shortS xs (s1, e1)).2.1 (shortS xs (s1, e1)).2.2 ∧ Onl (w.heap.size + 1) V w' := number_any (w.heap.size + 1) (.slice a l c) xs 1 s1 e1 V h hv
  rw [hc2] at h
  exact h
 have hp : partsV 4 = .agg #[.bool true, .bool false, .bool true, .bool true] := rfl
 have c4 : ∀ V, Rd V (w.heap.size + 1) s3 e3 → Bs V (.slice a l c) xs → Calls Tryz.prog 31 #[.pointer (some ⟨(w.heap.size + 1), 0, none⟩), .slice a l c, .int .i64 2] V fun e w' => e = .returned (.int .i64 m) ∧ Rd w' (w.heap.size + 1) s4 e4 ∧ Onl (w.heap.size + 1) V w' := fun V h hv => by
  have h : Calls Tryz.prog 31 #[.pointer (some ⟨(w.heap.size + 1), 0, none⟩), .slice a l c, .int .i64 2] V fun e w' => e = .returned (.int .i64 (numS xs 2 (s3, e3)).1) ∧ Rd w' (w.heap.size + 1) (numS xs 2 (s3, e3)).2.1 (numS xs 2 (s3, e3)).2.2 ∧ Onl (w.heap.size + 1) V w' := number_any (w.heap.size + 1) (.slice a l c) xs 2 s3 e3 V h hv
  rw [hc4] at h
  exact h
 clear hc1 hc2 hc4
 go_enter Tryz.func114, Tryz.ntmps114
 go_wp2_with fail
 refine (new_any _ _).mono ?_
 rintro e _ ⟨rfl, rfl⟩
 go_wp2_with fail
 have OR := Lib.hid ((own12_alloc w 0 0 false 0 0 0 0 0 0 0 0 0 63 w.heap.size rfl).below ((Below.refl _ _).alloc (Nat.le_refl _) (.cells #[.int .i64 at', .int .i64 0] 89)))
 have R := Lib.hid (rd_alloc (w.alloc (.cells #[.int .i64 0, .int .i64 0, .bool false, .int .i64 0, .int .i64 0, .int .i64 0, .int .i64 0, .int .i64 0, .int .i64 0, .int .i64 0, .int .i64 0, .int .i64 0] 63)) at' (w.heap.size + 1) (by simp))
 have HB : Hid (Below w.heap.size w ((w.alloc (.cells #[.int .i64 0, .int .i64 0, .bool false, .int .i64 0, .int .i64 0, .int .i64 0, .int .i64 0, .int .i64 0, .int .i64 0, .int .i64 0, .int .i64 0, .int .i64 0] 63)).alloc (.cells #[.int .i64 at', .int .i64 0] 89))) := ((Below.refl _ w).alloc (Nat.le_refl _) _).alloc (by simp) _
 generalize ((w.alloc (.cells #[.int .i64 0, .int .i64 0, .bool false, .int .i64 0, .int .i64 0, .int .i64 0, .int .i64 0, .int .i64 0, .int .i64 0, .int .i64 0, .int .i64 0, .int .i64 0] 63)).alloc (.cells #[.int .i64 at', .int .i64 0] 89)) = V0 at *
 refine (c1 _ R.out (Bs_below hv.out HB.out)).mono ?_
 rintro e V1 ⟨rfl, hR, ho⟩
 replace OR := Lib.hid (OR.out.onl ho (by omega)); replace HB := Lib.hid (HB.out.trans (ho.below (by omega) HB.out.size)); replace R := Lib.hid hR; clear ho hR
 have HG : Hid (w.heap.size + 1 < V1.heap.size) := World.block_lt_of_cell? V1 _ R.out.1
 go_wp2_with fail
 have OO := Lib.hid (own12_alloc V1 4 0 false 0 0 0 0 0 0 0 0 0 63 V1.heap.size rfl)
 have hb : Below V1.heap.size V1 (V1.alloc (.cells #[.int .i64 4, .int .i64 0, .bool false, .int .i64 0, .int .i64 0, .int .i64 0, .int .i64 0, .int .i64 0, .int .i64 0, .int .i64 0, .int .i64 0, .int .i64 0] 63)) := (Below.refl _ V1).alloc (Nat.le_refl _) _
 replace OR := Lib.hid (OR.out.below hb); replace HB := Lib.hid (HB.out.trans (hb.mono HB.out.size)); replace R := Lib.hid (R.out.below hb); clear hb
 generalize V1.alloc (.cells #[.int .i64 4, .int .i64 0, .bool false, .int .i64 0, .int .i64 0, .int .i64 0, .int .i64 0, .int .i64 0, .int .i64 0, .int .i64 0, .int .i64 0, .int .i64 0] 63) = V2 at *
 refine (parts_any 4 _).mono ?_
 rintro e V3 ⟨rfl, hb⟩
 rw [hp]
 replace OR := Lib.hid (OR.out.below hb); replace HB := Lib.hid (HB.out.trans (hb.mono HB.out.size)); replace R := Lib.hid (R.out.below hb); replace OO := Lib.hid (OO.out.below hb); clear hb
 have HH : Hid (V1.heap.size < V3.heap.size) := OO.out.lt
 go_wp2_with fail
 have PP := Lib.hid (cells4_alloc V3 true false true true 182)
 have hb : Below V3.heap.size V3 (V3.alloc (.cells #[.bool true, .bool false, .bool true, .bool true] 182)) := (Below.refl _ V3).alloc (Nat.le_refl _) _
 replace OR := Lib.hid (OR.out.below hb); replace HB := Lib.hid (HB.out.trans (hb.mono HB.out.size)); replace R := Lib.hid (R.out.below hb); replace OO := Lib.hid (OO.out.below hb); clear hb
 generalize V3.alloc (.cells #[.bool true, .bool false, .bool true, .bool true] 182) = V4 at *
 refine (need_any (w.heap.size + 1) true s1 e1 _ R.out).mono ?_
 rintro e V5 ⟨rfl, hR, ho⟩
 rw [show needE e1 true = e1 by simp [needE]] at hR
 replace OR := Lib.hid (OR.out.onl ho (by omega)); replace HB := Lib.hid (HB.out.trans (ho.below (by omega) HB.out.size)); replace R := Lib.hid hR; replace OO := Lib.hid (OO.out.onl ho (by have := HG.out; have := HH.out; omega)); replace PP := Lib.hid (PP.out.onl ho (by have := HG.out; have := HH.out; omega)); clear ho hR
 go_wp2_with fail
 refine (c2 _ R.out (Bs_below hv.out HB.out)).mono ?_
 rintro e V6 ⟨rfl, hR, ho⟩
 replace OR := Lib.hid (OR.out.onl ho (by omega)); replace HB := Lib.hid (HB.out.trans (ho.below (by omega) HB.out.size)); replace R := Lib.hid hR; replace OO := Lib.hid (OO.out.onl ho (by have := HG.out; have := HH.out; omega)); replace PP := Lib.hid (PP.out.onl ho (by have := HG.out; have := HH.out; omega)); clear ho hR
 obtain ⟨c0, c1, c2, c3, c4, c5, c6, c7, c8, c9, c10, c11⟩ := OO.out.1
 have cf := OO.out.2
 obtain ⟨V7, hV7⟩ : ∃ V7, (V6.setCell ⟨V1.heap.size, 1, none⟩ (.int .i64 x)) = V7 := ⟨_, rfl⟩
 have o1 : Onl V1.heap.size V6 (V6.setCell ⟨V1.heap.size, 1, none⟩ (.int .i64 x)) := onl_setx V6 V1.heap.size x
 have OO2 := Lib.hid (OO.out.setx x)
 rw [hV7] at o1 OO2
 replace OO := OO2
 clear OO2
 replace OR := Lib.hid (OR.out.onl o1 (by have := HG.out; have := HH.out; omega))
 replace HB := Lib.hid (HB.out.trans (o1.below (by have := HG.out; have := HH.out; omega) HB.out.size))
 replace R := Lib.hid (R.out.onl o1 (by have := HG.out; have := HH.out; omega))
 replace PP := Lib.hid (PP.out.onl o1 (by have := HG.out; have := HH.out; omega))
 clear o1
 obtain ⟨p0, p1, p2, p3⟩ := PP.out
 go_wp2_with fail
 clear c0 c1 c2 c3 c4 c5 c6 c7 c8 c9 c10 c11 cf hV7 p0 p1 p2 p3
 refine (nexth_any (w.heap.size + 1) (.slice a l c) xs s2 e2 n t o r d i s3 e3 _ R.out (Bs_below hv.out HB.out) hc3).mono ?_
 rintro e V8 ⟨rfl, hR, ho⟩
 replace OR := Lib.hid (OR.out.onl ho (by omega)); replace HB := Lib.hid (HB.out.trans (ho.below (by omega) HB.out.size)); replace R := Lib.hid hR; replace OO := Lib.hid (OO.out.onl ho (by have := HG.out; have := HH.out; omega)); replace PP := Lib.hid (PP.out.onl ho (by have := HG.out; have := HH.out; omega)); clear ho hR
 obtain ⟨c0, c1, c2, c3, c4, c5, c6, c7, c8, c9, c10, c11⟩ := OO.out.1
 have cf := OO.out.2
 obtain ⟨V9, hV9⟩ : ∃ V9, ((((((V8.setCell ⟨V1.heap.size, 2, none⟩ (.bool n)).setCell ⟨V1.heap.size, 3, none⟩ (.int .i64 t)).setCell ⟨V1.heap.size, 4, none⟩ (.int .i64 o)).setCell ⟨V1.heap.size, 5, none⟩ (.int .i64 r)).setCell ⟨V1.heap.size, 6, none⟩ (.int .i64 d)).setCell ⟨V1.heap.size, 7, none⟩ (.int .i64 i)) = V9 := ⟨_, rfl⟩
 have o1 : Onl V1.heap.size V8 ((((((V8.setCell ⟨V1.heap.size, 2, none⟩ (.bool n)).setCell ⟨V1.heap.size, 3, none⟩ (.int .i64 t)).setCell ⟨V1.heap.size, 4, none⟩ (.int .i64 o)).setCell ⟨V1.heap.size, 5, none⟩ (.int .i64 r)).setCell ⟨V1.heap.size, 6, none⟩ (.int .i64 d)).setCell ⟨V1.heap.size, 7, none⟩ (.int .i64 i)) := onl_seth V8 V1.heap.size n t o r d i
 have OO2 := Lib.hid (OO.out.seth n t o r d i)
 rw [hV9] at o1 OO2
 replace OO := OO2
 clear OO2
 replace OR := Lib.hid (OR.out.onl o1 (by have := HG.out; have := HH.out; omega))
 replace HB := Lib.hid (HB.out.trans (o1.below (by have := HG.out; have := HH.out; omega) HB.out.size))
 replace R := Lib.hid (R.out.onl o1 (by have := HG.out; have := HH.out; omega))
 replace PP := Lib.hid (PP.out.onl o1 (by have := HG.out; have := HH.out; omega))
 clear o1
 obtain ⟨p0, p1, p2, p3⟩ := PP.out
 go_wp2_with fail
 clear c0 c1 c2 c3 c4 c5 c6 c7 c8 c9 c10 c11 cf hV9 p0 p1 p2 p3
 refine (c4 _ R.out (Bs_below hv.out HB.out)).mono ?_
 rintro e V10 ⟨rfl, hR, ho⟩
 replace OR := Lib.hid (OR.out.onl ho (by omega)); replace HB := Lib.hid (HB.out.trans (ho.below (by omega) HB.out.size)); replace R := Lib.hid hR; replace OO := Lib.hid (OO.out.onl ho (by have := HG.out; have := HH.out; omega)); replace PP := Lib.hid (PP.out.onl ho (by have := HG.out; have := HH.out; omega)); clear ho hR
 obtain ⟨c0, c1, c2, c3, c4, c5, c6, c7, c8, c9, c10, c11⟩ := OO.out.1
 have cf := OO.out.2
 obtain ⟨V11, hV11⟩ : ∃ V11, (V10.setCell ⟨V1.heap.size, 11, none⟩ (.int .i64 m)) = V11 := ⟨_, rfl⟩
 have o1 : Onl V1.heap.size V10 (V10.setCell ⟨V1.heap.size, 11, none⟩ (.int .i64 m)) := onl_setm V10 V1.heap.size m
 have OO2 := Lib.hid (OO.out.setm m)
 rw [hV11] at o1 OO2
 replace OO := OO2
 clear OO2
 replace OR := Lib.hid (OR.out.onl o1 (by have := HG.out; have := HH.out; omega))
 replace HB := Lib.hid (HB.out.trans (o1.below (by have := HG.out; have := HH.out; omega) HB.out.size))
 replace R := Lib.hid (R.out.onl o1 (by have := HG.out; have := HH.out; omega))
 replace PP := Lib.hid (PP.out.onl o1 (by have := HG.out; have := HH.out; omega))
 clear o1
 obtain ⟨p0, p1, p2, p3⟩ := PP.out
 go_wp2_with fail
 clear c0 c1 c2 c3 c4 c5 c6 c7 c8 c9 c10 c11 cf hV11 p0 p1 p2 p3
 replace OO : Hid (Own12 V11.drew V1.heap.size 4 x n t o r d i 0 0 0 m) := OO.out
 replace OR : Hid (Own12 V11.drew w.heap.size 0 0 false 0 0 0 0 0 0 0 0 0) := OR.out
 replace R : Hid (Rd V11.drew (w.heap.size + 1) s4 e4) := R.out
 replace HB : Hid (Below w.heap.size w V11.drew) := HB.out.drew
 obtain ⟨c0, c1, c2, c3, c4, c5, c6, c7, c8, c9, c10, c11⟩ := (show Own12 V11 V1.heap.size 4 x n t o r d i 0 0 0 m from OO.out).1
 clear PP HH
 go_region_with (first
  | (go_at_call 130; refine (cC _).mono ?_; rintro e V88 ⟨rfl, hb⟩; replace OO := Lib.hid (OO.out.below hb); replace OR := Lib.hid (OR.out.below hb); replace HB := Lib.hid (HB.out.trans (hb.mono HB.out.size)); replace R := Lib.hid (R.out.below hb); clear hb; clear c0 c1 c2 c3 c4 c5 c6 c7 c8 c9 c10 c11; obtain ⟨c0, c1, c2, c3, c4, c5, c6, c7, c8, c9, c10, c11⟩ := OO.out.1)
  | (go_at_call 141; refine (D _ R.out).mono ?_; rintro e V99 ⟨rfl, ho⟩; replace OR := Lib.hid (OR.out.onl ho (by omega)); replace HB := Lib.hid (HB.out.trans (ho.below (by omega) HB.out.size)); clear ho; clear c0 c1 c2 c3 c4 c5 c6 c7 c8 c9 c10 c11; obtain ⟨⟨u0, u1, u2, u3, u4, u5, u6, u7, u8, u9, u10, u11⟩, uf⟩ := OR.out))
 all_goals
  go_wp2_with fail
  have hs := (OR.out.setall k9 x9 n9 t9 o9 r9 d9 i9 p9 q9 s9 m9).1
  have hbs := bel_set12 (b := w.heap.size) HB.out (Nat.le_refl _) k9 x9 n9 t9 o9 r9 d9 i9 p9 q9 s9 m9
  generalize ((((((((((((V99.setCell ⟨w.heap.size, 0, none⟩ (.int .i64 k9)).setCell ⟨w.heap.size, 1, none⟩ (.int .i64 x9)).setCell ⟨w.heap.size, 2, none⟩ (.bool n9)).setCell ⟨w.heap.size, 3, none⟩ (.int .i64 t9)).setCell ⟨w.heap.size, 4, none⟩ (.int .i64 o9)).setCell ⟨w.heap.size, 5, none⟩ (.int .i64 r9)).setCell ⟨w.heap.size, 6, none⟩ (.int .i64 d9)).setCell ⟨w.heap.size, 7, none⟩ (.int .i64 i9)).setCell ⟨w.heap.size, 8, none⟩ (.int .i64 p9)).setCell ⟨w.heap.size, 9, none⟩ (.int .i64 q9)).setCell ⟨w.heap.size, 10, none⟩ (.int .i64 s9)).setCell ⟨w.heap.size, 11, none⟩ (.int .i64 m9)) = W5 at *
  obtain ⟨s0_, s1_, s2_, s3_, s4_, s5_, s6_, s7_, s8_, s9_, s10_, s11_⟩ := hs
  exact bodyPost_ret (v := .tuple #[.agg #[.int .i64 k9, .int .i64 x9, .bool n9, .int .i64 t9, .int .i64 o9, .int .i64 r9, .int .i64 d9, .int .i64 i9, .int .i64 p9, .int .i64 q9, .int .i64 s9, .int .i64 m9], .int .i64 to9, .int .i64 e9]) (by simp [results, Tryz.results114, go_sem, s0_, s1_, s2_, s3_, s4_, s5_, s6_, s7_, s8_, s9_, s10_, s11_]) rfl ⟨rfl, hbs⟩
set_option maxHeartbeats 16000000 in
theorem po4_1 (a : Option Addr) (l c : Nat) (at' : Int) (xs : List Int) (w : World) (hv0 : Bs w (.slice a l c) xs) (n : Bool) (s1 e1 x s2 e2 t o r d i s3 e3 m s4 e4 : Int) (hc1 : shortS xs (at', 0) = (4, s1, e1)) (hc2 : shortS xs (s1, e1) = (x, s2, e2)) (hc3 : nextP xs (s2, e2) = ⟨n, t, o, r, d, i, s3, e3⟩) (hc4 : numS xs 2 (s3, e3) = (m, s4, e4)) (k9 x9 t9 o9 r9 d9 i9 p9 q9 s9 m9 to9 e9 : Int) (n9 : Bool)
  (cC : ∀ W, Calls Tryz.prog 130 #[.agg #[.int .i64 4, .int .i64 x, .bool n, .int .i64 t, .int .i64 o, .int .i64 r, .int .i64 d, .int .i64 i, .int .i64 0, .int .i64 0, .int .i64 0, .int .i64 m]] W fun e w' => e = .returned (.int .i64 1) ∧ Below W.heap.size W w')
  (D : ∀ W, Rd W (w.heap.size + 1) s4 e4 → Calls Tryz.prog 141 #[.pointer (some ⟨(w.heap.size + 1), 0, none⟩), .agg #[.int .i64 4, .int .i64 x, .bool n, .int .i64 t, .int .i64 o, .int .i64 r, .int .i64 d, .int .i64 i, .int .i64 0, .int .i64 0, .int .i64 0, .int .i64 m], .bool false] W fun e w' => e = .returned (.tuple #[.agg #[.int .i64 k9, .int .i64 x9, .bool n9, .int .i64 t9, .int .i64 o9, .int .i64 r9, .int .i64 d9, .int .i64 i9, .int .i64 p9, .int .i64 q9, .int .i64 s9, .int .i64 m9], .int .i64 to9, .int .i64 e9]) ∧ Onl (w.heap.size + 1) W w') :
  Calls Tryz.prog 114 #[.slice a l c, .int .i64 at'] w fun e w' => e = .returned (.tuple #[.agg #[.int .i64 k9, .int .i64 x9, .bool n9, .int .i64 t9, .int .i64 o9, .int .i64 r9, .int .i64 d9, .int .i64 i9, .int .i64 p9, .int .i64 q9, .int .i64 s9, .int .i64 m9], .int .i64 to9, .int .i64 e9]) ∧ Below w.heap.size w w' := by
 have hv := Lib.hid hv0
 clear hv0
 have c1 : ∀ V, Rd V (w.heap.size + 1) at' 0 → Bs V (.slice a l c) xs → Calls Tryz.prog 31 #[.pointer (some ⟨(w.heap.size + 1), 0, none⟩), .slice a l c, .int .i64 1] V fun e w' => e = .returned (.int .i64 4) ∧ Rd w' (w.heap.size + 1) s1 e1 ∧ Onl (w.heap.size + 1) V w' := fun V h hv => by
  have h : Calls Tryz.prog 31 #[.pointer (some ⟨(w.heap.size + 1), 0, none⟩), .slice a l c, .int .i64 1] V fun e w' => e = .returned (.int .i64 (shortS xs (at', 0)).1) ∧ Rd w' (w.heap.size + 1) (shortS xs (at', 0)).2.1 (shortS xs (at', 0)).2.2 ∧ Onl (w.heap.size + 1) V w' := number_any (w.heap.size + 1) (.slice a l c) xs 1 at' 0 V h hv
  rw [hc1] at h
  exact h
 have c2 : ∀ V, Rd V (w.heap.size + 1) s1 e1 → Bs V (.slice a l c) xs → Calls Tryz.prog 31 #[.pointer (some ⟨(w.heap.size + 1), 0, none⟩), .slice a l c, .int .i64 1] V fun e w' => e = .returned (.int .i64 x) ∧ Rd w' (w.heap.size + 1) s2 e2 ∧ Onl (w.heap.size + 1) V w' := fun V h hv => by
  have h : Calls Tryz.prog 31 #[.pointer (some ⟨(w.heap.size + 1), 0, none⟩), .slice a l c, .int .i64 1] V fun e w' => e = .returned (.int .i64 (shortS xs (s1, e1)).1) ∧ Rd w' (w.heap.size + 1) (shortS xs (s1, e1)).2.1 (shortS xs (s1, e1)).2.2 ∧ Onl (w.heap.size + 1) V w' := number_any (w.heap.size + 1) (.slice a l c) xs 1 s1 e1 V h hv
  rw [hc2] at h
  exact h
 have hp : partsV 4 = .agg #[.bool true, .bool false, .bool true, .bool true] := rfl
 have c4 : ∀ V, Rd V (w.heap.size + 1) s3 e3 → Bs V (.slice a l c) xs → Calls Tryz.prog 31 #[.pointer (some ⟨(w.heap.size + 1), 0, none⟩), .slice a l c, .int .i64 2] V fun e w' => e = .returned (.int .i64 m) ∧ Rd w' (w.heap.size + 1) s4 e4 ∧ Onl (w.heap.size + 1) V w' := fun V h hv => by
  have h : Calls Tryz.prog 31 #[.pointer (some ⟨(w.heap.size + 1), 0, none⟩), .slice a l c, .int .i64 2] V fun e w' => e = .returned (.int .i64 (numS xs 2 (s3, e3)).1) ∧ Rd w' (w.heap.size + 1) (numS xs 2 (s3, e3)).2.1 (numS xs 2 (s3, e3)).2.2 ∧ Onl (w.heap.size + 1) V w' := number_any (w.heap.size + 1) (.slice a l c) xs 2 s3 e3 V h hv
  rw [hc4] at h
  exact h
 clear hc1 hc2 hc4
 go_enter Tryz.func114, Tryz.ntmps114
 go_wp2_with fail
 refine (new_any _ _).mono ?_
 rintro e _ ⟨rfl, rfl⟩
 go_wp2_with fail
 have OR := Lib.hid ((own12_alloc w 0 0 false 0 0 0 0 0 0 0 0 0 63 w.heap.size rfl).below ((Below.refl _ _).alloc (Nat.le_refl _) (.cells #[.int .i64 at', .int .i64 0] 89)))
 have R := Lib.hid (rd_alloc (w.alloc (.cells #[.int .i64 0, .int .i64 0, .bool false, .int .i64 0, .int .i64 0, .int .i64 0, .int .i64 0, .int .i64 0, .int .i64 0, .int .i64 0, .int .i64 0, .int .i64 0] 63)) at' (w.heap.size + 1) (by simp))
 have HB : Hid (Below w.heap.size w ((w.alloc (.cells #[.int .i64 0, .int .i64 0, .bool false, .int .i64 0, .int .i64 0, .int .i64 0, .int .i64 0, .int .i64 0, .int .i64 0, .int .i64 0, .int .i64 0, .int .i64 0] 63)).alloc (.cells #[.int .i64 at', .int .i64 0] 89))) := ((Below.refl _ w).alloc (Nat.le_refl _) _).alloc (by simp) _
 generalize ((w.alloc (.cells #[.int .i64 0, .int .i64 0, .bool false, .int .i64 0, .int .i64 0, .int .i64 0, .int .i64 0, .int .i64 0, .int .i64 0, .int .i64 0, .int .i64 0, .int .i64 0] 63)).alloc (.cells #[.int .i64 at', .int .i64 0] 89)) = V0 at *
 refine (c1 _ R.out (Bs_below hv.out HB.out)).mono ?_
 rintro e V1 ⟨rfl, hR, ho⟩
 replace OR := Lib.hid (OR.out.onl ho (by omega)); replace HB := Lib.hid (HB.out.trans (ho.below (by omega) HB.out.size)); replace R := Lib.hid hR; clear ho hR
 have HG : Hid (w.heap.size + 1 < V1.heap.size) := World.block_lt_of_cell? V1 _ R.out.1
 go_wp2_with fail
 have OO := Lib.hid (own12_alloc V1 4 0 false 0 0 0 0 0 0 0 0 0 63 V1.heap.size rfl)
 have hb : Below V1.heap.size V1 (V1.alloc (.cells #[.int .i64 4, .int .i64 0, .bool false, .int .i64 0, .int .i64 0, .int .i64 0, .int .i64 0, .int .i64 0, .int .i64 0, .int .i64 0, .int .i64 0, .int .i64 0] 63)) := (Below.refl _ V1).alloc (Nat.le_refl _) _
 replace OR := Lib.hid (OR.out.below hb); replace HB := Lib.hid (HB.out.trans (hb.mono HB.out.size)); replace R := Lib.hid (R.out.below hb); clear hb
 generalize V1.alloc (.cells #[.int .i64 4, .int .i64 0, .bool false, .int .i64 0, .int .i64 0, .int .i64 0, .int .i64 0, .int .i64 0, .int .i64 0, .int .i64 0, .int .i64 0, .int .i64 0] 63) = V2 at *
 refine (parts_any 4 _).mono ?_
 rintro e V3 ⟨rfl, hb⟩
 rw [hp]
 replace OR := Lib.hid (OR.out.below hb); replace HB := Lib.hid (HB.out.trans (hb.mono HB.out.size)); replace R := Lib.hid (R.out.below hb); replace OO := Lib.hid (OO.out.below hb); clear hb
 have HH : Hid (V1.heap.size < V3.heap.size) := OO.out.lt
 go_wp2_with fail
 have PP := Lib.hid (cells4_alloc V3 true false true true 182)
 have hb : Below V3.heap.size V3 (V3.alloc (.cells #[.bool true, .bool false, .bool true, .bool true] 182)) := (Below.refl _ V3).alloc (Nat.le_refl _) _
 replace OR := Lib.hid (OR.out.below hb); replace HB := Lib.hid (HB.out.trans (hb.mono HB.out.size)); replace R := Lib.hid (R.out.below hb); replace OO := Lib.hid (OO.out.below hb); clear hb
 generalize V3.alloc (.cells #[.bool true, .bool false, .bool true, .bool true] 182) = V4 at *
 refine (need_any (w.heap.size + 1) true s1 e1 _ R.out).mono ?_
 rintro e V5 ⟨rfl, hR, ho⟩
 rw [show needE e1 true = e1 by simp [needE]] at hR
 replace OR := Lib.hid (OR.out.onl ho (by omega)); replace HB := Lib.hid (HB.out.trans (ho.below (by omega) HB.out.size)); replace R := Lib.hid hR; replace OO := Lib.hid (OO.out.onl ho (by have := HG.out; have := HH.out; omega)); replace PP := Lib.hid (PP.out.onl ho (by have := HG.out; have := HH.out; omega)); clear ho hR
 go_wp2_with fail
 refine (c2 _ R.out (Bs_below hv.out HB.out)).mono ?_
 rintro e V6 ⟨rfl, hR, ho⟩
 replace OR := Lib.hid (OR.out.onl ho (by omega)); replace HB := Lib.hid (HB.out.trans (ho.below (by omega) HB.out.size)); replace R := Lib.hid hR; replace OO := Lib.hid (OO.out.onl ho (by have := HG.out; have := HH.out; omega)); replace PP := Lib.hid (PP.out.onl ho (by have := HG.out; have := HH.out; omega)); clear ho hR
 obtain ⟨c0, c1, c2, c3, c4, c5, c6, c7, c8, c9, c10, c11⟩ := OO.out.1
 have cf := OO.out.2
 obtain ⟨V7, hV7⟩ : ∃ V7, (V6.setCell ⟨V1.heap.size, 1, none⟩ (.int .i64 x)) = V7 := ⟨_, rfl⟩
 have o1 : Onl V1.heap.size V6 (V6.setCell ⟨V1.heap.size, 1, none⟩ (.int .i64 x)) := onl_setx V6 V1.heap.size x
 have OO2 := Lib.hid (OO.out.setx x)
 rw [hV7] at o1 OO2
 replace OO := OO2
 clear OO2
 replace OR := Lib.hid (OR.out.onl o1 (by have := HG.out; have := HH.out; omega))
 replace HB := Lib.hid (HB.out.trans (o1.below (by have := HG.out; have := HH.out; omega) HB.out.size))
 replace R := Lib.hid (R.out.onl o1 (by have := HG.out; have := HH.out; omega))
 replace PP := Lib.hid (PP.out.onl o1 (by have := HG.out; have := HH.out; omega))
 clear o1
 obtain ⟨p0, p1, p2, p3⟩ := PP.out
 go_wp2_with fail
 clear c0 c1 c2 c3 c4 c5 c6 c7 c8 c9 c10 c11 cf hV7 p0 p1 p2 p3
 refine (nexth_any (w.heap.size + 1) (.slice a l c) xs s2 e2 n t o r d i s3 e3 _ R.out (Bs_below hv.out HB.out) hc3).mono ?_
 rintro e V8 ⟨rfl, hR, ho⟩
 replace OR := Lib.hid (OR.out.onl ho (by omega)); replace HB := Lib.hid (HB.out.trans (ho.below (by omega) HB.out.size)); replace R := Lib.hid hR; replace OO := Lib.hid (OO.out.onl ho (by have := HG.out; have := HH.out; omega)); replace PP := Lib.hid (PP.out.onl ho (by have := HG.out; have := HH.out; omega)); clear ho hR
 obtain ⟨c0, c1, c2, c3, c4, c5, c6, c7, c8, c9, c10, c11⟩ := OO.out.1
 have cf := OO.out.2
 obtain ⟨V9, hV9⟩ : ∃ V9, ((((((V8.setCell ⟨V1.heap.size, 2, none⟩ (.bool n)).setCell ⟨V1.heap.size, 3, none⟩ (.int .i64 t)).setCell ⟨V1.heap.size, 4, none⟩ (.int .i64 o)).setCell ⟨V1.heap.size, 5, none⟩ (.int .i64 r)).setCell ⟨V1.heap.size, 6, none⟩ (.int .i64 d)).setCell ⟨V1.heap.size, 7, none⟩ (.int .i64 i)) = V9 := ⟨_, rfl⟩
 have o1 : Onl V1.heap.size V8 ((((((V8.setCell ⟨V1.heap.size, 2, none⟩ (.bool n)).setCell ⟨V1.heap.size, 3, none⟩ (.int .i64 t)).setCell ⟨V1.heap.size, 4, none⟩ (.int .i64 o)).setCell ⟨V1.heap.size, 5, none⟩ (.int .i64 r)).setCell ⟨V1.heap.size, 6, none⟩ (.int .i64 d)).setCell ⟨V1.heap.size, 7, none⟩ (.int .i64 i)) := onl_seth V8 V1.heap.size n t o r d i
 have OO2 := Lib.hid (OO.out.seth n t o r d i)
 rw [hV9] at o1 OO2
 replace OO := OO2
 clear OO2
 replace OR := Lib.hid (OR.out.onl o1 (by have := HG.out; have := HH.out; omega))
 replace HB := Lib.hid (HB.out.trans (o1.below (by have := HG.out; have := HH.out; omega) HB.out.size))
 replace R := Lib.hid (R.out.onl o1 (by have := HG.out; have := HH.out; omega))
 replace PP := Lib.hid (PP.out.onl o1 (by have := HG.out; have := HH.out; omega))
 clear o1
 obtain ⟨p0, p1, p2, p3⟩ := PP.out
 go_wp2_with fail
 clear c0 c1 c2 c3 c4 c5 c6 c7 c8 c9 c10 c11 cf hV9 p0 p1 p2 p3
 refine (c4 _ R.out (Bs_below hv.out HB.out)).mono ?_
 rintro e V10 ⟨rfl, hR, ho⟩
 replace OR := Lib.hid (OR.out.onl ho (by omega)); replace HB := Lib.hid (HB.out.trans (ho.below (by omega) HB.out.size)); replace R := Lib.hid hR; replace OO := Lib.hid (OO.out.onl ho (by have := HG.out; have := HH.out; omega)); replace PP := Lib.hid (PP.out.onl ho (by have := HG.out; have := HH.out; omega)); clear ho hR
 obtain ⟨c0, c1, c2, c3, c4, c5, c6, c7, c8, c9, c10, c11⟩ := OO.out.1
 have cf := OO.out.2
 obtain ⟨V11, hV11⟩ : ∃ V11, (V10.setCell ⟨V1.heap.size, 11, none⟩ (.int .i64 m)) = V11 := ⟨_, rfl⟩
 have o1 : Onl V1.heap.size V10 (V10.setCell ⟨V1.heap.size, 11, none⟩ (.int .i64 m)) := onl_setm V10 V1.heap.size m
 have OO2 := Lib.hid (OO.out.setm m)
 rw [hV11] at o1 OO2
 replace OO := OO2
 clear OO2
 replace OR := Lib.hid (OR.out.onl o1 (by have := HG.out; have := HH.out; omega))
 replace HB := Lib.hid (HB.out.trans (o1.below (by have := HG.out; have := HH.out; omega) HB.out.size))
 replace R := Lib.hid (R.out.onl o1 (by have := HG.out; have := HH.out; omega))
 replace PP := Lib.hid (PP.out.onl o1 (by have := HG.out; have := HH.out; omega))
 clear o1
 obtain ⟨p0, p1, p2, p3⟩ := PP.out
 go_wp2_with fail
 clear c0 c1 c2 c3 c4 c5 c6 c7 c8 c9 c10 c11 cf hV11 p0 p1 p2 p3
 replace OO : Hid (Own12 V11.drew V1.heap.size 4 x n t o r d i 0 0 0 m) := OO.out
 replace OR : Hid (Own12 V11.drew w.heap.size 0 0 false 0 0 0 0 0 0 0 0 0) := OR.out
 replace R : Hid (Rd V11.drew (w.heap.size + 1) s4 e4) := R.out
 replace HB : Hid (Below w.heap.size w V11.drew) := HB.out.drew
 obtain ⟨c0, c1, c2, c3, c4, c5, c6, c7, c8, c9, c10, c11⟩ := (show Own12 V11 V1.heap.size 4 x n t o r d i 0 0 0 m from OO.out).1
 clear PP HH
 go_region_with (first
  | (go_at_call 130; refine (cC _).mono ?_; rintro e V88 ⟨rfl, hb⟩; replace OO := Lib.hid (OO.out.below hb); replace OR := Lib.hid (OR.out.below hb); replace HB := Lib.hid (HB.out.trans (hb.mono HB.out.size)); replace R := Lib.hid (R.out.below hb); clear hb; clear c0 c1 c2 c3 c4 c5 c6 c7 c8 c9 c10 c11; obtain ⟨c0, c1, c2, c3, c4, c5, c6, c7, c8, c9, c10, c11⟩ := OO.out.1)
  | (go_at_call 141; refine (D _ R.out).mono ?_; rintro e V99 ⟨rfl, ho⟩; replace OR := Lib.hid (OR.out.onl ho (by omega)); replace HB := Lib.hid (HB.out.trans (ho.below (by omega) HB.out.size)); clear ho; clear c0 c1 c2 c3 c4 c5 c6 c7 c8 c9 c10 c11; obtain ⟨⟨u0, u1, u2, u3, u4, u5, u6, u7, u8, u9, u10, u11⟩, uf⟩ := OR.out))
 all_goals
  go_wp2_with fail
  have hs := (OR.out.setall k9 x9 n9 t9 o9 r9 d9 i9 p9 q9 s9 m9).1
  have hbs := bel_set12 (b := w.heap.size) HB.out (Nat.le_refl _) k9 x9 n9 t9 o9 r9 d9 i9 p9 q9 s9 m9
  generalize ((((((((((((V99.setCell ⟨w.heap.size, 0, none⟩ (.int .i64 k9)).setCell ⟨w.heap.size, 1, none⟩ (.int .i64 x9)).setCell ⟨w.heap.size, 2, none⟩ (.bool n9)).setCell ⟨w.heap.size, 3, none⟩ (.int .i64 t9)).setCell ⟨w.heap.size, 4, none⟩ (.int .i64 o9)).setCell ⟨w.heap.size, 5, none⟩ (.int .i64 r9)).setCell ⟨w.heap.size, 6, none⟩ (.int .i64 d9)).setCell ⟨w.heap.size, 7, none⟩ (.int .i64 i9)).setCell ⟨w.heap.size, 8, none⟩ (.int .i64 p9)).setCell ⟨w.heap.size, 9, none⟩ (.int .i64 q9)).setCell ⟨w.heap.size, 10, none⟩ (.int .i64 s9)).setCell ⟨w.heap.size, 11, none⟩ (.int .i64 m9)) = W5 at *
  obtain ⟨s0_, s1_, s2_, s3_, s4_, s5_, s6_, s7_, s8_, s9_, s10_, s11_⟩ := hs
  exact bodyPost_ret (v := .tuple #[.agg #[.int .i64 k9, .int .i64 x9, .bool n9, .int .i64 t9, .int .i64 o9, .int .i64 r9, .int .i64 d9, .int .i64 i9, .int .i64 p9, .int .i64 q9, .int .i64 s9, .int .i64 m9], .int .i64 to9, .int .i64 e9]) (by simp [results, Tryz.results114, go_sem, s0_, s1_, s2_, s3_, s4_, s5_, s6_, s7_, s8_, s9_, s10_, s11_]) rfl ⟨rfl, hbs⟩
end Go.Proofs.YtjghebcnmoojmaaGreat
