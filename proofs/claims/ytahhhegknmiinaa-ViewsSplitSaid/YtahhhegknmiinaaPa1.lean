/- The program's views: isTold, compare, Get, Lowest. No conditions but on lengths. -/
import Derived.Test.YtahhhegknmiinaaVst
import Derived.Deep.RegionHeld
namespace Go.Proofs.Ytahhhegknmiinaa
set_option maxRecDepth 100000
open Go.RowKit

set_option maxHeartbeats 4000000 in
theorem visT_any (y : Vw) (w : World) : Calls Try.prog 37 #[vwV y] w fun e w' => e = .returned (.bool (tld y.2)) ∧ Below w.heap.size w w' := by
  obtain ⟨i, m, t, o, r, d, k⟩ := y
  have hb0 : Below w.heap.size w (w.alloc (.cells #[.int .i64 i, .bool m, .int .i64 t, .int .i64 o, .int .i64 r, .int .i64 d, .int .i64 k] 40)) := (Below.refl _ w).alloc (Nat.le_refl _) _
  have HB := Lib.hid hb0
  clear hb0
  show Calls Try.prog 37 #[.agg #[.int .i64 i, .bool m, .int .i64 t, .int .i64 o, .int .i64 r, .int .i64 d, .int .i64 k]] w fun e w' => e = .returned (.bool (told m t o r d k)) ∧ Below w.heap.size w w'
  cases m with
  | true =>
    go_enter Try.func37, Try.ntmps37
    go_wp2_with fail
    go_ret
    exact ⟨rfl, HB.out⟩
  | false =>
    by_cases h : HtOk false t o r d k
    · have C := Lib.hid (fun W => check_any false t o r d k W)
      rw [chk_ok h] at C
      have ht : told false t o r d k = true := by unfold told; rw [decide_eq_true h]; rfl
      rw [ht]
      clear h ht
      go_enter Try.func37, Try.ntmps37
      go_wp2_with fail
      refine (C.out _).mono ?_
      rintro e w1 ⟨rfl, hb⟩
      have HB1 := Lib.hid (HB.out.trans (hb.mono HB.out.size))
      clear hb HB
      go_wp2_with fail
      go_ret
      exact ⟨rfl, HB1.out⟩
    · have C := Lib.hid (fun W => check_any false t o r d k W)
      rw [chk_no h] at C
      have ht : told false t o r d k = false := by unfold told; rw [decide_eq_false h]; rfl
      rw [ht]
      clear h ht
      go_enter Try.func37, Try.ntmps37
      go_wp2_with fail
      refine (C.out _).mono ?_
      rintro e w1 ⟨rfl, hb⟩
      have HB1 := Lib.hid (HB.out.trans (hb.mono HB.out.size))
      clear hb HB
      go_wp2_with fail
      go_ret
      exact ⟨rfl, HB1.out⟩
/-- What compare answers. -/
def cmpX (x y : Hx) : Int := if lsx x y = true then -1 else if lsx y x = true then 1 else 0
set_option maxHeartbeats 4000000 in
theorem vcmp_any (x y : Hx) (w : World) : Calls Try.prog 59 #[hxV x, hxV y] w fun e w' => e = .returned (.int .i64 (cmpX x y)) ∧ Below w.heap.size w w' := by
  obtain ⟨z, hz⟩ : ∃ z, cmpX x y = z := ⟨_, rfl⟩
  rw [hz]
  have HZ := Lib.hid hz
  clear hz
  obtain ⟨V, hV⟩ : ∃ V, (w.alloc (.cells #[.bool x.1, .int .i64 x.2.1, .int .i64 x.2.2.1, .int .i64 x.2.2.2.1, .int .i64 x.2.2.2.2.1, .int .i64 x.2.2.2.2.2] 24)).alloc (.cells #[.bool y.1, .int .i64 y.2.1, .int .i64 y.2.2.1, .int .i64 y.2.2.2.1, .int .i64 y.2.2.2.2.1, .int .i64 y.2.2.2.2.2] 24) = V := ⟨_, rfl⟩
  have hb1 : Below w.heap.size w (w.alloc (.cells #[.bool x.1, .int .i64 x.2.1, .int .i64 x.2.2.1, .int .i64 x.2.2.2.1, .int .i64 x.2.2.2.2.1, .int .i64 x.2.2.2.2.2] 24)) := (Below.refl _ w).alloc (Nat.le_refl _) _
  have hb2 : Below w.heap.size w V := hV ▸ hb1.alloc hb1.size _
  have o1 : Own6 V w.heap.size x.1 x.2.1 x.2.2.1 x.2.2.2.1 x.2.2.2.2.1 x.2.2.2.2.2 := hV ▸ (own6_alloc w x.1 x.2.1 x.2.2.1 x.2.2.2.1 x.2.2.2.2.1 x.2.2.2.2.2 24 w.heap.size rfl).below ((Below.refl _ _).alloc (Nat.le_refl _) _)
  have o2 : Own6 V (w.heap.size + 1) y.1 y.2.1 y.2.2.1 y.2.2.2.1 y.2.2.2.2.1 y.2.2.2.2.2 := hV ▸ own6_alloc (w.alloc (.cells #[.bool x.1, .int .i64 x.2.1, .int .i64 x.2.2.1, .int .i64 x.2.2.2.1, .int .i64 x.2.2.2.2.1, .int .i64 x.2.2.2.2.2] 24)) y.1 y.2.1 y.2.2.1 y.2.2.2.1 y.2.2.2.2.1 y.2.2.2.2.2 24 (w.heap.size + 1) (by simp)
  have HB := Lib.hid hb2
  have HV := Lib.hid hV
  have O1 := Lib.hid o1
  have O2 := Lib.hid o2
  clear hb1 hb2 hV o1 o2
  have c1 := Lib.hid (fun W => less_any x.1 x.2.1 x.2.2.1 x.2.2.2.1 x.2.2.2.2.1 x.2.2.2.2.2 y.1 y.2.1 y.2.2.1 y.2.2.2.1 y.2.2.2.2.1 y.2.2.2.2.2 W)
  have c2 := Lib.hid (fun W => less_any y.1 y.2.1 y.2.2.1 y.2.2.2.1 y.2.2.2.2.1 y.2.2.2.2.2 x.1 x.2.1 x.2.2.1 x.2.2.2.1 x.2.2.2.2.1 x.2.2.2.2.2 W)
  go_enter Try.func59, Try.ntmps59
  go_upto_region 1 with (fail)
  rw [HV.out]
  obtain ⟨⟨a0, a1, a2, a3, a4, a5⟩, _⟩ := O1.out
  obtain ⟨⟨d0, d1, d2, d3, d4, d5⟩, _⟩ := O2.out
  cases h1 : lsx x y with
  | true =>
    rw [show lessB x.1 x.2.1 x.2.2.1 x.2.2.2.1 x.2.2.2.2.1 x.2.2.2.2.2 y.1 y.2.1 y.2.2.1 y.2.2.2.1 y.2.2.2.2.1 y.2.2.2.2.2 = true from h1] at c1
    have HZ1 : Hid (-1 = z) := by show _ = _; rw [← HZ.out]; unfold cmpX; rw [if_pos h1]
    clear h1
    go_wp2_with fail
    refine (c1.out _).mono ?_
    rintro e w1 ⟨rfl, hb⟩
    have HB1 := Lib.hid (HB.out.trans (hb.mono HB.out.size))
    clear hb HB
    go_wp2_with fail
    go_ret
    exact ⟨by rw [HZ1.out]; rfl, HB1.out⟩
  | false =>
    rw [show lessB x.1 x.2.1 x.2.2.1 x.2.2.2.1 x.2.2.2.2.1 x.2.2.2.2.2 y.1 y.2.1 y.2.2.1 y.2.2.2.1 y.2.2.2.2.1 y.2.2.2.2.2 = false from h1] at c1
    have H1 := Lib.hid h1
    clear h1
    cases h2 : lsx y x with
    | true =>
      rw [show lessB y.1 y.2.1 y.2.2.1 y.2.2.2.1 y.2.2.2.2.1 y.2.2.2.2.2 x.1 x.2.1 x.2.2.1 x.2.2.2.1 x.2.2.2.2.1 x.2.2.2.2.2 = true from h2] at c2
      have HZ1 : Hid (1 = z) := by show _ = _; rw [← HZ.out]; unfold cmpX; rw [if_neg (by rw [H1.out]; decide), if_pos h2]
      clear h2
      go_wp2_with fail
      refine (c1.out _).mono ?_
      rintro e w1 ⟨rfl, hb⟩
      have HB1 := Lib.hid (HB.out.trans (hb.mono HB.out.size))
      have O3 := Lib.hid (O1.out.below hb)
      have O4 := Lib.hid (O2.out.below hb)
      clear hb HB a0 a1 a2 a3 a4 a5 d0 d1 d2 d3 d4 d5
      obtain ⟨⟨a0, a1, a2, a3, a4, a5⟩, _⟩ := O3.out
      obtain ⟨⟨d0, d1, d2, d3, d4, d5⟩, _⟩ := O4.out
      go_wp2_with fail
      refine (c2.out _).mono ?_
      rintro e w2 ⟨rfl, hb⟩
      have HB2 := Lib.hid (HB1.out.trans (hb.mono HB1.out.size))
      clear hb HB1 a0 a1 a2 a3 a4 a5 d0 d1 d2 d3 d4 d5
      go_wp2_with fail
      go_ret
      exact ⟨by rw [HZ1.out]; rfl, HB2.out⟩
    | false =>
      rw [show lessB y.1 y.2.1 y.2.2.1 y.2.2.2.1 y.2.2.2.2.1 y.2.2.2.2.2 x.1 x.2.1 x.2.2.1 x.2.2.2.1 x.2.2.2.2.1 x.2.2.2.2.2 = false from h2] at c2
      have HZ1 : Hid (0 = z) := by show _ = _; rw [← HZ.out]; unfold cmpX; rw [if_neg (by rw [H1.out]; decide), if_neg (by rw [h2]; decide)]
      clear h2
      go_wp2_with fail
      refine (c1.out _).mono ?_
      rintro e w1 ⟨rfl, hb⟩
      have HB1 := Lib.hid (HB.out.trans (hb.mono HB.out.size))
      have O3 := Lib.hid (O1.out.below hb)
      have O4 := Lib.hid (O2.out.below hb)
      clear hb HB a0 a1 a2 a3 a4 a5 d0 d1 d2 d3 d4 d5
      obtain ⟨⟨a0, a1, a2, a3, a4, a5⟩, _⟩ := O3.out
      obtain ⟨⟨d0, d1, d2, d3, d4, d5⟩, _⟩ := O4.out
      go_wp2_with fail
      refine (c2.out _).mono ?_
      rintro e w2 ⟨rfl, hb⟩
      have HB2 := Lib.hid (HB1.out.trans (hb.mono HB1.out.size))
      clear hb HB1 a0 a1 a2 a3 a4 a5 d0 d1 d2 d3 d4 d5
      go_wp2_with fail
      go_ret
      exact ⟨by rw [HZ1.out]; rfl, HB2.out⟩
set_option maxHeartbeats 8000000 in
theorem vget_any (v : Value) (l : List Vw) (id : Int) (w : World) (h : Vs w v l) (hl : l.length ≤ maxLen) :
    Calls Try.prog 10 #[v, .int .i64 id] w fun e w' => e = .returned (.tuple #[hxV (getV l id), .bool (getB l id)]) ∧ Below w.heap.size w w' := by
  obtain ⟨a, c, rfl⟩ := h.form
  have hml : l.length ≤ 9223372036854775807 := Nat.le_trans hl (by decide)
  obtain ⟨w1, hw1⟩ : ∃ w1, w.alloc (.cells #[.bool false, .int .i64 0, .int .i64 0, .int .i64 0, .int .i64 0, .int .i64 0] 24) = w1 := ⟨_, rfl⟩
  have hb0 : Below w.heap.size w w1 := hw1 ▸ (Below.refl _ w).alloc (Nat.le_refl _) _
  have OV := Lib.hid (hw1 ▸ own6_alloc w false 0 0 0 0 0 24 w.heap.size rfl : Own6 w1 w.heap.size false 0 0 0 0 0)
  have HV := Lib.hid (h.below hb0)
  have HB := Lib.hid hb0
  have OVL := Lib.hid (World.block_lt_of_cell? w1 _ OV.out.1.1 : w.heap.size < w1.heap.size)
  clear h hb0
  go_enter Try.func10, Try.ntmps10
  go_upto_region 1 with (fail)
  clear hw1
  go_wp2_with fail
  go_loopw [10] (fun i wr => ∃ k : Nat, k ≤ l.length ∧ i = .int .i64 k ∧ Hid (∀ i, i < k → (l.getD i zVw).1 ≠ id) ∧ Hid (Below w1.heap.size w1 wr)) (fun i _ => l.length - (intOf i).toNat)
  case atStart => exact ⟨0, Nat.zero_le _, rfl, fun i h => absurd h (Nat.not_lt_zero _), Below.refl _ _⟩
  case round =>
    obtain ⟨k, hk, rfl, HNO, HB1⟩ := hrel
    by_cases hlt : k < l.length
    · obtain ⟨b2, off, rfl, hB, p0, p1, p2, p3, p4, p5, p6⟩ := (HV.out.below HB1.out).at hlt
      obtain ⟨y, hy⟩ : ∃ y, l.getD k zVw = y := ⟨_, rfl⟩
      rw [hy] at p0 p1 p2 p3 p4 p5 p6
      have HY := Lib.hid hy
      clear hy
      obtain ⟨V, hV⟩ : ∃ V, wr.alloc (.cells #[.int .i64 y.1, .bool y.2.1, .int .i64 y.2.2.1, .int .i64 y.2.2.2.1, .int .i64 y.2.2.2.2.1, .int .i64 y.2.2.2.2.2.1, .int .i64 y.2.2.2.2.2.2] 40) = V := ⟨_, rfl⟩
      have hbv : Below wr.heap.size wr V := hV ▸ (Below.refl _ wr).alloc (Nat.le_refl _) _
      have oy : OwnV V wr.heap.size y := hV ▸ ownV_alloc wr y wr.heap.size rfl 40
      have HBV := Lib.hid (HB1.out.trans (hbv.mono HB1.out.size))
      have OV2 := Lib.hid (OV.out.below HBV.out)
      obtain ⟨⟨d0, d1, d2, d3, d4, d5, d6⟩, df⟩ := oy
      simp only [Nat.zero_add] at d1 d2 d3 d4 d5 d6
      by_cases hd : y.1 = id
      · have hq : (y.1 == id) = true := by simpa using hd
        have hga := get_at hlt HNO.out (by rw [HY.out]; exact hd)
        rw [HY.out] at hga
        have HGA := Lib.hid hga
        clear hd hga hbv hB
        go_upto_region 4 with (fail)
        clear p0 p1 p2 p3 p4 p5 p6 hV
        obtain ⟨⟨u0, u1, u2, u3, u4, u5⟩, uf⟩ := OV2.out
        have hne : w.heap.size ≠ wr.heap.size := by have h1 := OVL.out; have h2 := HB1.out.size; omega
        have hne2 : wr.heap.size ≠ w.heap.size := hne.symm
        go_wp2_with fail
        have hs := vset6 OV2.out.1 y.2.1 y.2.2.1 y.2.2.2.1 y.2.2.2.2.1 y.2.2.2.2.2.1 y.2.2.2.2.2.2
        have hcg := vbel_set6 (HB.out.trans (HBV.out.mono (Nat.le_of_lt OVL.out))) (Nat.le_refl _) y.2.1 y.2.2.1 y.2.2.2.1 y.2.2.2.2.1 y.2.2.2.2.2.1 y.2.2.2.2.2.2
        generalize (((((V.setCell ⟨w.heap.size, 0, none⟩ (.bool y.2.1)).setCell ⟨w.heap.size, 1, none⟩ (.int .i64 y.2.2.1)).setCell ⟨w.heap.size, 2, none⟩ (.int .i64 y.2.2.2.1)).setCell ⟨w.heap.size, 3, none⟩ (.int .i64 y.2.2.2.2.1)).setCell ⟨w.heap.size, 4, none⟩ (.int .i64 y.2.2.2.2.2.1)).setCell ⟨w.heap.size, 5, none⟩ (.int .i64 y.2.2.2.2.2.2) = W5 at *
        obtain ⟨s0_, s1_, s2_, s3_, s4_, s5_⟩ := hs
        exact bodyPost_ret (v := .tuple #[hxV y.2, .bool true]) (by simp [results, Try.results10, go_sem, s0_, s1_, s2_, s3_, s4_, s5_]) rfl ⟨by rw [HGA.out.1, HGA.out.2], hcg⟩
      · have hq : (y.1 == id) = false := by simpa using hd
        have HD := Lib.hid hd
        clear hd hbv hB
        go_upto_region 4 with (fail)
        clear p0 p1 p2 p3 p4 p5 p6 hV
        go_wp2_with fail
        go_roundw
        case rel =>
          refine ⟨k + 1, by omega, by go_num, ?_, HBV⟩
          intro i hi
          by_cases h : i < k
          · exact HNO.out i h
          · obtain rfl : i = k := by omega
            rw [HY.out]; exact HD.out
        case measure => simp [intOf]; omega
    · obtain rfl : k = l.length := by omega
      have HGN := Lib.hid (get_no HNO.out)
      have OV2 := Lib.hid (OV.out.below HB1.out)
      obtain ⟨⟨u0, u1, u2, u3, u4, u5⟩, uf⟩ := OV2.out
      go_wp2_with fail
      have hs := vset6 OV2.out.1 false 0 0 0 0 0
      have hcg := vbel_set6 (HB.out.trans (HB1.out.mono (Nat.le_of_lt OVL.out))) (Nat.le_refl _) false 0 0 0 0 0
      generalize (((((wr.setCell ⟨w.heap.size, 0, none⟩ (.bool false)).setCell ⟨w.heap.size, 1, none⟩ (.int .i64 0)).setCell ⟨w.heap.size, 2, none⟩ (.int .i64 0)).setCell ⟨w.heap.size, 3, none⟩ (.int .i64 0)).setCell ⟨w.heap.size, 4, none⟩ (.int .i64 0)).setCell ⟨w.heap.size, 5, none⟩ (.int .i64 0) = W5 at *
      obtain ⟨s0_, s1_, s2_, s3_, s4_, s5_⟩ := hs
      exact bodyPost_ret (v := .tuple #[hxV zHx, .bool false]) (by simp [results, Try.results10, go_sem, s0_, s1_, s2_, s3_, s4_, s5_, zHx]) rfl ⟨by rw [HGN.out.1, HGN.out.2], hcg⟩
end Go.Proofs.Ytahhhegknmiinaa
