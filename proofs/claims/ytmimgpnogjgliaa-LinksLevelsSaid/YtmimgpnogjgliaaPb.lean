/- The program's views: isTold, compare, Get, Lowest. No conditions but on lengths. The program's views: Lowest. No conditions but on lengths. The program's views: Check. No conditions but on lengths. -/
import Derived.Test.YtmimgpnogjgliaaVb
import Derived.Deep.RegionHeld
namespace Go.Proofs.Ytmimgpnogjgliaa
set_option maxRecDepth 100000
open Go.RowKit

set_option maxHeartbeats 4000000 in
theorem visT_any (y : Vw) (w : World) : Calls Try.prog 48 #[vwV y] w fun e w' => e = .returned (.bool (tld y.2)) ∧ Below w.heap.size w w' := by
  obtain ⟨i, m, t, o, r, d, k⟩ := y
  have hb0 : Below w.heap.size w (w.alloc (.cells #[.int .i64 i, .bool m, .int .i64 t, .int .i64 o, .int .i64 r, .int .i64 d, .int .i64 k] 43)) := (Below.refl _ w).alloc (Nat.le_refl _) _
  have HB := Lib.hid hb0
  clear hb0
  show Calls Try.prog 48 #[.agg #[.int .i64 i, .bool m, .int .i64 t, .int .i64 o, .int .i64 r, .int .i64 d, .int .i64 k]] w fun e w' => e = .returned (.bool (told m t o r d k)) ∧ Below w.heap.size w w'
  cases m with
  | true =>
    go_enter Try.func48, Try.ntmps48
    go_wp2_with fail
    go_ret
    exact ⟨rfl, HB.out⟩
  | false =>
    by_cases h : HtOk false t o r d k
    · have C := Lib.hid (fun W => check_any false t o r d k W)
      rw [chk_ok h] at C
      have ht : told false t o r d k = true := by unfold told; rw [decide_eq_true h]; rfl
      rw [ht]
      clear h ht
      go_enter Try.func48, Try.ntmps48
      go_wp2_with fail
      refine (C.out _).mono ?_
      rintro e w1 ⟨rfl, hb⟩
      have HB1 := Lib.hid (HB.out.trans (hb.mono HB.out.size))
      clear hb HB
      go_wp2_with fail
      go_ret
      exact ⟨rfl, HB1.out⟩
    · have C := Lib.hid (fun W => check_any false t o r d k W)
      rw [chk_no h] at C
      have ht : told false t o r d k = false := by unfold told; rw [decide_eq_false h]; rfl
      rw [ht]
      clear h ht
      go_enter Try.func48, Try.ntmps48
      go_wp2_with fail
      refine (C.out _).mono ?_
      rintro e w1 ⟨rfl, hb⟩
      have HB1 := Lib.hid (HB.out.trans (hb.mono HB.out.size))
      clear hb HB
      go_wp2_with fail
      go_ret
      exact ⟨rfl, HB1.out⟩
/-- What compare answers. -/
def cmpX (x y : Hx) : Int := if lsx x y = true then -1 else if lsx y x = true then 1 else 0
set_option maxHeartbeats 4000000 in
theorem vcmp_any (x y : Hx) (w : World) : Calls Try.prog 63 #[hxV x, hxV y] w fun e w' => e = .returned (.int .i64 (cmpX x y)) ∧ Below w.heap.size w w' := by
  obtain ⟨z, hz⟩ : ∃ z, cmpX x y = z := ⟨_, rfl⟩
  rw [hz]
  have HZ := Lib.hid hz
  clear hz
  obtain ⟨V, hV⟩ : ∃ V, (w.alloc (.cells #[.bool x.1, .int .i64 x.2.1, .int .i64 x.2.2.1, .int .i64 x.2.2.2.1, .int .i64 x.2.2.2.2.1, .int .i64 x.2.2.2.2.2] 24)).alloc (.cells #[.bool y.1, .int .i64 y.2.1, .int .i64 y.2.2.1, .int .i64 y.2.2.2.1, .int .i64 y.2.2.2.2.1, .int .i64 y.2.2.2.2.2] 24) = V := ⟨_, rfl⟩
  have hb1 : Below w.heap.size w (w.alloc (.cells #[.bool x.1, .int .i64 x.2.1, .int .i64 x.2.2.1, .int .i64 x.2.2.2.1, .int .i64 x.2.2.2.2.1, .int .i64 x.2.2.2.2.2] 24)) := (Below.refl _ w).alloc (Nat.le_refl _) _
  have hb2 : Below w.heap.size w V := hV ▸ hb1.alloc hb1.size _
  have o1 : Own6 V w.heap.size x.1 x.2.1 x.2.2.1 x.2.2.2.1 x.2.2.2.2.1 x.2.2.2.2.2 := hV ▸ (own6_alloc w x.1 x.2.1 x.2.2.1 x.2.2.2.1 x.2.2.2.2.1 x.2.2.2.2.2 24 w.heap.size rfl).below ((Below.refl _ _).alloc (Nat.le_refl _) _)
  have o2 : Own6 V (w.heap.size + 1) y.1 y.2.1 y.2.2.1 y.2.2.2.1 y.2.2.2.2.1 y.2.2.2.2.2 := hV ▸ own6_alloc (w.alloc (.cells #[.bool x.1, .int .i64 x.2.1, .int .i64 x.2.2.1, .int .i64 x.2.2.2.1, .int .i64 x.2.2.2.2.1, .int .i64 x.2.2.2.2.2] 24)) y.1 y.2.1 y.2.2.1 y.2.2.2.1 y.2.2.2.2.1 y.2.2.2.2.2 24 (w.heap.size + 1) (by simp)
  have HB := Lib.hid hb2
  have HV := Lib.hid hV
  have O1 := Lib.hid o1
  have O2 := Lib.hid o2
  clear hb1 hb2 hV o1 o2
  have c1 := Lib.hid (fun W => less_any x.1 x.2.1 x.2.2.1 x.2.2.2.1 x.2.2.2.2.1 x.2.2.2.2.2 y.1 y.2.1 y.2.2.1 y.2.2.2.1 y.2.2.2.2.1 y.2.2.2.2.2 W)
  have c2 := Lib.hid (fun W => less_any y.1 y.2.1 y.2.2.1 y.2.2.2.1 y.2.2.2.2.1 y.2.2.2.2.2 x.1 x.2.1 x.2.2.1 x.2.2.2.1 x.2.2.2.2.1 x.2.2.2.2.2 W)
  go_enter Try.func63, Try.ntmps63
  go_upto_region 1 with (fail)
  rw [HV.out]
  obtain ⟨⟨a0, a1, a2, a3, a4, a5⟩, _⟩ := O1.out
  obtain ⟨⟨d0, d1, d2, d3, d4, d5⟩, _⟩ := O2.out
  cases h1 : lsx x y with
  | true =>
    rw [show lessB x.1 x.2.1 x.2.2.1 x.2.2.2.1 x.2.2.2.2.1 x.2.2.2.2.2 y.1 y.2.1 y.2.2.1 y.2.2.2.1 y.2.2.2.2.1 y.2.2.2.2.2 = true from h1] at c1
    have HZ1 : Hid (-1 = z) := by show _ = _; rw [← HZ.out]; unfold cmpX; rw [if_pos h1]
    clear h1
    go_wp2_with fail
    refine (c1.out _).mono ?_
    rintro e w1 ⟨rfl, hb⟩
    have HB1 := Lib.hid (HB.out.trans (hb.mono HB.out.size))
    clear hb HB
    go_wp2_with fail
    go_ret
    exact ⟨by rw [HZ1.out]; rfl, HB1.out⟩
  | false =>
    rw [show lessB x.1 x.2.1 x.2.2.1 x.2.2.2.1 x.2.2.2.2.1 x.2.2.2.2.2 y.1 y.2.1 y.2.2.1 y.2.2.2.1 y.2.2.2.2.1 y.2.2.2.2.2 = false from h1] at c1
    have H1 := Lib.hid h1
    clear h1
    cases h2 : lsx y x with
    | true =>
      rw [show lessB y.1 y.2.1 y.2.2.1 y.2.2.2.1 y.2.2.2.2.1 y.2.2.2.2.2 x.1 x.2.1 x.2.2.1 x.2.2.2.1 x.2.2.2.2.1 x.2.2.2.2.2 = true from h2] at c2
      have HZ1 : Hid (1 = z) := by show _ = _; rw [← HZ.out]; unfold cmpX; rw [if_neg (by rw [H1.out]; decide), if_pos h2]
      clear h2
      go_wp2_with fail
      refine (c1.out _).mono ?_
      rintro e w1 ⟨rfl, hb⟩
      have HB1 := Lib.hid (HB.out.trans (hb.mono HB.out.size))
      have O3 := Lib.hid (O1.out.below hb)
      have O4 := Lib.hid (O2.out.below hb)
      clear hb HB a0 a1 a2 a3 a4 a5 d0 d1 d2 d3 d4 d5
      obtain ⟨⟨a0, a1, a2, a3, a4, a5⟩, _⟩ := O3.out
      obtain ⟨⟨d0, d1, d2, d3, d4, d5⟩, _⟩ := O4.out
      go_wp2_with fail
      refine (c2.out _).mono ?_
      rintro e w2 ⟨rfl, hb⟩
      have HB2 := Lib.hid (HB1.out.trans (hb.mono HB1.out.size))
      clear hb HB1 a0 a1 a2 a3 a4 a5 d0 d1 d2 d3 d4 d5
      go_wp2_with fail
      go_ret
      exact ⟨by rw [HZ1.out]; rfl, HB2.out⟩
    | false =>
      rw [show lessB y.1 y.2.1 y.2.2.1 y.2.2.2.1 y.2.2.2.2.1 y.2.2.2.2.2 x.1 x.2.1 x.2.2.1 x.2.2.2.1 x.2.2.2.2.1 x.2.2.2.2.2 = false from h2] at c2
      have HZ1 : Hid (0 = z) := by show _ = _; rw [← HZ.out]; unfold cmpX; rw [if_neg (by rw [H1.out]; decide), if_neg (by rw [h2]; decide)]
      clear h2
      go_wp2_with fail
      refine (c1.out _).mono ?_
      rintro e w1 ⟨rfl, hb⟩
      have HB1 := Lib.hid (HB.out.trans (hb.mono HB.out.size))
      have O3 := Lib.hid (O1.out.below hb)
      have O4 := Lib.hid (O2.out.below hb)
      clear hb HB a0 a1 a2 a3 a4 a5 d0 d1 d2 d3 d4 d5
      obtain ⟨⟨a0, a1, a2, a3, a4, a5⟩, _⟩ := O3.out
      obtain ⟨⟨d0, d1, d2, d3, d4, d5⟩, _⟩ := O4.out
      go_wp2_with fail
      refine (c2.out _).mono ?_
      rintro e w2 ⟨rfl, hb⟩
      have HB2 := Lib.hid (HB1.out.trans (hb.mono HB1.out.size))
      clear hb HB1 a0 a1 a2 a3 a4 a5 d0 d1 d2 d3 d4 d5
      go_wp2_with fail
      go_ret
      exact ⟨by rw [HZ1.out]; rfl, HB2.out⟩
set_option maxHeartbeats 8000000 in
theorem vget_any (v : Value) (l : List Vw) (id : Int) (w : World) (h : Vs w v l) (hl : l.length ≤ maxLen) :
    Calls Try.prog 31 #[v, .int .i64 id] w fun e w' => e = .returned (.tuple #[hxV (getV l id), .bool (getB l id)]) ∧ Below w.heap.size w w' := by
  obtain ⟨a, c, rfl⟩ := h.form
  have hml : l.length ≤ 9223372036854775807 := Nat.le_trans hl (by decide)
  obtain ⟨w1, hw1⟩ : ∃ w1, w.alloc (.cells #[.bool false, .int .i64 0, .int .i64 0, .int .i64 0, .int .i64 0, .int .i64 0] 24) = w1 := ⟨_, rfl⟩
  have hb0 : Below w.heap.size w w1 := hw1 ▸ (Below.refl _ w).alloc (Nat.le_refl _) _
  have OV := Lib.hid (hw1 ▸ own6_alloc w false 0 0 0 0 0 24 w.heap.size rfl : Own6 w1 w.heap.size false 0 0 0 0 0)
  have HV := Lib.hid (h.below hb0)
  have HB := Lib.hid hb0
  have OVL := Lib.hid (World.block_lt_of_cell? w1 _ OV.out.1.1 : w.heap.size < w1.heap.size)
  clear h hb0
  go_enter Try.func31, Try.ntmps31
  go_upto_region 1 with (fail)
  clear hw1
  go_wp2_with fail
  go_loopw [10] (fun i wr => ∃ k : Nat, k ≤ l.length ∧ i = .int .i64 k ∧ Hid (∀ i, i < k → (l.getD i zVw).1 ≠ id) ∧ Hid (Below w1.heap.size w1 wr)) (fun i _ => l.length - (intOf i).toNat)
  case atStart => exact ⟨0, Nat.zero_le _, rfl, fun i h => absurd h (Nat.not_lt_zero _), Below.refl _ _⟩
  case round =>
    obtain ⟨k, hk, rfl, HNO, HB1⟩ := hrel
    by_cases hlt : k < l.length
    · obtain ⟨b2, off, rfl, hB, p0, p1, p2, p3, p4, p5, p6⟩ := (HV.out.below HB1.out).at hlt
      obtain ⟨y, hy⟩ : ∃ y, l.getD k zVw = y := ⟨_, rfl⟩
      rw [hy] at p0 p1 p2 p3 p4 p5 p6
      have HY := Lib.hid hy
      clear hy
      obtain ⟨V, hV⟩ : ∃ V, wr.alloc (.cells #[.int .i64 y.1, .bool y.2.1, .int .i64 y.2.2.1, .int .i64 y.2.2.2.1, .int .i64 y.2.2.2.2.1, .int .i64 y.2.2.2.2.2.1, .int .i64 y.2.2.2.2.2.2] 43) = V := ⟨_, rfl⟩
      have hbv : Below wr.heap.size wr V := hV ▸ (Below.refl _ wr).alloc (Nat.le_refl _) _
      have oy : OwnV V wr.heap.size y := hV ▸ ownV_alloc wr y wr.heap.size rfl 43
      have HBV := Lib.hid (HB1.out.trans (hbv.mono HB1.out.size))
      have OV2 := Lib.hid (OV.out.below HBV.out)
      obtain ⟨⟨d0, d1, d2, d3, d4, d5, d6⟩, df⟩ := oy
      simp only [Nat.zero_add] at d1 d2 d3 d4 d5 d6
      by_cases hd : y.1 = id
      · have hq : (y.1 == id) = true := by simpa using hd
        have hga := get_at hlt HNO.out (by rw [HY.out]; exact hd)
        rw [HY.out] at hga
        have HGA := Lib.hid hga
        clear hd hga hbv hB
        go_upto_region 4 with (fail)
        clear p0 p1 p2 p3 p4 p5 p6 hV
        obtain ⟨⟨u0, u1, u2, u3, u4, u5⟩, uf⟩ := OV2.out
        have hne : w.heap.size ≠ wr.heap.size := by have h1 := OVL.out; have h2 := HB1.out.size; omega
        have hne2 : wr.heap.size ≠ w.heap.size := hne.symm
        go_wp2_with fail
        have hs := vset6 OV2.out.1 y.2.1 y.2.2.1 y.2.2.2.1 y.2.2.2.2.1 y.2.2.2.2.2.1 y.2.2.2.2.2.2
        have hcg := vbel_set6 (HB.out.trans (HBV.out.mono (Nat.le_of_lt OVL.out))) (Nat.le_refl _) y.2.1 y.2.2.1 y.2.2.2.1 y.2.2.2.2.1 y.2.2.2.2.2.1 y.2.2.2.2.2.2
        generalize (((((V.setCell ⟨w.heap.size, 0, none⟩ (.bool y.2.1)).setCell ⟨w.heap.size, 1, none⟩ (.int .i64 y.2.2.1)).setCell ⟨w.heap.size, 2, none⟩ (.int .i64 y.2.2.2.1)).setCell ⟨w.heap.size, 3, none⟩ (.int .i64 y.2.2.2.2.1)).setCell ⟨w.heap.size, 4, none⟩ (.int .i64 y.2.2.2.2.2.1)).setCell ⟨w.heap.size, 5, none⟩ (.int .i64 y.2.2.2.2.2.2) = W5 at *
        obtain ⟨s0_, s1_, s2_, s3_, s4_, s5_⟩ := hs
        exact bodyPost_ret (v := .tuple #[hxV y.2, .bool true]) (by simp [results, Try.results31, go_sem, s0_, s1_, s2_, s3_, s4_, s5_]) rfl ⟨by rw [HGA.out.1, HGA.out.2], hcg⟩
      · have hq : (y.1 == id) = false := by simpa using hd
        have HD := Lib.hid hd
        clear hd hbv hB
        go_upto_region 4 with (fail)
        clear p0 p1 p2 p3 p4 p5 p6 hV
        go_wp2_with fail
        go_roundw
        case rel =>
          refine ⟨k + 1, by omega, by go_num, ?_, HBV⟩
          intro i hi
          by_cases h : i < k
          · exact HNO.out i h
          · obtain rfl : i = k := by omega
            rw [HY.out]; exact HD.out
        case measure => simp [intOf]; omega
    · obtain rfl : k = l.length := by omega
      have HGN := Lib.hid (get_no HNO.out)
      have OV2 := Lib.hid (OV.out.below HB1.out)
      obtain ⟨⟨u0, u1, u2, u3, u4, u5⟩, uf⟩ := OV2.out
      go_wp2_with fail
      have hs := vset6 OV2.out.1 false 0 0 0 0 0
      have hcg := vbel_set6 (HB.out.trans (HB1.out.mono (Nat.le_of_lt OVL.out))) (Nat.le_refl _) false 0 0 0 0 0
      generalize (((((wr.setCell ⟨w.heap.size, 0, none⟩ (.bool false)).setCell ⟨w.heap.size, 1, none⟩ (.int .i64 0)).setCell ⟨w.heap.size, 2, none⟩ (.int .i64 0)).setCell ⟨w.heap.size, 3, none⟩ (.int .i64 0)).setCell ⟨w.heap.size, 4, none⟩ (.int .i64 0)).setCell ⟨w.heap.size, 5, none⟩ (.int .i64 0) = W5 at *
      obtain ⟨s0_, s1_, s2_, s3_, s4_, s5_⟩ := hs
      exact bodyPost_ret (v := .tuple #[hxV zHx, .bool false]) (by simp [results, Try.results31, go_sem, s0_, s1_, s2_, s3_, s4_, s5_, zHx]) rfl ⟨by rw [HGN.out.1, HGN.out.2], hcg⟩
end Go.Proofs.Ytmimgpnogjgliaa

namespace Go.Proofs.Ytmimgpnogjgliaa
set_option maxRecDepth 100000
open Go.RowKit

set_option maxHeartbeats 8000000 in
theorem vlow_any (v : Value) (l : List Vw) (w : World) (hv : Vs w v l) (hl : l.length ≤ 1000) :
    Calls Try.prog 26 #[v] w fun e w' => e = .returned (.tuple #[vwV (lowF l).1, .bool (lowF l).2]) ∧ Below w.heap.size w w' := by
  obtain ⟨a, c, rfl⟩ := hv.form
  obtain ⟨w1, hw1⟩ : ∃ w1, (w.alloc (.cells #[.int .i64 0, .bool false, .int .i64 0, .int .i64 0, .int .i64 0, .int .i64 0, .int .i64 0] 43)).alloc (.cells #[.int .i64 0, .bool false, .int .i64 0, .int .i64 0, .int .i64 0, .int .i64 0, .int .i64 0] 43) = w1 := ⟨_, rfl⟩
  have hr1 : OwnV (w.alloc (.cells #[.int .i64 0, .bool false, .int .i64 0, .int .i64 0, .int .i64 0, .int .i64 0, .int .i64 0] 43)) w.heap.size zVw := ownV_alloc w zVw w.heap.size rfl 43
  have hb1 : Below w.heap.size w (w.alloc (.cells #[.int .i64 0, .bool false, .int .i64 0, .int .i64 0, .int .i64 0, .int .i64 0, .int .i64 0] 43)) := (Below.refl _ w).alloc (Nat.le_refl _) _
  have hr2 : OwnV w1 w.heap.size zVw := hw1 ▸ hr1.below ((Below.refl _ _).alloc (Nat.le_refl _) _)
  have hr3 : OwnV w1 (w.heap.size + 1) zVw := hw1 ▸ ownV_alloc (w.alloc (.cells #[.int .i64 0, .bool false, .int .i64 0, .int .i64 0, .int .i64 0, .int .i64 0, .int .i64 0] 43)) zVw (w.heap.size + 1) (by simp) 43
  have hb2 : Below w.heap.size w w1 := hw1 ▸ hb1.alloc hb1.size _
  have HV := Lib.hid hv
  have OR1 := Lib.hid hr2
  have OB1 := Lib.hid hr3
  have HB1 := Lib.hid hb2
  have HW1 := Lib.hid hw1
  clear hv hr1 hb1 hr2 hr3 hb2 hw1
  go_enter Try.func26, Try.ntmps26
  go_upto_region 2 with (fail)
  rw [HW1.out]
  go_wp2_with fail
  go_loopw [5, 10] (fun av i wr => ∃ (k : Nat) (best : Vw) (an : Bool), k ≤ l.length ∧ i = .int .i64 k ∧ av = .bool an ∧ Hid (lowF (l.take k) = (best, an)) ∧ Hid (OwnV wr (w.heap.size + 1) best) ∧ Hid (OwnV wr w.heap.size zVw) ∧ Hid (Below w.heap.size w wr)) (fun _ i _ => l.length - (intOf i).toNat)
  case atStart => exact ⟨0, zVw, false, Nat.zero_le _, rfl, rfl, rfl, OB1.out, OR1.out, HB1.out⟩
  case round =>
    obtain ⟨k, best, an, hk, rfl, rfl, HF, OB, OR, HB⟩ := hrel
    by_cases hlt : k < l.length
    · have hst := low_step l k hlt
      rw [HF.out] at hst
      obtain ⟨b2, off, rfl, hB, p0, p1, p2, p3, p4, p5, p6⟩ := (HV.out.below HB.out).at hlt
      obtain ⟨y, hy⟩ : ∃ y, l.getD k zVw = y := ⟨_, rfl⟩
      rw [hy] at p0 p1 p2 p3 p4 p5 p6 hst
      clear hy
      obtain ⟨V, hV⟩ : ∃ V, wr.alloc (.cells #[.int .i64 y.1, .bool y.2.1, .int .i64 y.2.2.1, .int .i64 y.2.2.2.1, .int .i64 y.2.2.2.2.1, .int .i64 y.2.2.2.2.2.1, .int .i64 y.2.2.2.2.2.2] 43) = V := ⟨_, rfl⟩
      have hbv : Below wr.heap.size wr V := hV ▸ (Below.refl _ wr).alloc (Nat.le_refl _) _
      have OY := Lib.hid (hV ▸ ownV_alloc wr y wr.heap.size rfl 43 : OwnV V wr.heap.size y)
      have HBV := Lib.hid (HB.out.trans (hbv.mono HB.out.size))
      have OBV := Lib.hid (OB.out.below hbv)
      have ORV := Lib.hid (OR.out.below hbv)
      have hne : w.heap.size + 1 ≠ wr.heap.size := by have h1 := OB.out.lt; omega
      have hne2 : wr.heap.size ≠ w.heap.size + 1 := hne.symm
      go_upto_region 6 with (fail)
      clear p0 p1 p2 p3 p4 p5 p6 hV hB hbv OB OR HB
      obtain ⟨⟨d0, d1, d2, d3, d4, d5, d6⟩, df⟩ := OY.out
      simp only [Nat.zero_add] at d1 d2 d3 d4 d5 d6
      have cT := Lib.hid (fun W => visT_any y W)
      have cX := Lib.hid (fun W => less_any y.2.1 y.2.2.1 y.2.2.2.1 y.2.2.2.2.1 y.2.2.2.2.2.1 y.2.2.2.2.2.2 best.2.1 best.2.2.1 best.2.2.2.1 best.2.2.2.2.1 best.2.2.2.2.2.1 best.2.2.2.2.2.2 W)
      cases g2 : tld y.2 with
      | false =>
        rw [g2] at cT
        have HST : Hid (lowF (l.take (k + 1)) = (best, an)) := by
          show _ = _
          rw [hst]
          unfold lowS
          rw [if_neg (fun h => by rw [g2] at h; exact absurd h.1 (by decide))]
        clear hst g2
        go_wp2_with fail
        refine (cT.out _).mono ?_
        rintro e Va ⟨rfl, hb⟩
        have HBa := Lib.hid (HBV.out.trans (hb.mono HBV.out.size))
        have OBa := Lib.hid (OBV.out.below hb)
        have ORa := Lib.hid (ORV.out.below hb)
        have OYa := Lib.hid (OY.out.below hb)
        clear hb HBV OBV ORV OY d0 d1 d2 d3 d4 d5 d6
        obtain ⟨⟨d0, d1, d2, d3, d4, d5, d6⟩, _⟩ := OYa.out
        obtain ⟨⟨e0, e1, e2, e3, e4, e5, e6⟩, ef⟩ := OBa.out
        simp only [Nat.zero_add] at d1 d2 d3 d4 d5 d6 e1 e2 e3 e4 e5 e6
        go_wp2_with fail
        go_roundw
        case rel => exact ⟨k + 1, best, an, by omega, by go_num, rfl, HST.out, OBa.out, ORa.out, HBa.out⟩
        case measure => simp [intOf]; omega
      | true =>
        rw [g2] at cT
        cases an with
        | false =>
          have HST : Hid (lowF (l.take (k + 1)) = (y, true)) := by
            show _ = _
            rw [hst]
            unfold lowS
            rw [if_pos ⟨g2, .inl rfl⟩]
          clear hst g2
          go_wp2_with fail
          refine (cT.out _).mono ?_
          rintro e Va ⟨rfl, hb⟩
          have HBa := Lib.hid (HBV.out.trans (hb.mono HBV.out.size))
          have OBa := Lib.hid (OBV.out.below hb)
          have ORa := Lib.hid (ORV.out.below hb)
          have OYa := Lib.hid (OY.out.below hb)
          clear hb HBV OBV ORV OY d0 d1 d2 d3 d4 d5 d6
          obtain ⟨⟨d0, d1, d2, d3, d4, d5, d6⟩, _⟩ := OYa.out
          obtain ⟨⟨e0, e1, e2, e3, e4, e5, e6⟩, ef⟩ := OBa.out
          simp only [Nat.zero_add] at d1 d2 d3 d4 d5 d6 e1 e2 e3 e4 e5 e6
          go_wp2_with fail
          obtain ⟨V7, hV7⟩ : ∃ V7, ((((((Va.setCell ⟨(w.heap.size + 1), 0, none⟩ (.int .i64 y.1)).setCell ⟨(w.heap.size + 1), 1, none⟩ (.bool y.2.1)).setCell ⟨(w.heap.size + 1), 2, none⟩ (.int .i64 y.2.2.1)).setCell ⟨(w.heap.size + 1), 3, none⟩ (.int .i64 y.2.2.2.1)).setCell ⟨(w.heap.size + 1), 4, none⟩ (.int .i64 y.2.2.2.2.1)).setCell ⟨(w.heap.size + 1), 5, none⟩ (.int .i64 y.2.2.2.2.2.1)).setCell ⟨(w.heap.size + 1), 6, none⟩ (.int .i64 y.2.2.2.2.2.2) = V7 := ⟨_, rfl⟩
          have OB7 := Lib.hid (hV7 ▸ ownV_set7 OBa.out y : OwnV V7 (w.heap.size + 1) y)
          have OR7 := Lib.hid (hV7 ▸ ownV_off7 ORa.out (by omega) y : OwnV V7 w.heap.size zVw)
          have hb7 : Below w.heap.size w V7 := hV7 ▸ vbel_set7 HBa.out (by omega) y
          have HB7 := Lib.hid hb7
          simp only [hV7]
          clear e0 e1 e2 e3 e4 e5 e6 ef hV7 hb7 d0 d1 d2 d3 d4 d5 d6
          go_roundw
          case rel => exact ⟨k + 1, y, true, by omega, by go_num, rfl, HST.out, OB7.out, OR7.out, HB7.out⟩
          case measure => simp [intOf]; omega
        | true =>
          cases g3 : lsx y.2 best.2 with
          | false =>
            rw [show lessB y.2.1 y.2.2.1 y.2.2.2.1 y.2.2.2.2.1 y.2.2.2.2.2.1 y.2.2.2.2.2.2 best.2.1 best.2.2.1 best.2.2.2.1 best.2.2.2.2.1 best.2.2.2.2.2.1 best.2.2.2.2.2.2 = false from g3] at cX
            have HST : Hid (lowF (l.take (k + 1)) = (best, true)) := by
              show _ = _
              rw [hst]
              unfold lowS
              rw [if_neg (fun h => by rw [g3] at h; exact h.2.elim (fun h => by cases h) (fun h => by cases h))]
            clear hst g2 g3
            go_wp2_with fail
            refine (cT.out _).mono ?_
            rintro e Va ⟨rfl, hb⟩
            have HBa := Lib.hid (HBV.out.trans (hb.mono HBV.out.size))
            have OBa := Lib.hid (OBV.out.below hb)
            have ORa := Lib.hid (ORV.out.below hb)
            have OYa := Lib.hid (OY.out.below hb)
            clear hb HBV OBV ORV OY d0 d1 d2 d3 d4 d5 d6
            obtain ⟨⟨d0, d1, d2, d3, d4, d5, d6⟩, _⟩ := OYa.out
            obtain ⟨⟨e0, e1, e2, e3, e4, e5, e6⟩, ef⟩ := OBa.out
            simp only [Nat.zero_add] at d1 d2 d3 d4 d5 d6 e1 e2 e3 e4 e5 e6
            go_wp2_with fail
            refine (cX.out _).mono ?_
            rintro e Vb ⟨rfl, hb⟩
            have HBb := Lib.hid (HBa.out.trans (hb.mono HBa.out.size))
            have OBb := Lib.hid (OBa.out.below hb)
            have ORb := Lib.hid (ORa.out.below hb)
            have OYb := Lib.hid (OYa.out.below hb)
            clear hb HBa OBa ORa OYa d0 d1 d2 d3 d4 d5 d6 e0 e1 e2 e3 e4 e5 e6 ef
            obtain ⟨⟨d0, d1, d2, d3, d4, d5, d6⟩, _⟩ := OYb.out
            obtain ⟨⟨e0, e1, e2, e3, e4, e5, e6⟩, ef⟩ := OBb.out
            simp only [Nat.zero_add] at d1 d2 d3 d4 d5 d6 e1 e2 e3 e4 e5 e6
            go_wp2_with fail
            go_roundw
            case rel => exact ⟨k + 1, best, true, by omega, by go_num, rfl, HST.out, OBb.out, ORb.out, HBb.out⟩
            case measure => simp [intOf]; omega
          | true =>
            rw [show lessB y.2.1 y.2.2.1 y.2.2.2.1 y.2.2.2.2.1 y.2.2.2.2.2.1 y.2.2.2.2.2.2 best.2.1 best.2.2.1 best.2.2.2.1 best.2.2.2.2.1 best.2.2.2.2.2.1 best.2.2.2.2.2.2 = true from g3] at cX
            have HST : Hid (lowF (l.take (k + 1)) = (y, true)) := by
              show _ = _
              rw [hst]
              unfold lowS
              rw [if_pos ⟨g2, .inr g3⟩]
            clear hst g2 g3
            go_wp2_with fail
            refine (cT.out _).mono ?_
            rintro e Va ⟨rfl, hb⟩
            have HBa := Lib.hid (HBV.out.trans (hb.mono HBV.out.size))
            have OBa := Lib.hid (OBV.out.below hb)
            have ORa := Lib.hid (ORV.out.below hb)
            have OYa := Lib.hid (OY.out.below hb)
            clear hb HBV OBV ORV OY d0 d1 d2 d3 d4 d5 d6
            obtain ⟨⟨d0, d1, d2, d3, d4, d5, d6⟩, _⟩ := OYa.out
            obtain ⟨⟨e0, e1, e2, e3, e4, e5, e6⟩, ef⟩ := OBa.out
            simp only [Nat.zero_add] at d1 d2 d3 d4 d5 d6 e1 e2 e3 e4 e5 e6
            go_wp2_with fail
            refine (cX.out _).mono ?_
            rintro e Vb ⟨rfl, hb⟩
            have HBb := Lib.hid (HBa.out.trans (hb.mono HBa.out.size))
            have OBb := Lib.hid (OBa.out.below hb)
            have ORb := Lib.hid (ORa.out.below hb)
            have OYb := Lib.hid (OYa.out.below hb)
            clear hb HBa OBa ORa OYa d0 d1 d2 d3 d4 d5 d6 e0 e1 e2 e3 e4 e5 e6 ef
            obtain ⟨⟨d0, d1, d2, d3, d4, d5, d6⟩, _⟩ := OYb.out
            obtain ⟨⟨e0, e1, e2, e3, e4, e5, e6⟩, ef⟩ := OBb.out
            simp only [Nat.zero_add] at d1 d2 d3 d4 d5 d6 e1 e2 e3 e4 e5 e6
            go_wp2_with fail
            obtain ⟨V7, hV7⟩ : ∃ V7, ((((((Vb.setCell ⟨(w.heap.size + 1), 0, none⟩ (.int .i64 y.1)).setCell ⟨(w.heap.size + 1), 1, none⟩ (.bool y.2.1)).setCell ⟨(w.heap.size + 1), 2, none⟩ (.int .i64 y.2.2.1)).setCell ⟨(w.heap.size + 1), 3, none⟩ (.int .i64 y.2.2.2.1)).setCell ⟨(w.heap.size + 1), 4, none⟩ (.int .i64 y.2.2.2.2.1)).setCell ⟨(w.heap.size + 1), 5, none⟩ (.int .i64 y.2.2.2.2.2.1)).setCell ⟨(w.heap.size + 1), 6, none⟩ (.int .i64 y.2.2.2.2.2.2) = V7 := ⟨_, rfl⟩
            have OB7 := Lib.hid (hV7 ▸ ownV_set7 OBb.out y : OwnV V7 (w.heap.size + 1) y)
            have OR7 := Lib.hid (hV7 ▸ ownV_off7 ORb.out (by omega) y : OwnV V7 w.heap.size zVw)
            have hb7 : Below w.heap.size w V7 := hV7 ▸ vbel_set7 HBb.out (by omega) y
            have HB7 := Lib.hid hb7
            simp only [hV7]
            clear e0 e1 e2 e3 e4 e5 e6 ef hV7 hb7 d0 d1 d2 d3 d4 d5 d6
            go_roundw
            case rel => exact ⟨k + 1, y, true, by omega, by go_num, rfl, HST.out, OB7.out, OR7.out, HB7.out⟩
            case measure => simp [intOf]; omega
    · obtain rfl : k = l.length := by omega
      rw [List.take_length] at HF
      obtain ⟨⟨e0, e1, e2, e3, e4, e5, e6⟩, ef⟩ := OB.out
      obtain ⟨⟨r0, r1, r2, r3, r4, r5, r6⟩, rf⟩ := OR.out
      go_wp2_with fail
      have hs := (ownV_set7 OR.out best).1
      have hcg := vbel_set7 HB.out (Nat.le_refl _) best
      generalize ((((((wr.setCell ⟨w.heap.size, 0, none⟩ (.int .i64 best.1)).setCell ⟨w.heap.size, 1, none⟩ (.bool best.2.1)).setCell ⟨w.heap.size, 2, none⟩ (.int .i64 best.2.2.1)).setCell ⟨w.heap.size, 3, none⟩ (.int .i64 best.2.2.2.1)).setCell ⟨w.heap.size, 4, none⟩ (.int .i64 best.2.2.2.2.1)).setCell ⟨w.heap.size, 5, none⟩ (.int .i64 best.2.2.2.2.2.1)).setCell ⟨w.heap.size, 6, none⟩ (.int .i64 best.2.2.2.2.2.2) = W5 at *
      obtain ⟨s0_, s1_, s2_, s3_, s4_, s5_, s6_⟩ := hs
      simp only [Nat.zero_add] at s1_ s2_ s3_ s4_ s5_ s6_
      exact bodyPost_ret (v := .tuple #[vwV best, .bool an]) (by simp [results, Try.results26, go_sem, s0_, s1_, s2_, s3_, s4_, s5_, s6_]) rfl ⟨by rw [HF.out], hcg⟩
end Go.Proofs.Ytmimgpnogjgliaa

namespace Go.Proofs.Ytmimgpnogjgliaa
set_option maxRecDepth 100000
open Go.RowKit

set_option maxHeartbeats 16000000 in
theorem vchk_any (v : Value) (l : List Vw) (w : World) (h : Vs w v l) (hl : l.length ≤ 1000) :
    Calls Try.prog 25 #[v] w fun e w' => e = .returned (.int .i64 (chkV l)) ∧ Below w.heap.size w w' := by
  obtain ⟨a, c, rfl⟩ := h.form
  obtain ⟨z0, hz0⟩ : ∃ z0, chkV l = z0 := ⟨_, rfl⟩
  rw [hz0]
  have HV := Lib.hid h
  have HZ0 := Lib.hid hz0
  clear h hz0
  go_enter Try.func25, Try.ntmps25
  go_wp2_with fail
  go_loopw [7] (fun i wr => ∃ k : Nat, k ≤ l.length ∧ i = .int .i64 k ∧ Hid (∀ i, i < k → VwAt l i) ∧ Hid (Below w.heap.size w wr)) (fun i _ => l.length - (intOf i).toNat)
  case atStart => exact ⟨0, Nat.zero_le _, rfl, fun i h => absurd h (Nat.not_lt_zero _), Below.refl _ _⟩
  case round =>
    obtain ⟨k, hk, rfl, HO, HW⟩ := hrel
    by_cases hlt : k < l.length
    · have hv := HV.out.below HW.out
      obtain ⟨b, off, rfl, hB, p0, p1, p2, p3, p4, p5, p6⟩ := hv.at hlt
      have hprev : 0 < k → wr.cell? ⟨b, off + (k - 1) * 7, none⟩ = some (.int .i64 (l.getD (k - 1) zVw).1) := fun h0 => (hv.all (i := k - 1) (by omega)).2.1
      obtain ⟨y, hy⟩ : ∃ y, l.getD k zVw = y := ⟨_, rfl⟩
      obtain ⟨z, hz⟩ : ∃ z, (l.getD (k - 1) zVw).1 = z := ⟨_, rfl⟩
      rw [hz] at hprev
      rw [hy] at p0 p1 p2 p3 p4 p5 p6
      have HAT : Hid (VwAt l k ↔ NodeOk y.1 ∧ (0 < k → z < y.1) ∧ hOk y.2 ∧ y.2.2.2.2.2.2 = y.1) := by
        show _ ↔ _
        unfold VwAt
        rw [hy, hz]
      clear hy hz hv
      obtain ⟨V, hV⟩ : ∃ V, wr.alloc (.cells #[.int .i64 y.1, .bool y.2.1, .int .i64 y.2.2.1, .int .i64 y.2.2.2.1, .int .i64 y.2.2.2.2.1, .int .i64 y.2.2.2.2.2.1, .int .i64 y.2.2.2.2.2.2] 43) = V := ⟨_, rfl⟩
      have hb1 : Below wr.heap.size wr V := hV ▸ (Below.refl _ wr).alloc (Nat.le_refl _) _
      have OY := Lib.hid (hV ▸ ownV_alloc wr y wr.heap.size rfl 43 : OwnV V wr.heap.size y)
      obtain ⟨⟨d0, d1, d2, d3, d4, d5, d6⟩, df⟩ := OY.out
      simp only [Nat.zero_add] at d1 d2 d3 d4 d5 d6
      have HPV : Hid (0 < k → V.cell? ⟨b, off + (k - 1) * 7, none⟩ = some (.int .i64 z) ∧ b < V.heap.size) := fun h0 => ⟨(hb1.cell (p := ⟨b, off + (k - 1) * 7, none⟩) hB).trans (hprev h0), Nat.lt_of_lt_of_le hB hb1.size⟩
      have HBV := Lib.hid (HW.out.trans (hb1.mono HW.out.size))
      have HN : Hid (¬ VwAt l k → (1 : Int) = z0) := fun h => by rw [← HZ0.out]; unfold chkV; rw [if_neg (fun h2 => h (h2 k hlt))]
      go_upto_region 4 with (fail)
      clear p0 p1 p2 p3 p4 p5 p6 hV hprev hb1 hB
      by_cases g5 : y.2.2.2.2.2.2 = y.1
      · have hq : (y.1 != y.2.2.2.2.2.2) = false := by rw [g5]; simp
        have hq2 : (!(y.1 == y.2.2.2.2.2.2)) = false := by rw [g5]; simp
        have G5 := Lib.hid g5
        clear g5
        by_cases g4 : hOk y.2
        · have cE := Lib.hid (fun W => check_any y.2.1 y.2.2.1 y.2.2.2.1 y.2.2.2.2.1 y.2.2.2.2.2.1 y.2.2.2.2.2.2 W)
          rw [chk_ok (show HtOk y.2.1 y.2.2.1 y.2.2.2.1 y.2.2.2.2.1 y.2.2.2.2.2.1 y.2.2.2.2.2.2 from g4)] at cE
          have G4 := Lib.hid g4
          clear g4
          go_wp2_with fail
          refine (cE.out _).mono ?_
          rintro e Va ⟨rfl, hb⟩
          have HBA := Lib.hid (HBV.out.trans (hb.mono HBV.out.size))
          have OYA := Lib.hid (OY.out.below hb)
          have HPA : Hid (0 < k → Va.cell? ⟨b, off + (k - 1) * 7, none⟩ = some (.int .i64 z) ∧ b < Va.heap.size) := fun h0 => ⟨(hb.cell (p := ⟨b, off + (k - 1) * 7, none⟩) (HPV.out h0).2).trans (HPV.out h0).1, Nat.lt_of_lt_of_le (HPV.out h0).2 hb.size⟩
          clear hb HBV OY HPV d0 d1 d2 d3 d4 d5 d6 df hq hq2
          obtain ⟨⟨d0, d1, d2, d3, d4, d5, d6⟩, df⟩ := OYA.out
          simp only [Nat.zero_add] at d1 d2 d3 d4 d5 d6
          have hgv : wr.heap.size < Va.heap.size := World.block_lt_of_cell? Va _ d0
          have g4 := G4.out
          have g5 := G5.out
          go_upto_region 6 with (fail)
          rcases Nat.eq_zero_or_pos k with h0 | h0
          · have kc : ∀ w', Below Va.heap.size Va w' → w'.cell? ⟨wr.heap.size, 0, none⟩ = some (.int .i64 y.1) ∧ w'.cell? ⟨wr.heap.size, 1, none⟩ = some (.bool y.2.1) ∧ w'.cell? ⟨wr.heap.size, 2, none⟩ = some (.int .i64 y.2.2.1) ∧ w'.cell? ⟨wr.heap.size, 3, none⟩ = some (.int .i64 y.2.2.2.1) ∧ w'.cell? ⟨wr.heap.size, 4, none⟩ = some (.int .i64 y.2.2.2.2.1) ∧ w'.cell? ⟨wr.heap.size, 5, none⟩ = some (.int .i64 y.2.2.2.2.2.1) ∧ w'.cell? ⟨wr.heap.size, 6, none⟩ = some (.int .i64 y.2.2.2.2.2.2) := fun w' hb => ⟨(hb.cell (p := ⟨wr.heap.size, 0, none⟩) hgv).trans d0, (hb.cell (p := ⟨wr.heap.size, 1, none⟩) hgv).trans d1, (hb.cell (p := ⟨wr.heap.size, 2, none⟩) hgv).trans d2, (hb.cell (p := ⟨wr.heap.size, 3, none⟩) hgv).trans d3, (hb.cell (p := ⟨wr.heap.size, 4, none⟩) hgv).trans d4, (hb.cell (p := ⟨wr.heap.size, 5, none⟩) hgv).trans d5, (hb.cell (p := ⟨wr.heap.size, 6, none⟩) hgv).trans d6⟩
            have HG := Lib.hid (And.intro g4 (And.intro g5 (show 0 < k → z < y.1 from (fun h => absurd h (by omega)))))
            clear g4
            go_upto_region 6 with (fail)
            refine wp_region_typed (C := fun w' => Below Va.heap.size Va w') (X := fun w w' => Below w.heap.size w w') (n := 38) (by kernel_rfl) (by kernel_rfl) rfl (fun w => Below.refl _ w) (Below.refl _ _).drew ?_
            refine w_is (fun w => Below.refl _ w) _ (.inl rfl) (fun ρ w hC hc hfn hf => by have e3 : ρ (.tmp 3) = _ := hf 3 (by decide); (conv => lhs; simp [execOp, go_sem, hc, e3])) ?_
            refine w_is (fun w => Below.refl _ w) _ (.inl rfl) (fun ρ w hC hc hfn hf => by have e24 : ρ (.tmp 24) = _ := hf 24 (by decide); (conv => lhs; simp [execOp, go_sem, hc, e24, h0])) ?_
            refine w_is (fun w => Below.refl _ w) _ (.inl rfl) (fun ρ w hC hc hfn hf => by have e25 : ρ (.tmp 25) = _ := hf 25 (by decide); (conv => lhs; simp [execOp, go_sem, hc, e25])) ?_
            refine w_skip rfl rfl (known_is rfl) ?_
            refine w_skip rfl rfl (known_is rfl) ?_
            refine w_skip rfl rfl (known_is rfl) ?_
            refine w_skip rfl rfl (known_is rfl) ?_
            refine w_skip rfl rfl (known_is rfl) ?_
            refine w_skip rfl rfl (known_is rfl) ?_
            refine w_skip rfl rfl (known_is rfl) ?_
            refine w_skip rfl rfl (known_is rfl) ?_
            refine w_skip rfl rfl (known_is rfl) ?_
            refine w_is (fun w => Below.refl _ w) _ (.inl rfl) (fun ρ w hC hc hfn hf => by have e26 : ρ (.tmp 26) = _ := hf 26 (by decide); have e35 : ρ (.tmp 35) = _ := hf 35 (by decide); (conv => lhs; simp [execOp, go_sem, hc, e26, e35])) ?_
            intro A V5 hC hn hd hf
            have y0 : A.eval (.tmp 0) = _ := Eq.trans (hf 0) (by conv => lhs; simp [go_sem])
            have y1 : A.eval (.tmp 1) = _ := Eq.trans (hf 1) (by conv => lhs; simp [go_sem])
            have y2 : A.eval (.tmp 2) = _ := Eq.trans (hf 2) (by conv => lhs; simp [go_sem])
            have y3 : A.eval (.tmp 3) = _ := Eq.trans (hf 3) (by conv => lhs; simp [go_sem])
            have y4 : A.eval (.tmp 4) = _ := Eq.trans (hf 4) (by conv => lhs; simp [go_sem])
            have y5 : A.eval (.tmp 5) = _ := Eq.trans (hf 5) (by conv => lhs; simp [go_sem])
            have y6 : A.eval (.tmp 6) = _ := Eq.trans (hf 6) (by conv => lhs; simp [go_sem])
            have y7 : A.eval (.tmp 7) = _ := Eq.trans (hf 7) (by conv => lhs; simp [go_sem])
            have y8 : A.eval (.tmp 8) = _ := Eq.trans (hf 8) (by conv => lhs; simp [go_sem])
            have y9 : A.eval (.tmp 9) = _ := Eq.trans (hf 9) (by conv => lhs; simp [go_sem])
            have y10 : A.eval (.tmp 10) = _ := Eq.trans (hf 10) (by conv => lhs; simp [go_sem])
            have y11 : A.eval (.tmp 11) = _ := Eq.trans (hf 11) (by conv => lhs; simp [go_sem])
            have y12 : A.eval (.tmp 12) = _ := Eq.trans (hf 12) (by conv => lhs; simp [go_sem])
            have y13 : A.eval (.tmp 13) = _ := Eq.trans (hf 13) (by conv => lhs; simp [go_sem])
            have y14 : A.eval (.tmp 14) = _ := Eq.trans (hf 14) (by conv => lhs; simp [go_sem])
            have y15 : A.eval (.tmp 15) = _ := Eq.trans (hf 15) (by conv => lhs; simp [go_sem])
            have y16 : A.eval (.tmp 16) = _ := Eq.trans (hf 16) (by conv => lhs; simp [go_sem])
            have y17 : A.eval (.tmp 17) = _ := Eq.trans (hf 17) (by conv => lhs; simp [go_sem])
            have y18 : A.eval (.tmp 18) = _ := Eq.trans (hf 18) (by conv => lhs; simp [go_sem])
            have y19 : A.eval (.tmp 19) = _ := Eq.trans (hf 19) (by conv => lhs; simp [go_sem])
            have y20 : A.eval (.tmp 20) = _ := Eq.trans (hf 20) (by conv => lhs; simp [go_sem])
            have y21 : A.eval (.tmp 21) = _ := Eq.trans (hf 21) (by conv => lhs; simp [go_sem])
            have y22 : A.eval (.tmp 22) = _ := Eq.trans (hf 22) (by conv => lhs; simp [go_sem])
            have y23 : A.eval (.tmp 23) = _ := Eq.trans (hf 23) (by conv => lhs; simp [go_sem])
            have y24 : A.eval (.tmp 24) = _ := hf 24
            have y25 : A.eval (.tmp 25) = _ := hf 25
            have y26 : A.eval (.tmp 26) = _ := hf 26
            have y27 : A.eval (.tmp 27) = _ := hf 27
            have y28 : A.eval (.tmp 28) = _ := hf 28
            have y29 : A.eval (.tmp 29) = _ := hf 29
            have y30 : A.eval (.tmp 30) = _ := hf 30
            have y31 : A.eval (.tmp 31) = _ := hf 31
            have y32 : A.eval (.tmp 32) = _ := hf 32
            have y33 : A.eval (.tmp 33) = _ := hf 33
            have y34 : A.eval (.tmp 34) = _ := hf 34
            have y35 : A.eval (.tmp 35) = _ := hf 35
            have y36 : A.eval (.tmp 36) = _ := hf 36
            have y37 : A.eval (.tmp 37) = _ := Eq.trans (hf 37) (by conv => lhs; simp [go_sem])
            clear hf
            have hA := frame_eq hn
            rw [show List.range 38 = [0, 1, 2, 3, 4, 5, 6, 7, 8, 9, 10, 11, 12, 13, 14, 15, 16, 17, 18, 19, 20, 21, 22, 23, 24, 25, 26, 27, 28, 29, 30, 31, 32, 33, 34, 35, 36, 37] from rfl, hd] at hA
            simp only [List.map_cons, List.map_nil, y0, y1, y2, y3, y4, y5, y6, y7, y8, y9, y10, y11, y12, y13, y14, y15, y16, y17, y18, y19, y20, y21, y22, y23, y24, y25, y26, y27, y28, y29, y30, y31, y32, y33, y34, y35, y36, y37] at hA
            clear y0 y1 y2 y3 y4 y5 y6 y7 y8 y9 y10 y11 y12 y13 y14 y15 y16 y17 y18 y19 y20 y21 y22 y23 y24 y25 y26 y27 y28 y29 y30 y31 y32 y33 y34 y35 y36 y37
            clear hn hd
            subst hA
            go_wp2_with fail
            go_roundw
            case rel =>
              refine ⟨k + 1, by omega, by go_num, ?_, HBA.out.trans (hC.mono HBA.out.size)⟩
              intro i hi
              by_cases h : i < k
              · exact HO.out i h
              · obtain rfl : i = k := by omega
                exact HAT.out.2 ⟨by have h1 := HG.out.1; rw [← HG.out.2.1]; exact h1.1, HG.out.2.2, HG.out.1, HG.out.2.1⟩
            case measure => simp [intOf]; omega
          · obtain ⟨dp, hbv⟩ := HPA.out h0
            have kc : ∀ w', Below Va.heap.size Va w' → w'.cell? ⟨wr.heap.size, 0, none⟩ = some (.int .i64 y.1) ∧ w'.cell? ⟨wr.heap.size, 1, none⟩ = some (.bool y.2.1) ∧ w'.cell? ⟨wr.heap.size, 2, none⟩ = some (.int .i64 y.2.2.1) ∧ w'.cell? ⟨wr.heap.size, 3, none⟩ = some (.int .i64 y.2.2.2.1) ∧ w'.cell? ⟨wr.heap.size, 4, none⟩ = some (.int .i64 y.2.2.2.2.1) ∧ w'.cell? ⟨wr.heap.size, 5, none⟩ = some (.int .i64 y.2.2.2.2.2.1) ∧ w'.cell? ⟨wr.heap.size, 6, none⟩ = some (.int .i64 y.2.2.2.2.2.2) ∧ w'.cell? ⟨b, off + (k - 1) * 7, none⟩ = some (.int .i64 z) := fun w' hb => ⟨(hb.cell (p := ⟨wr.heap.size, 0, none⟩) hgv).trans d0, (hb.cell (p := ⟨wr.heap.size, 1, none⟩) hgv).trans d1, (hb.cell (p := ⟨wr.heap.size, 2, none⟩) hgv).trans d2, (hb.cell (p := ⟨wr.heap.size, 3, none⟩) hgv).trans d3, (hb.cell (p := ⟨wr.heap.size, 4, none⟩) hgv).trans d4, (hb.cell (p := ⟨wr.heap.size, 5, none⟩) hgv).trans d5, (hb.cell (p := ⟨wr.heap.size, 6, none⟩) hgv).trans d6, (hb.cell (p := ⟨b, off + (k - 1) * 7, none⟩) hbv).trans dp⟩
            clear dp
            have w1_ : IntKind.i64.wrap ((k : Int) - 1) = (k : Int) - 1 := by rw [IntKind.wrap_i64]; omega
            have w2_ : (1 : Int) ≤ (k : Int) := by omega
            have w3_ : ((k : Int) - 1).toNat = k - 1 := by omega
            have w4_ : (k : Int) - 1 < (l.length : Int) := by omega
            have w5_ : k - 1 < l.length := by omega
            have w6_ : (0 : Int) ≤ (k : Int) - 1 := by omega
            by_cases g3 : y.1 ≤ z
            · have HG := Lib.hid g3
              have g3' := g3
              clear g4 g5
              go_upto_region 6 with (fail)
              refine wp_region_typed (C := fun w' => Below Va.heap.size Va w') (X := fun w w' => Below w.heap.size w w') (n := 38) (by kernel_rfl) (by kernel_rfl) rfl (fun w => Below.refl _ w) (Below.refl _ _).drew ?_
              refine w_is (fun w => Below.refl _ w) _ (.inl rfl) (fun ρ w hC hc hfn hf => by have e3 : ρ (.tmp 3) = _ := hf 3 (by decide); (conv => lhs; simp [execOp, go_sem, hc, e3])) ?_
              refine w_is (fun w => Below.refl _ w) _ (.inl rfl) (fun ρ w hC hc hfn hf => by have e24 : ρ (.tmp 24) = _ := hf 24 (by decide); (conv => lhs; simp [execOp, go_sem, hc, e24, h0])) ?_
              refine w_is (fun w => Below.refl _ w) _ (.inl rfl) (fun ρ w hC hc hfn hf => by have e25 : ρ (.tmp 25) = _ := hf 25 (by decide); (conv => lhs; simp [execOp, go_sem, hc, e25])) ?_
              refine w_is (fun w => Below.refl _ w) _ (.inr ⟨2, 26, true, rfl, rfl, known_is rfl⟩) (fun ρ w hC hc hfn hf => by have e4 : ρ (.tmp 4) = _ := hf 4 (by decide); (conv => lhs; simp [execOp, go_sem, hc, e4])) ?_
              refine w_is (fun w => Below.refl _ w) _ (.inr ⟨2, 26, true, rfl, rfl, known_is rfl⟩) (fun ρ w hC hc hfn hf => by have e27 : ρ (.tmp 27) = _ := hf 27 (by decide); (conv => lhs; simp [execOp, go_sem, hc, e27, kc w hC])) ?_
              refine w_is (fun w => Below.refl _ w) _ (.inr ⟨2, 26, true, rfl, rfl, known_is rfl⟩) (fun ρ w hC hc hfn hf => by have e0 : ρ (.tmp 0) = _ := hf 0 (by decide); (conv => lhs; simp [execOp, go_sem, hc, e0])) ?_
              refine w_is (fun w => Below.refl _ w) _ (.inr ⟨2, 26, true, rfl, rfl, known_is rfl⟩) (fun ρ w hC hc hfn hf => by have e3 : ρ (.tmp 3) = _ := hf 3 (by decide); (conv => lhs; simp [execOp, go_sem, hc, e3])) ?_
              refine w_is (fun w => Below.refl _ w) _ (.inr ⟨2, 26, true, rfl, rfl, known_is rfl⟩) (fun ρ w hC hc hfn hf => by have e30 : ρ (.tmp 30) = _ := hf 30 (by decide); (conv => lhs; simp [execOp, go_sem, hc, e30, w1_])) ?_
              refine w_is (fun w => Below.refl _ w) _ (.inr ⟨2, 26, true, rfl, rfl, known_is rfl⟩) (fun ρ w hC hc hfn hf => by have e29 : ρ (.tmp 29) = _ := hf 29 (by decide); have e31 : ρ (.tmp 31) = _ := hf 31 (by decide); (conv => lhs; simp [execOp, go_sem, hc, e29, e31, w1_, w2_, w3_, w4_, w5_, w6_])) ?_
              refine w_is (fun w => Below.refl _ w) _ (.inr ⟨2, 26, true, rfl, rfl, known_is rfl⟩) (fun ρ w hC hc hfn hf => by have e32 : ρ (.tmp 32) = _ := hf 32 (by decide); (conv => lhs; simp [execOp, go_sem, hc, e32])) ?_
              refine w_is (fun w => Below.refl _ w) _ (.inr ⟨2, 26, true, rfl, rfl, known_is rfl⟩) (fun ρ w hC hc hfn hf => by have e33 : ρ (.tmp 33) = _ := hf 33 (by decide); (conv => lhs; simp [execOp, go_sem, hc, e33, kc w hC])) ?_
              refine w_is (fun w => Below.refl _ w) _ (.inr ⟨2, 26, true, rfl, rfl, known_is rfl⟩) (fun ρ w hC hc hfn hf => by have e28 : ρ (.tmp 28) = _ := hf 28 (by decide); have e34 : ρ (.tmp 34) = _ := hf 34 (by decide); (conv => lhs; simp [execOp, go_sem, hc, e28, e34, g3])) ?_
              refine w_is (fun w => Below.refl _ w) _ (.inl rfl) (fun ρ w hC hc hfn hf => by have e26 : ρ (.tmp 26) = _ := hf 26 (by decide); have e35 : ρ (.tmp 35) = _ := hf 35 (by decide); (conv => lhs; simp [execOp, go_sem, hc, e26, e35])) ?_
              intro A V5 hC hn hd hf
              have y0 : A.eval (.tmp 0) = _ := Eq.trans (hf 0) (by conv => lhs; simp [go_sem])
              have y1 : A.eval (.tmp 1) = _ := Eq.trans (hf 1) (by conv => lhs; simp [go_sem])
              have y2 : A.eval (.tmp 2) = _ := Eq.trans (hf 2) (by conv => lhs; simp [go_sem])
              have y3 : A.eval (.tmp 3) = _ := Eq.trans (hf 3) (by conv => lhs; simp [go_sem])
              have y4 : A.eval (.tmp 4) = _ := Eq.trans (hf 4) (by conv => lhs; simp [go_sem])
              have y5 : A.eval (.tmp 5) = _ := Eq.trans (hf 5) (by conv => lhs; simp [go_sem])
              have y6 : A.eval (.tmp 6) = _ := Eq.trans (hf 6) (by conv => lhs; simp [go_sem])
              have y7 : A.eval (.tmp 7) = _ := Eq.trans (hf 7) (by conv => lhs; simp [go_sem])
              have y8 : A.eval (.tmp 8) = _ := Eq.trans (hf 8) (by conv => lhs; simp [go_sem])
              have y9 : A.eval (.tmp 9) = _ := Eq.trans (hf 9) (by conv => lhs; simp [go_sem])
              have y10 : A.eval (.tmp 10) = _ := Eq.trans (hf 10) (by conv => lhs; simp [go_sem])
              have y11 : A.eval (.tmp 11) = _ := Eq.trans (hf 11) (by conv => lhs; simp [go_sem])
              have y12 : A.eval (.tmp 12) = _ := Eq.trans (hf 12) (by conv => lhs; simp [go_sem])
              have y13 : A.eval (.tmp 13) = _ := Eq.trans (hf 13) (by conv => lhs; simp [go_sem])
              have y14 : A.eval (.tmp 14) = _ := Eq.trans (hf 14) (by conv => lhs; simp [go_sem])
              have y15 : A.eval (.tmp 15) = _ := Eq.trans (hf 15) (by conv => lhs; simp [go_sem])
              have y16 : A.eval (.tmp 16) = _ := Eq.trans (hf 16) (by conv => lhs; simp [go_sem])
              have y17 : A.eval (.tmp 17) = _ := Eq.trans (hf 17) (by conv => lhs; simp [go_sem])
              have y18 : A.eval (.tmp 18) = _ := Eq.trans (hf 18) (by conv => lhs; simp [go_sem])
              have y19 : A.eval (.tmp 19) = _ := Eq.trans (hf 19) (by conv => lhs; simp [go_sem])
              have y20 : A.eval (.tmp 20) = _ := Eq.trans (hf 20) (by conv => lhs; simp [go_sem])
              have y21 : A.eval (.tmp 21) = _ := Eq.trans (hf 21) (by conv => lhs; simp [go_sem])
              have y22 : A.eval (.tmp 22) = _ := Eq.trans (hf 22) (by conv => lhs; simp [go_sem])
              have y23 : A.eval (.tmp 23) = _ := Eq.trans (hf 23) (by conv => lhs; simp [go_sem])
              have y24 : A.eval (.tmp 24) = _ := hf 24
              have y25 : A.eval (.tmp 25) = _ := hf 25
              have y26 : A.eval (.tmp 26) = _ := hf 26
              have y27 : A.eval (.tmp 27) = _ := hf 27
              have y28 : A.eval (.tmp 28) = _ := hf 28
              have y29 : A.eval (.tmp 29) = _ := hf 29
              have y30 : A.eval (.tmp 30) = _ := hf 30
              have y31 : A.eval (.tmp 31) = _ := hf 31
              have y32 : A.eval (.tmp 32) = _ := hf 32
              have y33 : A.eval (.tmp 33) = _ := hf 33
              have y34 : A.eval (.tmp 34) = _ := hf 34
              have y35 : A.eval (.tmp 35) = _ := hf 35
              have y36 : A.eval (.tmp 36) = _ := hf 36
              have y37 : A.eval (.tmp 37) = _ := Eq.trans (hf 37) (by conv => lhs; simp [go_sem])
              clear hf
              have hA := frame_eq hn
              rw [show List.range 38 = [0, 1, 2, 3, 4, 5, 6, 7, 8, 9, 10, 11, 12, 13, 14, 15, 16, 17, 18, 19, 20, 21, 22, 23, 24, 25, 26, 27, 28, 29, 30, 31, 32, 33, 34, 35, 36, 37] from rfl, hd] at hA
              simp only [List.map_cons, List.map_nil, y0, y1, y2, y3, y4, y5, y6, y7, y8, y9, y10, y11, y12, y13, y14, y15, y16, y17, y18, y19, y20, y21, y22, y23, y24, y25, y26, y27, y28, y29, y30, y31, y32, y33, y34, y35, y36, y37] at hA
              clear y0 y1 y2 y3 y4 y5 y6 y7 y8 y9 y10 y11 y12 y13 y14 y15 y16 y17 y18 y19 y20 y21 y22 y23 y24 y25 y26 y27 y28 y29 y30 y31 y32 y33 y34 y35 y36 y37
              clear hn hd
              subst hA
              go_wp2_with fail
              go_ret
              rw [HN.out (fun h => by have := (HAT.out.1 h).2.1 h0; have := HG.out; omega)]
              exact ⟨rfl, HBA.out.trans (hC.mono HBA.out.size)⟩
            · have g3n : z < y.1 := by omega
              have HG := Lib.hid (And.intro g4 (And.intro g5 (show 0 < k → z < y.1 from (fun _ => g3n))))
              clear g4
              go_upto_region 6 with (fail)
              refine wp_region_typed (C := fun w' => Below Va.heap.size Va w') (X := fun w w' => Below w.heap.size w w') (n := 38) (by kernel_rfl) (by kernel_rfl) rfl (fun w => Below.refl _ w) (Below.refl _ _).drew ?_
              refine w_is (fun w => Below.refl _ w) _ (.inl rfl) (fun ρ w hC hc hfn hf => by have e3 : ρ (.tmp 3) = _ := hf 3 (by decide); (conv => lhs; simp [execOp, go_sem, hc, e3])) ?_
              refine w_is (fun w => Below.refl _ w) _ (.inl rfl) (fun ρ w hC hc hfn hf => by have e24 : ρ (.tmp 24) = _ := hf 24 (by decide); (conv => lhs; simp [execOp, go_sem, hc, e24, h0])) ?_
              refine w_is (fun w => Below.refl _ w) _ (.inl rfl) (fun ρ w hC hc hfn hf => by have e25 : ρ (.tmp 25) = _ := hf 25 (by decide); (conv => lhs; simp [execOp, go_sem, hc, e25])) ?_
              refine w_is (fun w => Below.refl _ w) _ (.inr ⟨2, 26, true, rfl, rfl, known_is rfl⟩) (fun ρ w hC hc hfn hf => by have e4 : ρ (.tmp 4) = _ := hf 4 (by decide); (conv => lhs; simp [execOp, go_sem, hc, e4])) ?_
              refine w_is (fun w => Below.refl _ w) _ (.inr ⟨2, 26, true, rfl, rfl, known_is rfl⟩) (fun ρ w hC hc hfn hf => by have e27 : ρ (.tmp 27) = _ := hf 27 (by decide); (conv => lhs; simp [execOp, go_sem, hc, e27, kc w hC])) ?_
              refine w_is (fun w => Below.refl _ w) _ (.inr ⟨2, 26, true, rfl, rfl, known_is rfl⟩) (fun ρ w hC hc hfn hf => by have e0 : ρ (.tmp 0) = _ := hf 0 (by decide); (conv => lhs; simp [execOp, go_sem, hc, e0])) ?_
              refine w_is (fun w => Below.refl _ w) _ (.inr ⟨2, 26, true, rfl, rfl, known_is rfl⟩) (fun ρ w hC hc hfn hf => by have e3 : ρ (.tmp 3) = _ := hf 3 (by decide); (conv => lhs; simp [execOp, go_sem, hc, e3])) ?_
              refine w_is (fun w => Below.refl _ w) _ (.inr ⟨2, 26, true, rfl, rfl, known_is rfl⟩) (fun ρ w hC hc hfn hf => by have e30 : ρ (.tmp 30) = _ := hf 30 (by decide); (conv => lhs; simp [execOp, go_sem, hc, e30, w1_])) ?_
              refine w_is (fun w => Below.refl _ w) _ (.inr ⟨2, 26, true, rfl, rfl, known_is rfl⟩) (fun ρ w hC hc hfn hf => by have e29 : ρ (.tmp 29) = _ := hf 29 (by decide); have e31 : ρ (.tmp 31) = _ := hf 31 (by decide); (conv => lhs; simp [execOp, go_sem, hc, e29, e31, w1_, w2_, w3_, w4_, w5_, w6_])) ?_
              refine w_is (fun w => Below.refl _ w) _ (.inr ⟨2, 26, true, rfl, rfl, known_is rfl⟩) (fun ρ w hC hc hfn hf => by have e32 : ρ (.tmp 32) = _ := hf 32 (by decide); (conv => lhs; simp [execOp, go_sem, hc, e32])) ?_
              refine w_is (fun w => Below.refl _ w) _ (.inr ⟨2, 26, true, rfl, rfl, known_is rfl⟩) (fun ρ w hC hc hfn hf => by have e33 : ρ (.tmp 33) = _ := hf 33 (by decide); (conv => lhs; simp [execOp, go_sem, hc, e33, kc w hC])) ?_
              refine w_is (fun w => Below.refl _ w) _ (.inr ⟨2, 26, true, rfl, rfl, known_is rfl⟩) (fun ρ w hC hc hfn hf => by have e28 : ρ (.tmp 28) = _ := hf 28 (by decide); have e34 : ρ (.tmp 34) = _ := hf 34 (by decide); (conv => lhs; simp [execOp, go_sem, hc, e28, e34, g3])) ?_
              refine w_is (fun w => Below.refl _ w) _ (.inl rfl) (fun ρ w hC hc hfn hf => by have e26 : ρ (.tmp 26) = _ := hf 26 (by decide); have e35 : ρ (.tmp 35) = _ := hf 35 (by decide); (conv => lhs; simp [execOp, go_sem, hc, e26, e35])) ?_
              intro A V5 hC hn hd hf
              have y0 : A.eval (.tmp 0) = _ := Eq.trans (hf 0) (by conv => lhs; simp [go_sem])
              have y1 : A.eval (.tmp 1) = _ := Eq.trans (hf 1) (by conv => lhs; simp [go_sem])
              have y2 : A.eval (.tmp 2) = _ := Eq.trans (hf 2) (by conv => lhs; simp [go_sem])
              have y3 : A.eval (.tmp 3) = _ := Eq.trans (hf 3) (by conv => lhs; simp [go_sem])
              have y4 : A.eval (.tmp 4) = _ := Eq.trans (hf 4) (by conv => lhs; simp [go_sem])
              have y5 : A.eval (.tmp 5) = _ := Eq.trans (hf 5) (by conv => lhs; simp [go_sem])
              have y6 : A.eval (.tmp 6) = _ := Eq.trans (hf 6) (by conv => lhs; simp [go_sem])
              have y7 : A.eval (.tmp 7) = _ := Eq.trans (hf 7) (by conv => lhs; simp [go_sem])
              have y8 : A.eval (.tmp 8) = _ := Eq.trans (hf 8) (by conv => lhs; simp [go_sem])
              have y9 : A.eval (.tmp 9) = _ := Eq.trans (hf 9) (by conv => lhs; simp [go_sem])
              have y10 : A.eval (.tmp 10) = _ := Eq.trans (hf 10) (by conv => lhs; simp [go_sem])
              have y11 : A.eval (.tmp 11) = _ := Eq.trans (hf 11) (by conv => lhs; simp [go_sem])
              have y12 : A.eval (.tmp 12) = _ := Eq.trans (hf 12) (by conv => lhs; simp [go_sem])
              have y13 : A.eval (.tmp 13) = _ := Eq.trans (hf 13) (by conv => lhs; simp [go_sem])
              have y14 : A.eval (.tmp 14) = _ := Eq.trans (hf 14) (by conv => lhs; simp [go_sem])
              have y15 : A.eval (.tmp 15) = _ := Eq.trans (hf 15) (by conv => lhs; simp [go_sem])
              have y16 : A.eval (.tmp 16) = _ := Eq.trans (hf 16) (by conv => lhs; simp [go_sem])
              have y17 : A.eval (.tmp 17) = _ := Eq.trans (hf 17) (by conv => lhs; simp [go_sem])
              have y18 : A.eval (.tmp 18) = _ := Eq.trans (hf 18) (by conv => lhs; simp [go_sem])
              have y19 : A.eval (.tmp 19) = _ := Eq.trans (hf 19) (by conv => lhs; simp [go_sem])
              have y20 : A.eval (.tmp 20) = _ := Eq.trans (hf 20) (by conv => lhs; simp [go_sem])
              have y21 : A.eval (.tmp 21) = _ := Eq.trans (hf 21) (by conv => lhs; simp [go_sem])
              have y22 : A.eval (.tmp 22) = _ := Eq.trans (hf 22) (by conv => lhs; simp [go_sem])
              have y23 : A.eval (.tmp 23) = _ := Eq.trans (hf 23) (by conv => lhs; simp [go_sem])
              have y24 : A.eval (.tmp 24) = _ := hf 24
              have y25 : A.eval (.tmp 25) = _ := hf 25
              have y26 : A.eval (.tmp 26) = _ := hf 26
              have y27 : A.eval (.tmp 27) = _ := hf 27
              have y28 : A.eval (.tmp 28) = _ := hf 28
              have y29 : A.eval (.tmp 29) = _ := hf 29
              have y30 : A.eval (.tmp 30) = _ := hf 30
              have y31 : A.eval (.tmp 31) = _ := hf 31
              have y32 : A.eval (.tmp 32) = _ := hf 32
              have y33 : A.eval (.tmp 33) = _ := hf 33
              have y34 : A.eval (.tmp 34) = _ := hf 34
              have y35 : A.eval (.tmp 35) = _ := hf 35
              have y36 : A.eval (.tmp 36) = _ := hf 36
              have y37 : A.eval (.tmp 37) = _ := Eq.trans (hf 37) (by conv => lhs; simp [go_sem])
              clear hf
              have hA := frame_eq hn
              rw [show List.range 38 = [0, 1, 2, 3, 4, 5, 6, 7, 8, 9, 10, 11, 12, 13, 14, 15, 16, 17, 18, 19, 20, 21, 22, 23, 24, 25, 26, 27, 28, 29, 30, 31, 32, 33, 34, 35, 36, 37] from rfl, hd] at hA
              simp only [List.map_cons, List.map_nil, y0, y1, y2, y3, y4, y5, y6, y7, y8, y9, y10, y11, y12, y13, y14, y15, y16, y17, y18, y19, y20, y21, y22, y23, y24, y25, y26, y27, y28, y29, y30, y31, y32, y33, y34, y35, y36, y37] at hA
              clear y0 y1 y2 y3 y4 y5 y6 y7 y8 y9 y10 y11 y12 y13 y14 y15 y16 y17 y18 y19 y20 y21 y22 y23 y24 y25 y26 y27 y28 y29 y30 y31 y32 y33 y34 y35 y36 y37
              clear hn hd
              subst hA
              go_wp2_with fail
              go_roundw
              case rel =>
                refine ⟨k + 1, by omega, by go_num, ?_, HBA.out.trans (hC.mono HBA.out.size)⟩
                intro i hi
                by_cases h : i < k
                · exact HO.out i h
                · obtain rfl : i = k := by omega
                  exact HAT.out.2 ⟨by have h1 := HG.out.1; rw [← HG.out.2.1]; exact h1.1, HG.out.2.2, HG.out.1, HG.out.2.1⟩
              case measure => simp [intOf]; omega
        · have cE := Lib.hid (fun W => check_any y.2.1 y.2.2.1 y.2.2.2.1 y.2.2.2.2.1 y.2.2.2.2.2.1 y.2.2.2.2.2.2 W)
          rw [chk_no (show ¬ HtOk y.2.1 y.2.2.1 y.2.2.2.1 y.2.2.2.2.1 y.2.2.2.2.2.1 y.2.2.2.2.2.2 from g4)] at cE
          have G4 := Lib.hid g4
          clear g4
          go_wp2_with fail
          refine (cE.out _).mono ?_
          rintro e Va ⟨rfl, hb⟩
          have HBA := Lib.hid (HBV.out.trans (hb.mono HBV.out.size))
          clear hb HBV OY HPV d0 d1 d2 d3 d4 d5 d6 df hq hq2
          go_wp2_with fail
          go_ret
          rw [HN.out (fun h => G4.out (HAT.out.1 h).2.2.1)]
          exact ⟨rfl, HBA.out⟩
      · have hq : (y.1 != y.2.2.2.2.2.2) = true := by simpa using fun h => g5 h.symm
        have hq2 : (!(y.1 == y.2.2.2.2.2.2)) = true := by simpa using fun h => g5 h.symm
        have G5 := Lib.hid g5
        clear g5
        go_wp2_with fail
        go_ret
        rw [HN.out (fun h => G5.out (HAT.out.1 h).2.2.2)]
        exact ⟨rfl, HBV.out⟩
    · obtain rfl : k = l.length := by omega
      go_wp2_with fail
      go_ret
      rw [← HZ0.out]
      unfold chkV
      rw [if_pos (show VOk l from HO.out)]
      exact ⟨rfl, HW.out⟩
end Go.Proofs.Ytmimgpnogjgliaa
