/- The program's views: Lowest. No conditions but on lengths. -/
import Derived.Test.YtahhhegknmiinaaPa1
namespace Go.Proofs.Ytahhhegknmiinaa
set_option maxRecDepth 100000
open Go.RowKit

set_option maxHeartbeats 8000000 in
theorem vlow_any (v : Value) (l : List Vw) (w : World) (hv : Vs w v l) (hl : l.length ≤ 1000) :
    Calls Try.prog 20 #[v] w fun e w' => e = .returned (.tuple #[vwV (lowF l).1, .bool (lowF l).2]) ∧ Below w.heap.size w w' := by
  obtain ⟨a, c, rfl⟩ := hv.form
  obtain ⟨w1, hw1⟩ : ∃ w1, (w.alloc (.cells #[.int .i64 0, .bool false, .int .i64 0, .int .i64 0, .int .i64 0, .int .i64 0, .int .i64 0] 40)).alloc (.cells #[.int .i64 0, .bool false, .int .i64 0, .int .i64 0, .int .i64 0, .int .i64 0, .int .i64 0] 40) = w1 := ⟨_, rfl⟩
  have hr1 : OwnV (w.alloc (.cells #[.int .i64 0, .bool false, .int .i64 0, .int .i64 0, .int .i64 0, .int .i64 0, .int .i64 0] 40)) w.heap.size zVw := ownV_alloc w zVw w.heap.size rfl 40
  have hb1 : Below w.heap.size w (w.alloc (.cells #[.int .i64 0, .bool false, .int .i64 0, .int .i64 0, .int .i64 0, .int .i64 0, .int .i64 0] 40)) := (Below.refl _ w).alloc (Nat.le_refl _) _
  have hr2 : OwnV w1 w.heap.size zVw := hw1 ▸ hr1.below ((Below.refl _ _).alloc (Nat.le_refl _) _)
  have hr3 : OwnV w1 (w.heap.size + 1) zVw := hw1 ▸ ownV_alloc (w.alloc (.cells #[.int .i64 0, .bool false, .int .i64 0, .int .i64 0, .int .i64 0, .int .i64 0, .int .i64 0] 40)) zVw (w.heap.size + 1) (by simp) 40
  have hb2 : Below w.heap.size w w1 := hw1 ▸ hb1.alloc hb1.size _
  have HV := Lib.hid hv
  have OR1 := Lib.hid hr2
  have OB1 := Lib.hid hr3
  have HB1 := Lib.hid hb2
  have HW1 := Lib.hid hw1
  clear hv hr1 hb1 hr2 hr3 hb2 hw1
  go_enter Try.func20, Try.ntmps20
  go_upto_region 2 with (fail)
  rw [HW1.out]
  go_wp2_with fail
  go_loopw [5, 10] (fun av i wr => ∃ (k : Nat) (best : Vw) (an : Bool), k ≤ l.length ∧ i = .int .i64 k ∧ av = .bool an ∧ Hid (lowF (l.take k) = (best, an)) ∧ Hid (OwnV wr (w.heap.size + 1) best) ∧ Hid (OwnV wr w.heap.size zVw) ∧ Hid (Below w.heap.size w wr)) (fun _ i _ => l.length - (intOf i).toNat)
  case atStart => exact ⟨0, zVw, false, Nat.zero_le _, rfl, rfl, rfl, OB1.out, OR1.out, HB1.out⟩
  case round =>
    obtain ⟨k, best, an, hk, rfl, rfl, HF, OB, OR, HB⟩ := hrel
    by_cases hlt : k < l.length
    · have hst := low_step l k hlt
      rw [HF.out] at hst
      obtain ⟨b2, off, rfl, hB, p0, p1, p2, p3, p4, p5, p6⟩ := (HV.out.below HB.out).at hlt
      obtain ⟨y, hy⟩ : ∃ y, l.getD k zVw = y := ⟨_, rfl⟩
      rw [hy] at p0 p1 p2 p3 p4 p5 p6 hst
      clear hy
      obtain ⟨V, hV⟩ : ∃ V, wr.alloc (.cells #[.int .i64 y.1, .bool y.2.1, .int .i64 y.2.2.1, .int .i64 y.2.2.2.1, .int .i64 y.2.2.2.2.1, .int .i64 y.2.2.2.2.2.1, .int .i64 y.2.2.2.2.2.2] 40) = V := ⟨_, rfl⟩
      have hbv : Below wr.heap.size wr V := hV ▸ (Below.refl _ wr).alloc (Nat.le_refl _) _
      have OY := Lib.hid (hV ▸ ownV_alloc wr y wr.heap.size rfl 40 : OwnV V wr.heap.size y)
      have HBV := Lib.hid (HB.out.trans (hbv.mono HB.out.size))
      have OBV := Lib.hid (OB.out.below hbv)
      have ORV := Lib.hid (OR.out.below hbv)
      have hne : w.heap.size + 1 ≠ wr.heap.size := by have h1 := OB.out.lt; omega
      have hne2 : wr.heap.size ≠ w.heap.size + 1 := hne.symm
      go_upto_region 6 with (fail)
      clear p0 p1 p2 p3 p4 p5 p6 hV hB hbv OB OR HB
      obtain ⟨⟨d0, d1, d2, d3, d4, d5, d6⟩, df⟩ := OY.out
      simp only [Nat.zero_add] at d1 d2 d3 d4 d5 d6
      have cT := Lib.hid (fun W => visT_any y W)
      have cX := Lib.hid (fun W => less_any y.2.1 y.2.2.1 y.2.2.2.1 y.2.2.2.2.1 y.2.2.2.2.2.1 y.2.2.2.2.2.2 best.2.1 best.2.2.1 best.2.2.2.1 best.2.2.2.2.1 best.2.2.2.2.2.1 best.2.2.2.2.2.2 W)
      cases g2 : tld y.2 with
      | false =>
        rw [g2] at cT
        have HST : Hid (lowF (l.take (k + 1)) = (best, an)) := by
          show _ = _
          rw [hst]
          unfold lowS
          rw [if_neg (fun h => by rw [g2] at h; exact absurd h.1 (by decide))]
        clear hst g2
        go_wp2_with fail
        refine (cT.out _).mono ?_
        rintro e Va ⟨rfl, hb⟩
        have HBa := Lib.hid (HBV.out.trans (hb.mono HBV.out.size))
        have OBa := Lib.hid (OBV.out.below hb)
        have ORa := Lib.hid (ORV.out.below hb)
        have OYa := Lib.hid (OY.out.below hb)
        clear hb HBV OBV ORV OY d0 d1 d2 d3 d4 d5 d6
        obtain ⟨⟨d0, d1, d2, d3, d4, d5, d6⟩, _⟩ := OYa.out
        obtain ⟨⟨e0, e1, e2, e3, e4, e5, e6⟩, ef⟩ := OBa.out
        simp only [Nat.zero_add] at d1 d2 d3 d4 d5 d6 e1 e2 e3 e4 e5 e6
        go_wp2_with fail
        go_roundw
        case rel => exact ⟨k + 1, best, an, by omega, by go_num, rfl, HST.out, OBa.out, ORa.out, HBa.out⟩
        case measure => simp [intOf]; omega
      | true =>
        rw [g2] at cT
        cases an with
        | false =>
          have HST : Hid (lowF (l.take (k + 1)) = (y, true)) := by
            show _ = _
            rw [hst]
            unfold lowS
            rw [if_pos ⟨g2, .inl rfl⟩]
          clear hst g2
          go_wp2_with fail
          refine (cT.out _).mono ?_
          rintro e Va ⟨rfl, hb⟩
          have HBa := Lib.hid (HBV.out.trans (hb.mono HBV.out.size))
          have OBa := Lib.hid (OBV.out.below hb)
          have ORa := Lib.hid (ORV.out.below hb)
          have OYa := Lib.hid (OY.out.below hb)
          clear hb HBV OBV ORV OY d0 d1 d2 d3 d4 d5 d6
          obtain ⟨⟨d0, d1, d2, d3, d4, d5, d6⟩, _⟩ := OYa.out
          obtain ⟨⟨e0, e1, e2, e3, e4, e5, e6⟩, ef⟩ := OBa.out
          simp only [Nat.zero_add] at d1 d2 d3 d4 d5 d6 e1 e2 e3 e4 e5 e6
          go_wp2_with fail
          obtain ⟨V7, hV7⟩ : ∃ V7, ((((((Va.setCell ⟨(w.heap.size + 1), 0, none⟩ (.int .i64 y.1)).setCell ⟨(w.heap.size + 1), 1, none⟩ (.bool y.2.1)).setCell ⟨(w.heap.size + 1), 2, none⟩ (.int .i64 y.2.2.1)).setCell ⟨(w.heap.size + 1), 3, none⟩ (.int .i64 y.2.2.2.1)).setCell ⟨(w.heap.size + 1), 4, none⟩ (.int .i64 y.2.2.2.2.1)).setCell ⟨(w.heap.size + 1), 5, none⟩ (.int .i64 y.2.2.2.2.2.1)).setCell ⟨(w.heap.size + 1), 6, none⟩ (.int .i64 y.2.2.2.2.2.2) = V7 := ⟨_, rfl⟩
          have OB7 := Lib.hid (hV7 ▸ ownV_set7 OBa.out y : OwnV V7 (w.heap.size + 1) y)
          have OR7 := Lib.hid (hV7 ▸ ownV_off7 ORa.out (by omega) y : OwnV V7 w.heap.size zVw)
          have hb7 : Below w.heap.size w V7 := hV7 ▸ vbel_set7 HBa.out (by omega) y
          have HB7 := Lib.hid hb7
          simp only [hV7]
          clear e0 e1 e2 e3 e4 e5 e6 ef hV7 hb7 d0 d1 d2 d3 d4 d5 d6
          go_roundw
          case rel => exact ⟨k + 1, y, true, by omega, by go_num, rfl, HST.out, OB7.out, OR7.out, HB7.out⟩
          case measure => simp [intOf]; omega
        | true =>
          cases g3 : lsx y.2 best.2 with
          | false =>
            rw [show lessB y.2.1 y.2.2.1 y.2.2.2.1 y.2.2.2.2.1 y.2.2.2.2.2.1 y.2.2.2.2.2.2 best.2.1 best.2.2.1 best.2.2.2.1 best.2.2.2.2.1 best.2.2.2.2.2.1 best.2.2.2.2.2.2 = false from g3] at cX
            have HST : Hid (lowF (l.take (k + 1)) = (best, true)) := by
              show _ = _
              rw [hst]
              unfold lowS
              rw [if_neg (fun h => by rw [g3] at h; exact h.2.elim (fun h => by cases h) (fun h => by cases h))]
            clear hst g2 g3
            go_wp2_with fail
            refine (cT.out _).mono ?_
            rintro e Va ⟨rfl, hb⟩
            have HBa := Lib.hid (HBV.out.trans (hb.mono HBV.out.size))
            have OBa := Lib.hid (OBV.out.below hb)
            have ORa := Lib.hid (ORV.out.below hb)
            have OYa := Lib.hid (OY.out.below hb)
            clear hb HBV OBV ORV OY d0 d1 d2 d3 d4 d5 d6
            obtain ⟨⟨d0, d1, d2, d3, d4, d5, d6⟩, _⟩ := OYa.out
            obtain ⟨⟨e0, e1, e2, e3, e4, e5, e6⟩, ef⟩ := OBa.out
            simp only [Nat.zero_add] at d1 d2 d3 d4 d5 d6 e1 e2 e3 e4 e5 e6
            go_wp2_with fail
            refine (cX.out _).mono ?_
            rintro e Vb ⟨rfl, hb⟩
            have HBb := Lib.hid (HBa.out.trans (hb.mono HBa.out.size))
            have OBb := Lib.hid (OBa.out.below hb)
            have ORb := Lib.hid (ORa.out.below hb)
            have OYb := Lib.hid (OYa.out.below hb)
            clear hb HBa OBa ORa OYa d0 d1 d2 d3 d4 d5 d6 e0 e1 e2 e3 e4 e5 e6 ef
            obtain ⟨⟨d0, d1, d2, d3, d4, d5, d6⟩, _⟩ := OYb.out
            obtain ⟨⟨e0, e1, e2, e3, e4, e5, e6⟩, ef⟩ := OBb.out
            simp only [Nat.zero_add] at d1 d2 d3 d4 d5 d6 e1 e2 e3 e4 e5 e6
            go_wp2_with fail
            go_roundw
            case rel => exact ⟨k + 1, best, true, by omega, by go_num, rfl, HST.out, OBb.out, ORb.out, HBb.out⟩
            case measure => simp [intOf]; omega
          | true =>
            rw [show lessB y.2.1 y.2.2.1 y.2.2.2.1 y.2.2.2.2.1 y.2.2.2.2.2.1 y.2.2.2.2.2.2 best.2.1 best.2.2.1 best.2.2.2.1 best.2.2.2.2.1 best.2.2.2.2.2.1 best.2.2.2.2.2.2 = true from g3] at cX
            have HST : Hid (lowF (l.take (k + 1)) = (y, true)) := by
              show _ = _
              rw [hst]
              unfold lowS
              rw [if_pos ⟨g2, .inr g3⟩]
            clear hst g2 g3
            go_wp2_with fail
            refine (cT.out _).mono ?_
            rintro e Va ⟨rfl, hb⟩
            have HBa := Lib.hid (HBV.out.trans (hb.mono HBV.out.size))
            have OBa := Lib.hid (OBV.out.below hb)
            have ORa := Lib.hid (ORV.out.below hb)
            have OYa := Lib.hid (OY.out.below hb)
            clear hb HBV OBV ORV OY d0 d1 d2 d3 d4 d5 d6
            obtain ⟨⟨d0, d1, d2, d3, d4, d5, d6⟩, _⟩ := OYa.out
            obtain ⟨⟨e0, e1, e2, e3, e4, e5, e6⟩, ef⟩ := OBa.out
            simp only [Nat.zero_add] at d1 d2 d3 d4 d5 d6 e1 e2 e3 e4 e5 e6
            go_wp2_with fail
            refine (cX.out _).mono ?_
            rintro e Vb ⟨rfl, hb⟩
            have HBb := Lib.hid (HBa.out.trans (hb.mono HBa.out.size))
            have OBb := Lib.hid (OBa.out.below hb)
            have ORb := Lib.hid (ORa.out.below hb)
            have OYb := Lib.hid (OYa.out.below hb)
            clear hb HBa OBa ORa OYa d0 d1 d2 d3 d4 d5 d6 e0 e1 e2 e3 e4 e5 e6 ef
            obtain ⟨⟨d0, d1, d2, d3, d4, d5, d6⟩, _⟩ := OYb.out
            obtain ⟨⟨e0, e1, e2, e3, e4, e5, e6⟩, ef⟩ := OBb.out
            simp only [Nat.zero_add] at d1 d2 d3 d4 d5 d6 e1 e2 e3 e4 e5 e6
            go_wp2_with fail
            obtain ⟨V7, hV7⟩ : ∃ V7, ((((((Vb.setCell ⟨(w.heap.size + 1), 0, none⟩ (.int .i64 y.1)).setCell ⟨(w.heap.size + 1), 1, none⟩ (.bool y.2.1)).setCell ⟨(w.heap.size + 1), 2, none⟩ (.int .i64 y.2.2.1)).setCell ⟨(w.heap.size + 1), 3, none⟩ (.int .i64 y.2.2.2.1)).setCell ⟨(w.heap.size + 1), 4, none⟩ (.int .i64 y.2.2.2.2.1)).setCell ⟨(w.heap.size + 1), 5, none⟩ (.int .i64 y.2.2.2.2.2.1)).setCell ⟨(w.heap.size + 1), 6, none⟩ (.int .i64 y.2.2.2.2.2.2) = V7 := ⟨_, rfl⟩
            have OB7 := Lib.hid (hV7 ▸ ownV_set7 OBb.out y : OwnV V7 (w.heap.size + 1) y)
            have OR7 := Lib.hid (hV7 ▸ ownV_off7 ORb.out (by omega) y : OwnV V7 w.heap.size zVw)
            have hb7 : Below w.heap.size w V7 := hV7 ▸ vbel_set7 HBb.out (by omega) y
            have HB7 := Lib.hid hb7
            simp only [hV7]
            clear e0 e1 e2 e3 e4 e5 e6 ef hV7 hb7 d0 d1 d2 d3 d4 d5 d6
            go_roundw
            case rel => exact ⟨k + 1, y, true, by omega, by go_num, rfl, HST.out, OB7.out, OR7.out, HB7.out⟩
            case measure => simp [intOf]; omega
    · obtain rfl : k = l.length := by omega
      rw [List.take_length] at HF
      obtain ⟨⟨e0, e1, e2, e3, e4, e5, e6⟩, ef⟩ := OB.out
      obtain ⟨⟨r0, r1, r2, r3, r4, r5, r6⟩, rf⟩ := OR.out
      go_wp2_with fail
      have hs := (ownV_set7 OR.out best).1
      have hcg := vbel_set7 HB.out (Nat.le_refl _) best
      generalize ((((((wr.setCell ⟨w.heap.size, 0, none⟩ (.int .i64 best.1)).setCell ⟨w.heap.size, 1, none⟩ (.bool best.2.1)).setCell ⟨w.heap.size, 2, none⟩ (.int .i64 best.2.2.1)).setCell ⟨w.heap.size, 3, none⟩ (.int .i64 best.2.2.2.1)).setCell ⟨w.heap.size, 4, none⟩ (.int .i64 best.2.2.2.2.1)).setCell ⟨w.heap.size, 5, none⟩ (.int .i64 best.2.2.2.2.2.1)).setCell ⟨w.heap.size, 6, none⟩ (.int .i64 best.2.2.2.2.2.2) = W5 at *
      obtain ⟨s0_, s1_, s2_, s3_, s4_, s5_, s6_⟩ := hs
      simp only [Nat.zero_add] at s1_ s2_ s3_ s4_ s5_ s6_
      exact bodyPost_ret (v := .tuple #[vwV best, .bool an]) (by simp [results, Try.results20, go_sem, s0_, s1_, s2_, s3_, s4_, s5_, s6_]) rfl ⟨by rw [HF.out], hcg⟩
end Go.Proofs.Ytahhhegknmiinaa
