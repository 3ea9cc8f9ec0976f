/- One more packet, the first one of all, how many there are for a node. -/
import Derived.Test.YtgcjmnjepnmaeaaQrx
namespace Go.Proofs.Ytgcjmnjepnmaeaa
set_option maxRecDepth 100000
open Go.RowKit

theorem held_getD (bg c : Nat) (R : Nat → Pk) {i : Nat} (h : i < c) : (held bg c R).getD i zPk = R ((bg + i) % 64) := by
  simp [held, List.getD, h]
theorem below_dn {B : Nat} {a w : World} (h : Below B a w) (n : Nat) : Below B a (w.drewN n) := ⟨h.os, h.tape, h.output, h.size, h.block⟩
theorem kcheckP (y : Pk) (w : World) : Calls Try.prog 23 #[pkV y] w fun e w' => e = .returned (.int .i64 (if y.Ok then 0 else 1)) ∧ Below w.heap.size w w' := by
  have e : (if y.Ok then (0 : Int) else 1) = kP y.1 y.2.1 y.2.2.1 y.2.2.2.1 y.2.2.2.2 := by
    by_cases h : y.Ok
    · rw [if_pos h]
      exact (if_pos h).symm
    · rw [if_neg h]
      exact (if_neg h).symm
  rw [e]
  exact kcheck_any y.1 y.2.1 y.2.2.1 y.2.2.2.1 y.2.2.2.2 w
set_option maxHeartbeats 8000000 in
theorem qput_no (b : Nat) (m : Int) (bg c : Nat) (R : Nat → Pk) (y : Pk) (w : World) (h : Ring w b m bg c R) (er : Int) (hck : (¬ y.Ok ∧ er = 1) ∨ (y.Ok ∧ m ≤ (c : Int) ∧ er = 8)) :
    Calls Try.prog 11 #[.pointer (some ⟨b, 0, none⟩), pkV y] w fun e w' => e = .returned (.int .i64 er) ∧ Below w.heap.size w w' := by
  obtain ⟨w1, hw1⟩ : ∃ w1, w.alloc (.cells #[.int .i64 y.1, .int .i64 y.2.1, .int .i64 y.2.2.1, .int .i64 y.2.2.2.1, .string y.2.2.2.2] 34) = w1 := ⟨_, rfl⟩
  have hb1 : Below w.heap.size w w1 := hw1 ▸ (Below.refl _ w).alloc (Nat.le_refl _) _
  have OV : Hid (OwnP w1 w.heap.size y.1 y.2.1 y.2.2.1 y.2.2.2.1 y.2.2.2.2) := hw1 ▸ ownp_alloc w _ _ _ _ _ 34 w.heap.size rfl
  have HR := Lib.hid (h.chg (F := fun _ => False) (chg0 hb1) (fun h => h))
  have HB := Lib.hid hb1
  have HBW := Lib.hid h.lt
  clear h hb1
  have C1 := Lib.hid (kcheckP y w1)
  obtain ⟨⟨u0, u1, u2, u3, u4⟩, uf⟩ := OV.out
  rcases hck with ⟨hk, rfl⟩ | ⟨hk, hm, rfl⟩
  · rw [if_neg hk] at C1
    clear hk
    go_enter Try.func11, Try.ntmps11
    go_wp2_with fail
    refine C1.out.mono ?_
    rintro e W2 ⟨rfl, hb⟩
    have HB2 := Lib.hid (HB.out.trans (hb.mono HB.out.size))
    clear hb u0 u1 u2 u3 u4 uf C1 OV HR HB hw1
    go_wp2_with fail
    go_ret
    exact ⟨rfl, HB2.out⟩
  · rw [if_pos hk] at C1
    have HM := Lib.hid hm
    clear hk hm
    go_enter Try.func11, Try.ntmps11
    go_wp2_with fail
    refine C1.out.mono ?_
    rintro e W2 ⟨rfl, hb⟩
    have HR2 := Lib.hid (HR.out.chg (F := fun _ => False) (chg0 hb) (fun h => h))
    have HB2 := Lib.hid (HB.out.trans (hb.mono HB.out.size))
    clear hb u0 u1 u2 u3 u4 uf C1 OV HR HB hw1
    have c1 := HR2.out.cc
    have c2 := HR2.out.cm
    have hne : ((c : Int) == m) = true := by have := HM.out; have := HR2.out.hm; simp; omega
    go_wp2_with fail
    go_quiet (fail)
    go_wp2_with fail
    go_ret
    exact ⟨rfl, below_dn HB2.out nq⟩
set_option maxHeartbeats 8000000 in
theorem qfirst_none (b : Nat) (m : Int) (bg : Nat) (R : Nat → Pk) (w : World) (h : Ring w b m bg 0 R) :
    Calls Try.prog 15 #[.pointer (some ⟨b, 0, none⟩)] w fun e w' => e = .returned (.tuple #[pkV zPk, .int .i64 7]) ∧ Below w.heap.size w w' := by
  obtain ⟨w1, hw1⟩ : ∃ w1, w.alloc (.cells #[.int .i64 0, .int .i64 0, .int .i64 0, .int .i64 0, .string ⟨#[]⟩] 34) = w1 := ⟨_, rfl⟩
  have hb0 : Below w.heap.size w w1 := hw1 ▸ (Below.refl _ w).alloc (Nat.le_refl _) _
  have OV := Lib.hid (hw1 ▸ ownp_alloc w 0 0 0 0 ⟨#[]⟩ 34 w.heap.size rfl : OwnP w1 w.heap.size 0 0 0 0 ⟨#[]⟩)
  have HB := Lib.hid hb0
  have HR := Lib.hid (h.chg (F := fun _ => False) (chg0 hb0) (fun h => h))
  clear h hb0
  obtain ⟨⟨u0, u1, u2, u3, u4⟩, uf⟩ := OV.out
  have c1 : w1.cell? ⟨b, 321, none⟩ = some (.int .i64 0) := HR.out.cc
  go_enter Try.func15, Try.ntmps15
  go_upto_region 1 with (fail)
  clear hw1
  go_wp2_with fail
  have hs := (OV.out.set 0 0 0 0 ⟨#[]⟩).1
  have hbs := bel_put5 HB.out (Nat.le_refl _) 0 0 0 0 ⟨#[]⟩
  unfold put5 at hs hbs
  generalize ((((w1.setCell ⟨w.heap.size, 0, none⟩ (.int .i64 0)).setCell ⟨w.heap.size, 1, none⟩ (.int .i64 0)).setCell ⟨w.heap.size, 2, none⟩ (.int .i64 0)).setCell ⟨w.heap.size, 3, none⟩ (.int .i64 0)).setCell ⟨w.heap.size, 4, none⟩ (.string ⟨#[]⟩) = W5 at *
  obtain ⟨s0_, s1_, s2_, s3_, s4_⟩ := hs
  exact bodyPost_ret (v := .tuple #[pkV zPk, .int .i64 7]) (by simp [results, Try.results15, go_sem, s0_, s1_, s2_, s3_, s4_, zPk]) rfl ⟨rfl, hbs⟩
set_option maxHeartbeats 8000000 in
theorem qfirst_ok (b : Nat) (m : Int) (bg c : Nat) (R : Nat → Pk) (w : World) (h : Ring w b m bg c R) (h0 : 0 < c) :
    Calls Try.prog 15 #[.pointer (some ⟨b, 0, none⟩)] w fun e w' => e = .returned (.tuple #[pkV (R bg), .int .i64 0]) ∧ Below w.heap.size w w' := by
  obtain ⟨w1, hw1⟩ : ∃ w1, w.alloc (.cells #[.int .i64 0, .int .i64 0, .int .i64 0, .int .i64 0, .string ⟨#[]⟩] 34) = w1 := ⟨_, rfl⟩
  have hb0 : Below w.heap.size w w1 := hw1 ▸ (Below.refl _ w).alloc (Nat.le_refl _) _
  have OV := Lib.hid (hw1 ▸ ownp_alloc w 0 0 0 0 ⟨#[]⟩ 34 w.heap.size rfl : OwnP w1 w.heap.size 0 0 0 0 ⟨#[]⟩)
  have HB := Lib.hid hb0
  have HR := Lib.hid (h.chg (F := fun _ => False) (chg0 hb0) (fun h => h))
  have HL := Lib.hid h.lt
  have HC0 := Lib.hid h0
  clear h hb0
  obtain ⟨y, hy⟩ : ∃ y, R bg = y := ⟨_, rfl⟩
  rw [hy]
  have HY := Lib.hid hy
  clear hy
  obtain ⟨⟨u0, u1, u2, u3, u4⟩, uf⟩ := OV.out
  have c1 := HR.out.cc
  have hne : ((c : Int) == 0) = false := by have := HC0.out; simp; omega
  have hn2 : ¬ ((c : Int) = 0) := by have := HC0.out; omega
  have hn3 : ¬ (c = 0) := by have := HC0.out; omega
  clear h0
  go_enter Try.func15, Try.ntmps15
  go_upto_region 1 with (fail)
  clear hw1
  go_upto_region 5 with (fail)
  clear c1 hne hn2 hn3
  have C2 := Lib.hid (place_any b bg 0 w1.drew HR.out.cb (by have := HR.out.hb; omega) (by omega))
  have hki : ((bg : Int) + 0) % 64 = (bg : Int) := by have := HR.out.hb; omega
  rw [hki] at C2
  clear hki
  obtain ⟨p0, p1, p2, p3, p4⟩ := HR.out.pk bg HR.out.hb
  rw [HY.out] at p0 p1 p2 p3 p4
  have hbne : b ≠ w.heap.size := by have := HL.out; omega
  have hb64 : bg < 64 := HR.out.hb
  go_region_with (go_at_call 24; refine C2.out.mono ?_; rintro e w9 ⟨rfl, rfl⟩)
  all_goals
    go_wp2_with fail
    have hs := (OV.out.set y.1 y.2.1 y.2.2.1 y.2.2.2.1 y.2.2.2.2).1
    have hbs := bel_put5 HB.out (Nat.le_refl _) y.1 y.2.1 y.2.2.1 y.2.2.2.1 y.2.2.2.2
    unfold put5 at hs hbs
    generalize ((((w1.setCell ⟨w.heap.size, 0, none⟩ (.int .i64 y.1)).setCell ⟨w.heap.size, 1, none⟩ (.int .i64 y.2.1)).setCell ⟨w.heap.size, 2, none⟩ (.int .i64 y.2.2.1)).setCell ⟨w.heap.size, 3, none⟩ (.int .i64 y.2.2.2.1)).setCell ⟨w.heap.size, 4, none⟩ (.string y.2.2.2.2) = W5 at *
    obtain ⟨s0_, s1_, s2_, s3_, s4_⟩ := hs
    exact bodyPost_ret (v := .tuple #[pkV y, .int .i64 0]) (by simp [results, Try.results15, go_sem, s0_, s1_, s2_, s3_, s4_]) rfl ⟨rfl, below_dn hbs 1⟩
end Go.Proofs.Ytgcjmnjepnmaeaa
