/- The reference's queue: First, Count. No conditions but on lengths. -/
import Derived.Test.YtgcjmnjepnmaeaaQrp
namespace Go.Proofs.Ytgcjmnjepnmaeaa
set_option maxRecDepth 100000
open Go.RowKit

def isTo (d : Int) (y : Pk) : Bool := y.2.1 == d
def cntN (l : List Pk) (d : Int) : Nat := l.countP (isTo d)
theorem cntN_le (l : List Pk) (d : Int) : cntN l d ≤ l.length := List.countP_le_length
theorem take_succ_getD (l : List Pk) (k : Nat) (h : k < l.length) : l.take (k + 1) = l.take k ++ [l.getD k zPk] := by
  rw [List.take_add_one]
  simp [List.getD, h]
theorem cnt_step (l : List Pk) (d : Int) (k : Nat) (h : k < l.length) : cntN (l.take (k + 1)) d = cntN (l.take k) d + if (l.getD k zPk).2.1 = d then 1 else 0 := by
  rw [take_succ_getD l k h]
  unfold cntN
  rw [List.countP_append]
  simp [isTo, List.countP_cons]
set_option maxHeartbeats 8000000 in
theorem rqcnt_any (b : Nat) (m : Int) (v : Value) (l : List Pk) (d : Int) (w : World) (h : RQ w b m v l) (hl : l.length ≤ 2000) :
    Calls Try.prog 18 #[.pointer (some ⟨b, 0, none⟩), .int .i64 d] w fun e w' => e = .returned (.int .i64 (cntN l d)) ∧ w = w' := by
  obtain ⟨a, c, rfl⟩ := h.own.form
  obtain ⟨c0, c1, cf⟩ := h.cells
  have HK : Hid (Ks w (.slice a l.length c) l) := h.own.ks
  clear h
  go_enter Try.func18, Try.ntmps18
  go_wp2_with fail
  go_loopw [5, 6] (fun n i wr => ∃ k : Nat, k ≤ l.length ∧ i = .int .i64 k ∧ n = .int .i64 (cntN (l.take k) d) ∧ w = wr) (fun _ i _ => l.length - (intOf i).toNat)
  case atStart => exact ⟨0, Nat.zero_le _, rfl, rfl, rfl⟩
  case round =>
    obtain ⟨k, hk, rfl, rfl, rfl⟩ := hrel
    by_cases hlt : k < l.length
    · obtain ⟨b2, off, rfl, hB, p0, p1, p2, p3, p4⟩ := HK.out.at hlt
      have hst := cnt_step l d k hlt
      have hcl : cntN (l.take k) d ≤ 2000 := by have := cntN_le (l.take k) d; rw [List.length_take] at this; omega
      have HST := Lib.hid hst
      have HCL := Lib.hid hcl
      clear hst
      obtain ⟨y, hy⟩ : ∃ y, l.getD k zPk = y := ⟨_, rfl⟩
      rw [hy] at p0 p1 p2 p3 p4
      have HY := Lib.hid hy
      clear hy hcl
      obtain ⟨n0, hn0⟩ : ∃ n0, cntN (l.take k) d = n0 := ⟨_, rfl⟩
      have HN := Lib.hid hn0
      have hn1 : n0 ≤ 2000 := hn0 ▸ HCL.out
      rw [hn0]
      clear hn0
      by_cases hd : y.2.1 = d
      · have hq : (y.2.1 == d) = true := by simpa using hd
        have HD := Lib.hid hd
        clear hd
        go_wp2_with fail
        go_roundw
        case rel =>
          refine ⟨k + 1, by omega, by go_num, ?_, by first | rfl | trivial⟩
          rw [HST.out, HY.out, if_pos HD.out, HN.out]
          go_num
        case measure => simp [intOf]; omega
      · have hq : (y.2.1 == d) = false := by simpa using hd
        have HD := Lib.hid hd
        clear hd
        go_wp2_with fail
        go_roundw
        case rel =>
          refine ⟨k + 1, by omega, by go_num, ?_, by first | rfl | trivial⟩
          rw [HST.out, HY.out, if_neg HD.out, HN.out]
          simp
        case measure => simp [intOf]; omega
    · obtain rfl : k = l.length := by omega
      go_wp2_with fail
      go_ret
      rw [List.take_length]
      exact ⟨rfl, rfl⟩
def firstV (l : List Pk) : Pk := l.headD zPk
def firstE (l : List Pk) : Int := if l = [] then 7 else 0
set_option maxHeartbeats 8000000 in
theorem rqfirst_any (b : Nat) (m : Int) (v : Value) (l : List Pk) (w : World) (h : RQ w b m v l) (hl : l.length ≤ 2000) :
    Calls Try.prog 16 #[.pointer (some ⟨b, 0, none⟩)] w fun e w' => e = .returned (.tuple #[pkV (firstV l), .int .i64 (firstE l)]) ∧ Below w.heap.size w w' := by
  obtain ⟨a, c, rfl⟩ := h.own.form
  obtain ⟨w1, hw1⟩ : ∃ w1, w.alloc (.cells #[.int .i64 0, .int .i64 0, .int .i64 0, .int .i64 0, .string ⟨#[]⟩] 34) = w1 := ⟨_, rfl⟩
  have hb0 : Below w.heap.size w w1 := hw1 ▸ (Below.refl _ w).alloc (Nat.le_refl _) _
  have OV := Lib.hid (hw1 ▸ ownp_alloc w 0 0 0 0 ⟨#[]⟩ 34 w.heap.size rfl : OwnP w1 w.heap.size 0 0 0 0 ⟨#[]⟩)
  have HQ := Lib.hid (h.below hb0)
  have HB := Lib.hid hb0
  clear h hb0
  obtain ⟨⟨u0, u1, u2, u3, u4⟩, uf⟩ := OV.out
  obtain ⟨c0, c1, cf⟩ := HQ.out.cells
  have HK : Hid (Ks w1 (.slice a l.length c) l) := HQ.out.own.ks
  cases l with
  | nil =>
    go_enter Try.func16, Try.ntmps16
    go_upto_region 1 with (fail)
    clear hw1
    go_wp2_with fail
    have hs := (OV.out.set 0 0 0 0 ⟨#[]⟩).1
    have hbs := bel_put5 HB.out (Nat.le_refl _) 0 0 0 0 ⟨#[]⟩
    unfold put5 at hs hbs
    generalize ((((w1.setCell ⟨w.heap.size, 0, none⟩ (.int .i64 0)).setCell ⟨w.heap.size, 1, none⟩ (.int .i64 0)).setCell ⟨w.heap.size, 2, none⟩ (.int .i64 0)).setCell ⟨w.heap.size, 3, none⟩ (.int .i64 0)).setCell ⟨w.heap.size, 4, none⟩ (.string ⟨#[]⟩) = W5 at *
    obtain ⟨s0_, s1_, s2_, s3_, s4_⟩ := hs
    exact bodyPost_ret (v := .tuple #[pkV zPk, .int .i64 7]) (by simp [results, Try.results16, go_sem, s0_, s1_, s2_, s3_, s4_, zPk]) rfl ⟨rfl, hbs⟩
  | cons y r =>
    obtain ⟨b2, off, rfl, hB, p0, p1, p2, p3, p4⟩ := HK.out.at (i := 0) (by simp)
    simp only [List.getD_cons_zero, Nat.zero_mul, Nat.add_zero] at p0 p1 p2 p3 p4
    go_enter Try.func16, Try.ntmps16
    go_upto_region 1 with (fail)
    clear hw1
    go_wp2_with fail
    have hs := (OV.out.set y.1 y.2.1 y.2.2.1 y.2.2.2.1 y.2.2.2.2).1
    have hbs := bel_put5 HB.out (Nat.le_refl _) y.1 y.2.1 y.2.2.1 y.2.2.2.1 y.2.2.2.2
    unfold put5 at hs hbs
    generalize ((((w1.setCell ⟨w.heap.size, 0, none⟩ (.int .i64 y.1)).setCell ⟨w.heap.size, 1, none⟩ (.int .i64 y.2.1)).setCell ⟨w.heap.size, 2, none⟩ (.int .i64 y.2.2.1)).setCell ⟨w.heap.size, 3, none⟩ (.int .i64 y.2.2.2.1)).setCell ⟨w.heap.size, 4, none⟩ (.string y.2.2.2.2) = W5 at *
    obtain ⟨s0_, s1_, s2_, s3_, s4_⟩ := hs
    exact bodyPost_ret (v := .tuple #[pkV y, .int .i64 0]) (by simp [results, Try.results16, go_sem, s0_, s1_, s2_, s3_, s4_]) rfl ⟨rfl, hbs⟩
end Go.Proofs.Ytgcjmnjepnmaeaa
