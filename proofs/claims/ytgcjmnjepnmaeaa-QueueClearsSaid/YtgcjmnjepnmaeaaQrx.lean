/- What a new queue is, a nil one, the first packet of all, how many there are for a node. -/
import Derived.Test.YtgcjmnjepnmaeaaQrw
import Derived.Test.YtgcjmnjepnmaeaaPkw
import Derived.BigQuiet
namespace Go.Proofs.Ytgcjmnjepnmaeaa
set_option maxRecDepth 100000
open Go.RowKit

theorem qnew_no {m : Int} (hm : ¬ (1 ≤ m ∧ m ≤ 64)) (w : World) : Calls Try.prog 9 #[.int .i64 m] w fun e w' => e = .returned (.tuple #[.pointer none, .int .i64 1]) ∧ Below w.heap.size w w' := by
  by_cases h1 : m < 1
  · have d1 : decide (m < 1) = true := decide_eq_true h1
    clear hm
    go_enter Try.func9, Try.ntmps9
    go_wp2_with fail
    exact bodyPost_ret (v := .tuple #[.pointer none, .int .i64 1]) (by simp [results, Try.results9, go_sem]) rfl ⟨rfl, Below.refl _ _⟩
  · have d1 : decide (m < 1) = false := decide_eq_false h1
    have d2 : decide (64 < m) = true := decide_eq_true (by omega)
    have h2 : 64 < m := by omega
    clear hm
    go_enter Try.func9, Try.ntmps9
    go_wp2_with fail
    exact bodyPost_ret (v := .tuple #[.pointer none, .int .i64 1]) (by simp [results, Try.results9, go_sem]) rfl ⟨rfl, Below.refl _ _⟩
theorem qnew_ok {m : Int} (hm : 1 ≤ m ∧ m ≤ 64) (w : World) : Calls Try.prog 9 #[.int .i64 m] w fun e w' => e = .returned (.tuple #[.pointer (some ⟨w.heap.size, 0, none⟩), .int .i64 0]) ∧ Ring w' w.heap.size m 0 0 (fun _ => zPk) ∧ Below w.heap.size w w' := by
  have h1 : ¬ m < 1 := by omega
  have h2 : ¬ 64 < m := by omega
  have z1 := Z55_run
  have z2 := size55
  have z3 := Z55_ne
  have HR := Lib.hid (ring_new m hm w)
  have HB : Hid (Below w.heap.size w (w.alloc (.cells (Z55.setIfInBounds 322 (.int .i64 m)) 55))) := (Below.refl _ w).alloc (Nat.le_refl _) _
  clear hm
  go_enter Try.func9, Try.ntmps9
  go_wp2_with fail
  exact bodyPost_ret (v := .tuple #[.pointer (some ⟨w.heap.size, 0, none⟩), .int .i64 0]) (by simp [results, Try.results9, go_sem]) rfl ⟨rfl, HR.out, HB.out⟩
theorem qput_nil (y : Pk) (w : World) : Calls Try.prog 11 #[.pointer none, pkV y] w fun e w' => e = .returned (.int .i64 3) ∧ Below w.heap.size w w' := by
  have HB : Hid (Below w.heap.size w (w.alloc (.cells #[.int .i64 y.1, .int .i64 y.2.1, .int .i64 y.2.2.1, .int .i64 y.2.2.2.1, .string y.2.2.2.2] 34))) := (Below.refl _ w).alloc (Nat.le_refl _) _
  go_enter Try.func11, Try.ntmps11
  go_wp2_with fail
  go_ret
  exact ⟨rfl, HB.out⟩
theorem qtake_nil (d : Int) (w : World) : Calls Try.prog 13 #[.pointer none, .int .i64 d] w fun e w' => e = .returned (.tuple #[pkV zPk, .int .i64 3]) ∧ Below w.heap.size w w' := by
  obtain ⟨w1, hw1⟩ : ∃ w1, w.alloc (.cells #[.int .i64 0, .int .i64 0, .int .i64 0, .int .i64 0, .string ⟨#[]⟩] 34) = w1 := ⟨_, rfl⟩
  have hb0 : Below w.heap.size w w1 := hw1 ▸ (Below.refl _ w).alloc (Nat.le_refl _) _
  have OV := Lib.hid (hw1 ▸ ownp_alloc w 0 0 0 0 ⟨#[]⟩ 34 w.heap.size rfl : OwnP w1 w.heap.size 0 0 0 0 ⟨#[]⟩)
  have HB := Lib.hid hb0
  clear hb0
  obtain ⟨⟨u0, u1, u2, u3, u4⟩, uf⟩ := OV.out
  go_enter Try.func13, Try.ntmps13
  go_upto_region 1 with (fail)
  clear hw1
  go_wp2_with fail
  have hs := (OV.out.set 0 0 0 0 ⟨#[]⟩).1
  have hbs := bel_put5 HB.out (Nat.le_refl _) 0 0 0 0 ⟨#[]⟩
  unfold put5 at hs hbs
  generalize ((((w1.setCell ⟨w.heap.size, 0, none⟩ (.int .i64 0)).setCell ⟨w.heap.size, 1, none⟩ (.int .i64 0)).setCell ⟨w.heap.size, 2, none⟩ (.int .i64 0)).setCell ⟨w.heap.size, 3, none⟩ (.int .i64 0)).setCell ⟨w.heap.size, 4, none⟩ (.string ⟨#[]⟩) = W5 at *
  obtain ⟨s0_, s1_, s2_, s3_, s4_⟩ := hs
  exact bodyPost_ret (v := .tuple #[pkV zPk, .int .i64 3]) (by simp [results, Try.results13, go_sem, s0_, s1_, s2_, s3_, s4_, zPk]) rfl ⟨rfl, hbs⟩
theorem qfirst_nil (w : World) : Calls Try.prog 15 #[.pointer none] w fun e w' => e = .returned (.tuple #[pkV zPk, .int .i64 3]) ∧ Below w.heap.size w w' := by
  obtain ⟨w1, hw1⟩ : ∃ w1, w.alloc (.cells #[.int .i64 0, .int .i64 0, .int .i64 0, .int .i64 0, .string ⟨#[]⟩] 34) = w1 := ⟨_, rfl⟩
  have hb0 : Below w.heap.size w w1 := hw1 ▸ (Below.refl _ w).alloc (Nat.le_refl _) _
  have OV := Lib.hid (hw1 ▸ ownp_alloc w 0 0 0 0 ⟨#[]⟩ 34 w.heap.size rfl : OwnP w1 w.heap.size 0 0 0 0 ⟨#[]⟩)
  have HB := Lib.hid hb0
  clear hb0
  obtain ⟨⟨u0, u1, u2, u3, u4⟩, uf⟩ := OV.out
  go_enter Try.func15, Try.ntmps15
  go_upto_region 1 with (fail)
  clear hw1
  go_wp2_with fail
  have hs := (OV.out.set 0 0 0 0 ⟨#[]⟩).1
  have hbs := bel_put5 HB.out (Nat.le_refl _) 0 0 0 0 ⟨#[]⟩
  unfold put5 at hs hbs
  generalize ((((w1.setCell ⟨w.heap.size, 0, none⟩ (.int .i64 0)).setCell ⟨w.heap.size, 1, none⟩ (.int .i64 0)).setCell ⟨w.heap.size, 2, none⟩ (.int .i64 0)).setCell ⟨w.heap.size, 3, none⟩ (.int .i64 0)).setCell ⟨w.heap.size, 4, none⟩ (.string ⟨#[]⟩) = W5 at *
  obtain ⟨s0_, s1_, s2_, s3_, s4_⟩ := hs
  exact bodyPost_ret (v := .tuple #[pkV zPk, .int .i64 3]) (by simp [results, Try.results15, go_sem, s0_, s1_, s2_, s3_, s4_, zPk]) rfl ⟨rfl, hbs⟩
theorem qcount_nil (d : Int) (w : World) : Calls Try.prog 17 #[.pointer none, .int .i64 d] w fun e w' => e = .returned (.int .i64 0) ∧ w = w' := by
  go_enter Try.func17, Try.ntmps17
  go_wp2_with fail
  go_ret
  exact ⟨rfl, rfl⟩
theorem qclear_nil (d : Int) (w : World) : Calls Try.prog 19 #[.pointer none, .int .i64 d] w fun e w' => e = .returned (.int .i64 0) ∧ Below w.heap.size w w' := by
  have C1 := Lib.hid (qcount_nil d w)
  go_enter Try.func19, Try.ntmps19
  go_wp2_with fail
  refine C1.out.mono ?_
  rintro e w1 ⟨rfl, rfl⟩
  go_wp2_with fail
  go_loopw [10] (fun i wr => i = .int .i64 0 ∧ w = wr) (fun _ _ => 0)
  case atStart => exact ⟨rfl, rfl⟩
  case round =>
    obtain ⟨rfl, rfl⟩ := hrel
    go_wp2_with fail
    go_ret
    exact ⟨rfl, Below.refl _ _⟩
theorem qall_nil (w : World) : Calls Try.prog 22 #[.pointer none] w fun e w' => (∃ a c, e = .returned (.slice a 0 c)) ∧ Below w.heap.size w w' := by
  go_enter Try.func22, Try.ntmps22
  go_wp2_with fail
  go_ret
  exact ⟨⟨_, _, rfl⟩, Below.refl _ _⟩
end Go.Proofs.Ytgcjmnjepnmaeaa
