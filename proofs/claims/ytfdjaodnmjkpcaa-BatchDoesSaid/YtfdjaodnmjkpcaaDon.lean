/- What the reader answers at its end, of a height. No conditions. -/
import Derived.Test.YtfdjaodnmjkpcaaRdr
namespace Go.Proofs.Ytfdjaodnmjkpcaa
open Go.RowKit Go.Sort

theorem Onl.then {b B : Nat} {w w1 w2 : World} (h : Onl b w w1) (h' : Below B w1 w2) (hB : w.heap.size ≤ B) : Onl b w w2 :=
  ⟨h'.os.trans h.os, h'.tape.trans h.tape, h'.output.trans h.output, Nat.le_trans h.size h'.size, fun k hk hkb => (h'.block k (Nat.lt_of_lt_of_le hk hB)).trans (h.block k hk hkb)⟩

set_option maxHeartbeats 8000000 in
theorem done_err (b : Nat) (n : Bool) (t o r d i : Int) (ok : Bool) (k e0 e1 : Int) (w : World) (h : Rd w b k e0) (hn : needE e0 ok = e1) (he : e1 ≠ 0) :
    Calls Try.prog 67 #[.pointer (some ⟨b, 0, none⟩), .agg #[.bool n, .int .i64 t, .int .i64 o, .int .i64 r, .int .i64 d, .int .i64 i], .bool ok] w fun e w' => e = .returned (.tuple #[.agg #[.bool false, .int .i64 0, .int .i64 0, .int .i64 0, .int .i64 0, .int .i64 0], .int .i64 0, .int .i64 e1]) ∧ Onl b w w' := by
  have hne : (e1 == 0) = false := by simpa using he
  have hlt := World.block_lt_of_cell? w _ h.1
  have hb0 : Below w.heap.size w ((w.alloc (.cells #[.bool n, .int .i64 t, .int .i64 o, .int .i64 r, .int .i64 d, .int .i64 i] 48)).alloc (.cells #[.bool false, .int .i64 0, .int .i64 0, .int .i64 0, .int .i64 0, .int .i64 0] 48)) := ((Below.refl _ w).alloc (Nat.le_refl _) _).alloc (by simp) _
  have cN := need_any b ok k e0 ((w.alloc (.cells #[.bool n, .int .i64 t, .int .i64 o, .int .i64 r, .int .i64 d, .int .i64 i] 48)).alloc (.cells #[.bool false, .int .i64 0, .int .i64 0, .int .i64 0, .int .i64 0, .int .i64 0] 48)) (h.below hb0)
  rw [hn] at cN
  have OB := Lib.hid (own6_alloc (w.alloc (.cells #[.bool n, .int .i64 t, .int .i64 o, .int .i64 r, .int .i64 d, .int .i64 i] 48)) false 0 0 0 0 0 48 (w.heap.size + 1) (by simp))
  have HB := Lib.hid (Onl.of_below b hb0)
  have HL : Hid (b < w.heap.size) := hlt
  clear h hn he hlt hb0
  go_enter Try.func67, Try.ntmps67
  go_wp2_with (go_at_call 36; refine cN.mono ?_; rintro e w1 ⟨rfl, hR, hO⟩; replace OB := Lib.hid (OB.out.onl hO (by have := HL.out; omega)); replace HB := Lib.hid (HB.out.trans hO); have R := Lib.hid hR; clear hO hR; obtain ⟨z0, z1, zf⟩ := R.out)
  have OB2 := Lib.hid (OB.out.below ((Below.refl _ _).alloc (Nat.le_refl _) (.cells #[.bool false, .int .i64 0, .int .i64 0, .int .i64 0, .int .i64 0, .int .i64 0] 48)))
  have OZ := Lib.hid (own6_alloc w1 false 0 0 0 0 0 48 w1.heap.size rfl)
  have R2 := Lib.hid (R.out.alloc (.cells #[.bool false, .int .i64 0, .int .i64 0, .int .i64 0, .int .i64 0, .int .i64 0] 48))
  have HB2 := Lib.hid (HB.out.alloc (.cells #[.bool false, .int .i64 0, .int .i64 0, .int .i64 0, .int .i64 0, .int .i64 0] 48))
  have hne2 : Hid (w.heap.size + 1 < w1.heap.size) := World.block_lt_of_cell? w1 _ OB.out.1.1
  clear z0 z1 zf R OB HB
  generalize w1.alloc (.cells #[.bool false, .int .i64 0, .int .i64 0, .int .i64 0, .int .i64 0, .int .i64 0] 48) = V at *
  obtain ⟨z0, z1, zf⟩ := R2.out
  obtain ⟨⟨q0, q1, q2, q3, q4, q5⟩, qf⟩ := OZ.out
  obtain ⟨⟨u0, u1, u2, u3, u4, u5⟩, uf⟩ := OB2.out
  have hd1 : b ≠ w.heap.size + 1 := by have := HL.out; omega
  have hd2 : w.heap.size + 1 ≠ b := by have := HL.out; omega
  go_region
  go_wp2_with fail
  have hs := set6 OB2.out.1 false 0 0 0 0 0
  have hbs := bel_set6 (B := w.heap.size) (Below.refl _ V) (b := w.heap.size + 1) (by omega) false 0 0 0 0 0
  generalize ((((((V.setCell ⟨(w.heap.size + 1), 0, none⟩ (.bool false)).setCell ⟨(w.heap.size + 1), 1, none⟩ (.int .i64 0)).setCell ⟨(w.heap.size + 1), 2, none⟩ (.int .i64 0)).setCell ⟨(w.heap.size + 1), 3, none⟩ (.int .i64 0)).setCell ⟨(w.heap.size + 1), 4, none⟩ (.int .i64 0)).setCell ⟨(w.heap.size + 1), 5, none⟩ (.int .i64 0)) = W5 at *
  obtain ⟨s0_, s1_, s2_, s3_, s4_, s5_⟩ := hs
  exact bodyPost_ret (v := .tuple #[.agg #[.bool false, .int .i64 0, .int .i64 0, .int .i64 0, .int .i64 0, .int .i64 0], .int .i64 0, .int .i64 e1]) (by simp [results, Try.results67, go_sem, s0_, s1_, s2_, s3_, s4_, s5_]) rfl ⟨rfl, HB2.out.then hbs.drew (Nat.le_refl _)⟩

set_option maxHeartbeats 8000000 in
theorem done_ok (b : Nat) (n : Bool) (t o r d i : Int) (k : Int) (w : World) (h : Rd w b k 0) :
    Calls Try.prog 67 #[.pointer (some ⟨b, 0, none⟩), .agg #[.bool n, .int .i64 t, .int .i64 o, .int .i64 r, .int .i64 d, .int .i64 i], .bool true] w fun e w' => e = .returned (.tuple #[.agg #[.bool n, .int .i64 t, .int .i64 o, .int .i64 r, .int .i64 d, .int .i64 i], .int .i64 k, .int .i64 0]) ∧ Onl b w w' := by
  have hlt := World.block_lt_of_cell? w _ h.1
  have hb0 : Below w.heap.size w ((w.alloc (.cells #[.bool n, .int .i64 t, .int .i64 o, .int .i64 r, .int .i64 d, .int .i64 i] 48)).alloc (.cells #[.bool false, .int .i64 0, .int .i64 0, .int .i64 0, .int .i64 0, .int .i64 0] 48)) := ((Below.refl _ w).alloc (Nat.le_refl _) _).alloc (by simp) _
  have cN := need_any b true k 0 ((w.alloc (.cells #[.bool n, .int .i64 t, .int .i64 o, .int .i64 r, .int .i64 d, .int .i64 i] 48)).alloc (.cells #[.bool false, .int .i64 0, .int .i64 0, .int .i64 0, .int .i64 0, .int .i64 0] 48)) (h.below hb0)
  rw [show needE 0 true = 0 from rfl] at cN
  have OA := Lib.hid ((own6_alloc w n t o r d i 48 w.heap.size rfl).below ((Below.refl _ _).alloc (Nat.le_refl _) (.cells #[.bool false, .int .i64 0, .int .i64 0, .int .i64 0, .int .i64 0, .int .i64 0] 48)))
  have OB := Lib.hid (own6_alloc (w.alloc (.cells #[.bool n, .int .i64 t, .int .i64 o, .int .i64 r, .int .i64 d, .int .i64 i] 48)) false 0 0 0 0 0 48 (w.heap.size + 1) (by simp))
  have HB := Lib.hid (Onl.of_below b hb0)
  have HL : Hid (b < w.heap.size) := hlt
  clear h hlt hb0
  go_enter Try.func67, Try.ntmps67
  go_wp2_with (go_at_call 36; refine cN.mono ?_; rintro e w1 ⟨rfl, hR, hO⟩; replace OB := Lib.hid (OB.out.onl hO (by have := HL.out; omega)); replace OA := Lib.hid (OA.out.onl hO (by have := HL.out; omega)); replace HB := Lib.hid (HB.out.trans hO); have R := Lib.hid hR; clear hO hR; obtain ⟨z0, z1, zf⟩ := R.out)
  obtain ⟨⟨q0, q1, q2, q3, q4, q5⟩, qf⟩ := OA.out
  obtain ⟨⟨u0, u1, u2, u3, u4, u5⟩, uf⟩ := OB.out
  have hd1 : b ≠ w.heap.size + 1 := by have := HL.out; omega
  have hd2 : w.heap.size + 1 ≠ b := by have := HL.out; omega
  go_region
  go_wp2_with fail
  have hs := set6 OB.out.1 n t o r d i
  have hbs := bel_set6 (B := w.heap.size) (Below.refl _ w1) (b := w.heap.size + 1) (by omega) n t o r d i
  generalize ((((((w1.setCell ⟨(w.heap.size + 1), 0, none⟩ (.bool n)).setCell ⟨(w.heap.size + 1), 1, none⟩ (.int .i64 t)).setCell ⟨(w.heap.size + 1), 2, none⟩ (.int .i64 o)).setCell ⟨(w.heap.size + 1), 3, none⟩ (.int .i64 r)).setCell ⟨(w.heap.size + 1), 4, none⟩ (.int .i64 d)).setCell ⟨(w.heap.size + 1), 5, none⟩ (.int .i64 i)) = W5 at *
  obtain ⟨s0_, s1_, s2_, s3_, s4_, s5_⟩ := hs
  exact bodyPost_ret (v := .tuple #[.agg #[.bool n, .int .i64 t, .int .i64 o, .int .i64 r, .int .i64 d, .int .i64 i], .int .i64 k, .int .i64 0]) (by simp [results, Try.results67, go_sem, s0_, s1_, s2_, s3_, s4_, s5_]) rfl ⟨rfl, HB.out.then hbs.drew (Nat.le_refl _)⟩
#print axioms done_ok
end Go.Proofs.Ytfdjaodnmjkpcaa
