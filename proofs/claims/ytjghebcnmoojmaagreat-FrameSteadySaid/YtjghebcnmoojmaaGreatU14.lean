/- The reader's contracts: a place and an error that lie in memory, numbers read one behind the other. No conditions. What the reader answers at its end, of a height. No conditions. What parsing a height answers, and how a height lies in memory while it is parsed. No conditions. What is parsed has the same bytes, what has bytes is parsed: by the reading's own words. No conditions. What the reader answers at its end, of a packet; a text that is read next. No conditions but those stated. -/
import Derived.Test.YtjghebcnmoojmaaGreatU07
namespace Go.Proofs.YtjghebcnmoojmaaGreat
set_option maxRecDepth 100000
open Go.RowKit Go.Sort

def Rd (w : World) (b : Nat) (at' e : Int) : Prop :=
 w.cell? ⟨b, 0, none⟩ = some (.int .i64 at') ∧ w.cell? ⟨b, 1, none⟩ = some (.int .i64 e) ∧ ∀ k, w.frozen? ⟨b, k, none⟩ = false
structure Onl (b : Nat) (w w' : World) : Prop where
 os : w'.os = w.os
 tape : w'.tape = w.tape
 output : w'.output = w.output
 size : w.heap.size ≤ w'.heap.size
 block : ∀ k, k < w.heap.size → k ≠ b → w'.heap[k]? = w.heap[k]?
theorem Onl.refl (b : Nat) (w : World) : Onl b w w := ⟨rfl, rfl, rfl, Nat.le_refl _, fun _ _ _ => rfl⟩
theorem Onl.trans {b : Nat} {w1 w2 w3 : World} (h : Onl b w1 w2) (h' : Onl b w2 w3) : Onl b w1 w3 :=
 ⟨h'.os.trans h.os, h'.tape.trans h.tape, h'.output.trans h.output, Nat.le_trans h.size h'.size, fun k hk hb => (h'.block k (Nat.lt_of_lt_of_le hk h.size) hb).trans (h.block k hk hb)⟩
theorem Onl.of_below (b : Nat) {w w' : World} (h : Below w.heap.size w w') : Onl b w w' := ⟨h.os, h.tape, h.output, h.size, fun k hk _ => h.block k hk⟩
theorem Onl.below {b B : Nat} {w w' : World} (h : Onl b w w') (hB : B ≤ b) (hw : B ≤ w.heap.size) : Below B w w' :=
 ⟨h.os, h.tape, h.output, h.size, fun k hk => h.block k (Nat.lt_of_lt_of_le hk hw) (by omega)⟩
theorem setCell_size (w : World) (p : Addr) (u : Value) : (w.setCell p u).heap.size = w.heap.size := by simp
theorem Onl.set {b : Nat} {w w' : World} (h : Onl b w w') (j : Nat) (u : Value) : Onl b w (w'.setCell ⟨b, j, none⟩ u) := by
 have hb : Below b w' (w'.setCell ⟨b, j, none⟩ u) := (Below.refl b w').setCell (Nat.le_refl _) u
 exact ⟨hb.os.trans h.os, hb.tape.trans h.tape, hb.output.trans h.output, Nat.le_trans h.size (Nat.le_of_eq (setCell_size _ _ _).symm), fun k hk hkb => (Below.heap_setCell w' ⟨b, j, none⟩ u k hkb).trans (h.block k hk hkb)⟩
theorem Onl.alloc {b : Nat} {w w' : World} (h : Onl b w w') (O : Obj) : Onl b w (w'.alloc O) := h.trans (Onl.of_below b ((Below.refl _ _).alloc (Nat.le_refl _) O))
theorem Onl.cell {b : Nat} {w w' : World} (h : Onl b w w') {p : Addr} (hp : p.block ≠ b) (hl : p.block < w.heap.size) : w'.cell? p = w.cell? p := World.cell?_of_block (w := w) (h.block p.block hl hp)
theorem Onl.frozen {b : Nat} {w w' : World} (h : Onl b w w') {p : Addr} (hp : p.block ≠ b) (hl : p.block < w.heap.size) : w'.frozen? p = w.frozen? p := World.frozen?_of_block (w := w) (h.block p.block hl hp)
theorem Own6.onl {w w' : World} {b g : Nat} {n : Bool} {t o r d i : Int} (h : Own6 w g n t o r d i) (ho : Onl b w w') (hg : g ≠ b) : Own6 w' g n t o r d i := by
 obtain ⟨⟨h0, h1, h2, h3, h4, h5⟩, hf⟩ := h
 have hl := World.block_lt_of_cell? w _ h0
 exact ⟨⟨(ho.cell (p := ⟨g, 0, none⟩) hg hl).trans h0, (ho.cell (p := ⟨g, 1, none⟩) hg hl).trans h1, (ho.cell (p := ⟨g, 2, none⟩) hg hl).trans h2, (ho.cell (p := ⟨g, 3, none⟩) hg hl).trans h3, (ho.cell (p := ⟨g, 4, none⟩) hg hl).trans h4, (ho.cell (p := ⟨g, 5, none⟩) hg hl).trans h5⟩, fun k => (ho.frozen (p := ⟨g, k, none⟩) hg hl).trans (hf k)⟩
theorem Rd.onl {w w' : World} {b g : Nat} {x y : Int} (h : Rd w g x y) (ho : Onl b w w') (hg : g ≠ b) : Rd w' g x y := by
 have hl := World.block_lt_of_cell? w _ h.1
 exact ⟨(ho.cell (p := ⟨g, 0, none⟩) hg hl).trans h.1, (ho.cell (p := ⟨g, 1, none⟩) hg hl).trans h.2.1, fun k => (ho.frozen (p := ⟨g, k, none⟩) hg hl).trans (h.2.2 k)⟩
theorem Rd.below {w w' : World} {g : Nat} {x y : Int} (h : Rd w g x y) (hb : Below w.heap.size w w') : Rd w' g x y := by
 have hl := World.block_lt_of_cell? w _ h.1
 exact ⟨(hb.cell (p := ⟨g, 0, none⟩) hl).trans h.1, (hb.cell (p := ⟨g, 1, none⟩) hl).trans h.2.1, fun k => (hb.frozen (p := ⟨g, k, none⟩) hl).trans (h.2.2 k)⟩
theorem Rd.set {w : World} {b : Nat} {x y : Int} (h : Rd w b x y) (x' y' : Int) : Rd ((w.setCell ⟨b, 0, none⟩ (.int .i64 x')).setCell ⟨b, 1, none⟩ (.int .i64 y')) b x' y' := by
 obtain ⟨h0, h1, hf⟩ := h
 refine ⟨?_, ?_, fun k => ?_⟩ <;> simp [go_sem, h0, h1, hf]
theorem Rd.sete {w : World} {b : Nat} {x y : Int} (h : Rd w b x y) (y' : Int) : Rd (w.setCell ⟨b, 1, none⟩ (.int .i64 y')) b x y' := by
 obtain ⟨h0, h1, hf⟩ := h
 refine ⟨?_, ?_, fun k => ?_⟩ <;> simp [go_sem, h0, h1, hf]
theorem Rd.alloc {w : World} {b : Nat} {x y : Int} (h : Rd w b x y) (O : Obj) : Rd (w.alloc O) b x y := h.below ((Below.refl _ _).alloc (Nat.le_refl _) O)
def numS (xs : List Int) (n : Int) (s : Int × Int) : Int × Int × Int := if s.2 = 0 then getS xs s.1 n else (0, s)
def shortS (xs : List Int) (s : Int × Int) : Int × Int × Int := if s.2 = 0 then getS xs s.1 1 else (0, s)
def longS (xs : List Int) (s : Int × Int) : Int × Int × Int := if s.2 = 0 then getIntS xs s.1 else (0, s)
theorem new_any (k : Int) (w : World) :
  Calls Tryz.prog 30 #[.int .i64 k] w fun e w' => e = .returned (.pointer (some ⟨w.heap.size, 0, none⟩)) ∧ w' = w.alloc (.cells #[.int .i64 k, .int .i64 0] 89) := by
 go_enter Tryz.func30, Tryz.ntmps30
 go_wp2_with fail
 go_ret
 exact ⟨rfl, rfl⟩
theorem rd_alloc (w : World) (k : Int) (g : Nat) (hg : g = w.heap.size) : Rd (w.alloc (.cells #[.int .i64 k, .int .i64 0] 89)) g k 0 := by
 subst hg
 refine ⟨?_, ?_, fun k => ?_⟩ <;> simp
theorem clos_any (g : Nat) (v : Value) (xs : List Int) (k n : Int) (w : World) (hn : w.cell? ⟨g, 0, none⟩ = some (.int .i64 n)) (hv : Bs w v xs) :
  Calls Tryz.prog 52 #[v, .int .i64 k, .pointer (some ⟨g, 0, none⟩)] w fun e w' => e = .returned (tri (getS xs k n)) ∧ w = w' := by
 have cG := get_any v xs k n w hv
 generalize getS xs k n = r at *
 obtain ⟨r1, r2, r3⟩ := r
 simp only [tri] at *
 obtain ⟨a, l, c, rfl⟩ := Bs_form hv
 clear hv
 go_enter Tryz.func52, Tryz.ntmps52
 go_wp2_with (go_at_call 53; refine cG.mono ?_; rintro e w' ⟨rfl, hw⟩; subst hw)
 go_ret3
 exact ⟨rfl, rfl⟩
set_option maxHeartbeats 4000000 in
theorem nget_ok (b : Nat) (v : Value) (xs : List Int) (k : Int) (g : Nat) (n : Int) (w : World) (h : Rd w b k 0) (hn : w.cell? ⟨g, 0, none⟩ = some (.int .i64 n)) (hv : Bs w v xs) :
  Calls Tryz.prog 51 #[.pointer (some ⟨b, 0, none⟩), v, .func (Fn.func 52) #[] #[.pointer (some ⟨g, 0, none⟩)]] w fun e w' => e = .returned (.int .i64 (getS xs k n).1) ∧ Rd w' b (getS xs k n).2.1 (getS xs k n).2.2 ∧ Onl b w w' := by
 have cG := clos_any g v xs k n w hn hv
 generalize getS xs k n = r at *
 obtain ⟨r1, r2, r3⟩ := r
 simp only [tri] at *
 obtain ⟨a, l, c, rfl⟩ := Bs_form hv
 have R := Lib.hid h
 obtain ⟨h0, h1, hf⟩ := h
 clear hv
 go_enter Tryz.func51, Tryz.ntmps51
 go_wp2_with (go_at_call 52; refine cG.mono ?_; rintro e w' ⟨rfl, hw⟩; subst hw)
 go_ret
 exact ⟨rfl, R.out.set _ _, ((Onl.refl _ _).set 0 _).set 1 _⟩
set_option maxHeartbeats 4000000 in
theorem nint_ok (b : Nat) (v : Value) (xs : List Int) (k : Int)  (w : World) (h : Rd w b k 0) (hv : Bs w v xs) :
  Calls Tryz.prog 51 #[.pointer (some ⟨b, 0, none⟩), v, .func (Fn.func 153) #[] #[]] w fun e w' => e = .returned (.int .i64 (getIntS xs k).1) ∧ Rd w' b (getIntS xs k).2.1 (getIntS xs k).2.2 ∧ Onl b w w' := by
 have cG := getInt_any v xs k w hv
 generalize getIntS xs k = r at *
 obtain ⟨r1, r2, r3⟩ := r
 simp only [tri] at *
 obtain ⟨a, l, c, rfl⟩ := Bs_form hv
 have R := Lib.hid h
 obtain ⟨h0, h1, hf⟩ := h
 clear hv
 go_enter Tryz.func51, Tryz.ntmps51
 go_wp2_with (go_at_call 153; refine cG.mono ?_; rintro e w' ⟨rfl, hw⟩; subst hw)
 go_ret
 exact ⟨rfl, R.out.set _ _, ((Onl.refl _ _).set 0 _).set 1 _⟩
set_option maxHeartbeats 4000000 in
theorem next_no (b : Nat) (a : Option Addr) (l c : Nat) (F : Value) (k e0 : Int) (w : World) (h : Rd w b k e0) (he : e0 ≠ 0) :
  Calls Tryz.prog 51 #[.pointer (some ⟨b, 0, none⟩), .slice a l c, F] w fun e w' => e = .returned (.int .i64 0) ∧ w = w' := by
 have hne : (e0 == 0) = false := by simpa using he
 obtain ⟨h0, h1, hf⟩ := h
 clear he
 go_enter Tryz.func51, Tryz.ntmps51
 go_wp2_with fail
 go_ret
 exact ⟨rfl, rfl⟩
set_option maxHeartbeats 4000000 in
theorem number_any (b : Nat) (v : Value) (xs : List Int) (n k e0 : Int) (w : World) (h : Rd w b k e0) (hv : Bs w v xs) :
  Calls Tryz.prog 31 #[.pointer (some ⟨b, 0, none⟩), v, .int .i64 n] w fun e w' => e = .returned (.int .i64 (numS xs n (k, e0)).1) ∧ Rd w' b (numS xs n (k, e0)).2.1 (numS xs n (k, e0)).2.2 ∧ Onl b w w' := by
 have hb : Below w.heap.size w (w.alloc (.cells #[.int .i64 n] 3)) := (Below.refl _ w).alloc (Nat.le_refl _) _
 by_cases he : e0 = 0
 ·subst he
  have cG := nget_ok b v xs k w.heap.size n (w.alloc (.cells #[.int .i64 n] 3)) (h.alloc _) (by simp) (Bs_below hv hb)
  have hs : numS xs n (k, 0) = getS xs k n := by simp [numS]
  rw [hs]
  generalize getS xs k n = r at *
  obtain ⟨r1, r2, r3⟩ := r
  obtain ⟨a, l, c, rfl⟩ := Bs_form hv
  have HB := Lib.hid hb
  clear hv h hs hb
  go_enter Tryz.func31, Tryz.ntmps31
  go_wp2_with (go_at_call 51; refine cG.mono ?_; rintro e w' ⟨rfl, hR, hO⟩)
  go_ret
  exact ⟨rfl, hR, (Onl.of_below b HB.out).trans hO⟩
 ·obtain ⟨a, l, c, rfl⟩ := Bs_form hv
  have cG := fun F => next_no b a l c F k e0 (w.alloc (.cells #[.int .i64 n] 3)) (h.alloc _) he
  have hs : numS xs n (k, e0) = (0, (k, e0)) := by simp [numS, he]
  rw [hs]
  have HB := Lib.hid hb
  have R := Lib.hid (h.alloc (.cells #[.int .i64 n] 3))
  clear hv h hs hb he
  go_enter Tryz.func31, Tryz.ntmps31
  go_wp2_with (go_at_call 51; refine (cG _).mono ?_; rintro e w' ⟨rfl, hw⟩; subst hw)
  go_ret
  exact ⟨rfl, R.out, Onl.of_below b HB.out⟩
set_option maxHeartbeats 4000000 in
theorem rdint_any (b : Nat) (v : Value) (xs : List Int) (k e0 : Int) (w : World) (h : Rd w b k e0) (hv : Bs w v xs) :
  Calls Tryz.prog 138 #[.pointer (some ⟨b, 0, none⟩), v] w fun e w' => e = .returned (.int .i64 (longS xs (k, e0)).1) ∧ Rd w' b (longS xs (k, e0)).2.1 (longS xs (k, e0)).2.2 ∧ Onl b w w' := by
 by_cases he : e0 = 0
 ·subst he
  have cG := nint_ok b v xs k w h hv
  have hs : longS xs (k, 0) = getIntS xs k := by simp [longS]
  rw [hs]
  generalize getIntS xs k = r at *
  obtain ⟨r1, r2, r3⟩ := r
  obtain ⟨a, l, c, rfl⟩ := Bs_form hv
  clear hv h hs
  go_enter Tryz.func138, Tryz.ntmps138
  go_wp2_with (go_at_call 51; refine cG.mono ?_; rintro e w' ⟨rfl, hR, hO⟩)
  go_ret
  exact ⟨rfl, hR, hO⟩
 ·obtain ⟨a, l, c, rfl⟩ := Bs_form hv
  have cG := fun F => next_no b a l c F k e0 w h he
  have hs : longS xs (k, e0) = (0, (k, e0)) := by simp [longS, he]
  rw [hs]
  have R := Lib.hid h
  clear hv h hs he
  go_enter Tryz.func138, Tryz.ntmps138
  go_wp2_with (go_at_call 51; refine (cG _).mono ?_; rintro e w' ⟨rfl, hw⟩; subst hw)
  go_ret
  exact ⟨rfl, R.out, Onl.refl b _⟩
def needE (e : Int) (ok : Bool) : Int := if e = 0 ∧ ok = false then 4 else e
set_option maxHeartbeats 4000000 in
theorem need_any (b : Nat) (ok : Bool) (k e0 : Int) (w : World) (h : Rd w b k e0) :
  Calls Tryz.prog 57 #[.pointer (some ⟨b, 0, none⟩), .bool ok] w fun e w' => e = .returned (.tuple #[]) ∧ Rd w' b k (needE e0 ok) ∧ Onl b w w' := by
 have R := Lib.hid h
 obtain ⟨h0, h1, hf⟩ := h
 by_cases he : e0 = 0
 ·subst he
  cases ok with
  | true =>
   go_enter Tryz.func57, Tryz.ntmps57
   go_wp2_with fail
   go_end0
   exact ⟨rfl, R.out, Onl.refl b _⟩
  | false =>
   go_enter Tryz.func57, Tryz.ntmps57
   go_wp2_with fail
   go_end0
   exact ⟨rfl, R.out.sete 4, (Onl.refl b _).set 1 _⟩
 ·have hne : (e0 == 0) = false := by simpa using he
  have hn : needE e0 ok = e0 := by simp [needE, he]
  rw [hn]
  clear he hn
  go_enter Tryz.func57, Tryz.ntmps57
  go_wp2_with fail
  go_end0
  exact ⟨rfl, R.out, Onl.refl b _⟩
end Go.Proofs.YtjghebcnmoojmaaGreat

namespace Go.Proofs.YtjghebcnmoojmaaGreat
set_option maxRecDepth 100000
open Go.RowKit Go.Sort

theorem Onl.then {b B : Nat} {w w1 w2 : World} (h : Onl b w w1) (h' : Below B w1 w2) (hB : w.heap.size ≤ B) : Onl b w w2 :=
 ⟨h'.os.trans h.os, h'.tape.trans h.tape, h'.output.trans h.output, Nat.le_trans h.size h'.size, fun k hk hkb => (h'.block k (Nat.lt_of_lt_of_le hk hB)).trans (h.block k hk hkb)⟩
set_option maxHeartbeats 8000000 in
theorem done_err (b : Nat) (n : Bool) (t o r d i : Int) (ok : Bool) (k e0 e1 : Int) (w : World) (h : Rd w b k e0) (hn : needE e0 ok = e1) (he : e1 ≠ 0) :
  Calls Tryz.prog 154 #[.pointer (some ⟨b, 0, none⟩), .agg #[.bool n, .int .i64 t, .int .i64 o, .int .i64 r, .int .i64 d, .int .i64 i], .bool ok] w fun e w' => e = .returned (.tuple #[.agg #[.bool false, .int .i64 0, .int .i64 0, .int .i64 0, .int .i64 0, .int .i64 0], .int .i64 0, .int .i64 e1]) ∧ Onl b w w' := by
 have hne : (e1 == 0) = false := by simpa using he
 have hlt := World.block_lt_of_cell? w _ h.1
 have hb0 : Below w.heap.size w ((w.alloc (.cells #[.bool n, .int .i64 t, .int .i64 o, .int .i64 r, .int .i64 d, .int .i64 i] 59)).alloc (.cells #[.bool false, .int .i64 0, .int .i64 0, .int .i64 0, .int .i64 0, .int .i64 0] 59)) := ((Below.refl _ w).alloc (Nat.le_refl _) _).alloc (by simp) _
 have cN := need_any b ok k e0 ((w.alloc (.cells #[.bool n, .int .i64 t, .int .i64 o, .int .i64 r, .int .i64 d, .int .i64 i] 59)).alloc (.cells #[.bool false, .int .i64 0, .int .i64 0, .int .i64 0, .int .i64 0, .int .i64 0] 59)) (h.below hb0)
 rw [hn] at cN
 have OB := Lib.hid (own6_alloc (w.alloc (.cells #[.bool n, .int .i64 t, .int .i64 o, .int .i64 r, .int .i64 d, .int .i64 i] 59)) false 0 0 0 0 0 59 (w.heap.size + 1) (by simp))
 have HB := Lib.hid (Onl.of_below b hb0)
 have HL : Hid (b < w.heap.size) := hlt
 clear h hn he hlt hb0
 go_enter Tryz.func154, Tryz.ntmps154
 go_wp2_with (go_at_call 57; refine cN.mono ?_; rintro e w1 ⟨rfl, hR, hO⟩; replace OB := Lib.hid (OB.out.onl hO (by have := HL.out; omega)); replace HB := Lib.hid (HB.out.trans hO); have R := Lib.hid hR; clear hO hR; obtain ⟨z0, z1, zf⟩ := R.out)
 have OB2 := Lib.hid (OB.out.below ((Below.refl _ _).alloc (Nat.le_refl _) (.cells #[.bool false, .int .i64 0, .int .i64 0, .int .i64 0, .int .i64 0, .int .i64 0] 59)))
 have OZ := Lib.hid (own6_alloc w1 false 0 0 0 0 0 59 w1.heap.size rfl)
 have R2 := Lib.hid (R.out.alloc (.cells #[.bool false, .int .i64 0, .int .i64 0, .int .i64 0, .int .i64 0, .int .i64 0] 59))
 have HB2 := Lib.hid (HB.out.alloc (.cells #[.bool false, .int .i64 0, .int .i64 0, .int .i64 0, .int .i64 0, .int .i64 0] 59))
 have hne2 : Hid (w.heap.size + 1 < w1.heap.size) := World.block_lt_of_cell? w1 _ OB.out.1.1
 clear z0 z1 zf R OB HB
 generalize w1.alloc (.cells #[.bool false, .int .i64 0, .int .i64 0, .int .i64 0, .int .i64 0, .int .i64 0] 59) = V at *
 obtain ⟨z0, z1, zf⟩ := R2.out
 obtain ⟨⟨q0, q1, q2, q3, q4, q5⟩, qf⟩ := OZ.out
 obtain ⟨⟨u0, u1, u2, u3, u4, u5⟩, uf⟩ := OB2.out
 have hd1 : b ≠ w.heap.size + 1 := by have := HL.out; omega
 have hd2 : w.heap.size + 1 ≠ b := by have := HL.out; omega
 go_region
 go_wp2_with fail
 have hs := set6 OB2.out.1 false 0 0 0 0 0
 have hbs := bel_set6 (B := w.heap.size) (Below.refl _ V) (b := w.heap.size + 1) (by omega) false 0 0 0 0 0
 generalize ((((((V.setCell ⟨(w.heap.size + 1), 0, none⟩ (.bool false)).setCell ⟨(w.heap.size + 1), 1, none⟩ (.int .i64 0)).setCell ⟨(w.heap.size + 1), 2, none⟩ (.int .i64 0)).setCell ⟨(w.heap.size + 1), 3, none⟩ (.int .i64 0)).setCell ⟨(w.heap.size + 1), 4, none⟩ (.int .i64 0)).setCell ⟨(w.heap.size + 1), 5, none⟩ (.int .i64 0)) = W5 at *
 obtain ⟨s0_, s1_, s2_, s3_, s4_, s5_⟩ := hs
 exact bodyPost_ret (v := .tuple #[.agg #[.bool false, .int .i64 0, .int .i64 0, .int .i64 0, .int .i64 0, .int .i64 0], .int .i64 0, .int .i64 e1]) (by simp [results, Tryz.results154, go_sem, s0_, s1_, s2_, s3_, s4_, s5_]) rfl ⟨rfl, HB2.out.then hbs.drew (Nat.le_refl _)⟩
set_option maxHeartbeats 8000000 in
theorem done_ok (b : Nat) (n : Bool) (t o r d i : Int) (k : Int) (w : World) (h : Rd w b k 0) :
  Calls Tryz.prog 154 #[.pointer (some ⟨b, 0, none⟩), .agg #[.bool n, .int .i64 t, .int .i64 o, .int .i64 r, .int .i64 d, .int .i64 i], .bool true] w fun e w' => e = .returned (.tuple #[.agg #[.bool n, .int .i64 t, .int .i64 o, .int .i64 r, .int .i64 d, .int .i64 i], .int .i64 k, .int .i64 0]) ∧ Onl b w w' := by
 have hlt := World.block_lt_of_cell? w _ h.1
 have hb0 : Below w.heap.size w ((w.alloc (.cells #[.bool n, .int .i64 t, .int .i64 o, .int .i64 r, .int .i64 d, .int .i64 i] 59)).alloc (.cells #[.bool false, .int .i64 0, .int .i64 0, .int .i64 0, .int .i64 0, .int .i64 0] 59)) := ((Below.refl _ w).alloc (Nat.le_refl _) _).alloc (by simp) _
 have cN := need_any b true k 0 ((w.alloc (.cells #[.bool n, .int .i64 t, .int .i64 o, .int .i64 r, .int .i64 d, .int .i64 i] 59)).alloc (.cells #[.bool false, .int .i64 0, .int .i64 0, .int .i64 0, .int .i64 0, .int .i64 0] 59)) (h.below hb0)
 rw [show needE 0 true = 0 from rfl] at cN
 have OA := Lib.hid ((own6_alloc w n t o r d i 59 w.heap.size rfl).below ((Below.refl _ _).alloc (Nat.le_refl _) (.cells #[.bool false, .int .i64 0, .int .i64 0, .int .i64 0, .int .i64 0, .int .i64 0] 59)))
 have OB := Lib.hid (own6_alloc (w.alloc (.cells #[.bool n, .int .i64 t, .int .i64 o, .int .i64 r, .int .i64 d, .int .i64 i] 59)) false 0 0 0 0 0 59 (w.heap.size + 1) (by simp))
 have HB := Lib.hid (Onl.of_below b hb0)
 have HL : Hid (b < w.heap.size) := hlt
 clear h hlt hb0
 go_enter Tryz.func154, Tryz.ntmps154
 go_wp2_with (go_at_call 57; refine cN.mono ?_; rintro e w1 ⟨rfl, hR, hO⟩; replace OB := Lib.hid (OB.out.onl hO (by have := HL.out; omega)); replace OA := Lib.hid (OA.out.onl hO (by have := HL.out; omega)); replace HB := Lib.hid (HB.out.trans hO); have R := Lib.hid hR; clear hO hR; obtain ⟨z0, z1, zf⟩ := R.out)
 obtain ⟨⟨q0, q1, q2, q3, q4, q5⟩, qf⟩ := OA.out
 obtain ⟨⟨u0, u1, u2, u3, u4, u5⟩, uf⟩ := OB.out
 have hd1 : b ≠ w.heap.size + 1 := by have := HL.out; omega
 have hd2 : w.heap.size + 1 ≠ b := by have := HL.out; omega
 go_region
 go_wp2_with fail
 have hs := set6 OB.out.1 n t o r d i
 have hbs := bel_set6 (B := w.heap.size) (Below.refl _ w1) (b := w.heap.size + 1) (by omega) n t o r d i
 generalize ((((((w1.setCell ⟨(w.heap.size + 1), 0, none⟩ (.bool n)).setCell ⟨(w.heap.size + 1), 1, none⟩ (.int .i64 t)).setCell ⟨(w.heap.size + 1), 2, none⟩ (.int .i64 o)).setCell ⟨(w.heap.size + 1), 3, none⟩ (.int .i64 r)).setCell ⟨(w.heap.size + 1), 4, none⟩ (.int .i64 d)).setCell ⟨(w.heap.size + 1), 5, none⟩ (.int .i64 i)) = W5 at *
 obtain ⟨s0_, s1_, s2_, s3_, s4_, s5_⟩ := hs
 exact bodyPost_ret (v := .tuple #[.agg #[.bool n, .int .i64 t, .int .i64 o, .int .i64 r, .int .i64 d, .int .i64 i], .int .i64 k, .int .i64 0]) (by simp [results, Tryz.results154, go_sem, s0_, s1_, s2_, s3_, s4_, s5_]) rfl ⟨rfl, HB.out.then hbs.drew (Nat.le_refl _)⟩
end Go.Proofs.YtjghebcnmoojmaaGreat

namespace Go.Proofs.YtjghebcnmoojmaaGreat
set_option maxRecDepth 100000
open Go.RowKit Go.Sort

structure PR where
 n : Bool
 t : Int
 o : Int
 r : Int
 d : Int
 i : Int
 to : Int
 e : Int
def PR.v (p : PR) : Value := .tuple #[.agg #[.bool p.n, .int .i64 p.t, .int .i64 p.o, .int .i64 p.r, .int .i64 p.d, .int .i64 p.i], .int .i64 p.to, .int .i64 p.e]
def PR.no (e : Int) : PR := ⟨false, 0, 0, 0, 0, 0, 0, e⟩
def parseF (n : Bool) (t o r d : Int) (s : Int × Int × Int) : PR := if s.2.2 = 0 then (if HtOk n t o r d s.1 then ⟨n, t, o, r, d, s.1, s.2.1, 0⟩ else .no 4) else .no s.2.2
def parseS (xs : List Int) (k : Int) : PR :=
 if (shortS xs (k, 0)).1 = 0 then parseF true 0 0 0 0 (shortS xs (shortS xs (k, 0)).2)
 else if (shortS xs (k, 0)).1 = 1 then
  parseF false (longS xs (shortS xs (k, 0)).2).1 (shortS xs (longS xs (shortS xs (k, 0)).2).2).1 (shortS xs (shortS xs (longS xs (shortS xs (k, 0)).2).2).2).1
   (longS xs (shortS xs (shortS xs (longS xs (shortS xs (k, 0)).2).2).2).2).1 (shortS xs (longS xs (shortS xs (shortS xs (longS xs (shortS xs (k, 0)).2).2).2).2).2)
 else .no 4
theorem Own6.setn {w : World} {g : Nat} {n : Bool} {t o r d i : Int} (h : Own6 w g n t o r d i) (m : Bool) : Own6 (w.setCell ⟨g, 0, none⟩ (.bool m)) g m t o r d i := by
 obtain ⟨⟨h0, h1, h2, h3, h4, h5⟩, hf⟩ := h
 refine ⟨⟨?_, ?_, ?_, ?_, ?_, ?_⟩, fun k => ?_⟩ <;> simp [go_sem, h0, h1, h2, h3, h4, h5, hf]
theorem Own6.seti {w : World} {g : Nat} {n : Bool} {t o r d i : Int} (h : Own6 w g n t o r d i) (m : Int) : Own6 (w.setCell ⟨g, 5, none⟩ (.int .i64 m)) g n t o r d m := by
 obtain ⟨⟨h0, h1, h2, h3, h4, h5⟩, hf⟩ := h
 refine ⟨⟨?_, ?_, ?_, ?_, ?_, ?_⟩, fun k => ?_⟩ <;> simp [go_sem, h0, h1, h2, h3, h4, h5, hf]
theorem Own6.set {w : World} {g : Nat} {m : Bool} {x1 x2 x3 x4 x5 : Int} (h : Own6 w g m x1 x2 x3 x4 x5) (n : Bool) (t o r d i : Int) : Own6 ((((((w.setCell ⟨g, 0, none⟩ (.bool n)).setCell ⟨g, 1, none⟩ (.int .i64 t)).setCell ⟨g, 2, none⟩ (.int .i64 o)).setCell ⟨g, 3, none⟩ (.int .i64 r)).setCell ⟨g, 4, none⟩ (.int .i64 d)).setCell ⟨g, 5, none⟩ (.int .i64 i)) g n t o r d i :=
 ⟨set6 h.1 n t o r d i, fun k => by simp [go_sem, h.2]⟩
def doneP (e0 : Int) (ok : Bool) (n : Bool) (t o r d i k : Int) : PR := if needE e0 ok = 0 then ⟨n, t, o, r, d, i, k, 0⟩ else .no (needE e0 ok)
theorem done_any (b : Nat) (n : Bool) (t o r d i : Int) (ok : Bool) (k e0 : Int) (w : World) (h : Rd w b k e0) :
  Calls Tryz.prog 154 #[.pointer (some ⟨b, 0, none⟩), .agg #[.bool n, .int .i64 t, .int .i64 o, .int .i64 r, .int .i64 d, .int .i64 i], .bool ok] w fun e w' => e = .returned (doneP e0 ok n t o r d i k).v ∧ Onl b w w' := by
 unfold doneP
 by_cases he : needE e0 ok = 0
 ·rw [if_pos he]
  have h0 : e0 = 0 := by unfold needE at he; split at he <;> omega
  subst h0
  have h1 : ok = true := by cases ok with
   | true => rfl
   | false => simp [needE] at he
  subst h1
  exact done_ok b n t o r d i k w h
 ·rw [if_neg he]
  exact done_err b n t o r d i ok k e0 _ w h rfl he
end Go.Proofs.YtjghebcnmoojmaaGreat

namespace Go.Proofs.YtjghebcnmoojmaaGreat
set_option maxRecDepth 100000
open Go.RowKit Go.Sort

theorem seg_one (xs : List Int) (K : Nat) (h : K < xs.length) : segN xs K 1 = xs.getD K 0 := by
 unfold segN
 rw [List.drop_eq_getElem_cons h, List.take_succ_cons, List.take_zero]
 simp [be, List.getD, h]
theorem short_at (xs : List Int) (K : Nat) (h : K < xs.length) : shortS xs ((K : Int), 0) = (xs.getD K 0, (K : Int) + 1, 0) := by
 unfold shortS getS
 rw [if_pos rfl, if_neg (by simp only []; omega), if_neg (by simp only []; omega)]
 simp only [Int.toNat_natCast]
 rw [show (1 : Int).toNat = 1 from rfl, seg_one xs K h]
theorem long_at (xs : List Int) (K : Nat) (h : K + 8 ≤ xs.length) : longS xs ((K : Int), 0) = (wrap64 (segN xs K 8), (K : Int) + 8, 0) := by
 unfold longS getIntS
 rw [if_pos rfl, if_neg (by simp only []; omega), if_neg (by simp only []; omega)]
 simp only [Int.toNat_natCast]
theorem short_inv {xs : List Int} {K : Nat} {e x s : Int} (h : shortS xs ((K : Int), e) = (x, s, 0)) : e = 0 ∧ K < xs.length ∧ x = xs.getD K 0 ∧ s = (K : Int) + 1 := by
 by_cases he : e = 0
 ·subst he
  by_cases hk : K < xs.length
  ·rw [short_at xs K hk] at h
   simp only [Prod.mk.injEq] at h
   exact ⟨rfl, hk, h.1.symm, h.2.1.symm⟩
  ·unfold shortS getS at h
   rw [if_pos rfl] at h
   by_cases h1 : (xs.length : Int) < (K : Int)
   ·rw [if_pos (by simp only []; omega)] at h; simp at h
   ·rw [if_neg (by simp only []; omega), if_pos (by simp only []; omega)] at h; simp at h
 ·simp [shortS, he] at h
theorem long_inv {xs : List Int} {K : Nat} {e x s : Int} (h : longS xs ((K : Int), e) = (x, s, 0)) : e = 0 ∧ K + 8 ≤ xs.length ∧ x = wrap64 (segN xs K 8) ∧ s = (K : Int) + 8 := by
 by_cases he : e = 0
 ·subst he
  by_cases hk : K + 8 ≤ xs.length
  ·rw [long_at xs K hk] at h
   simp only [Prod.mk.injEq] at h
   exact ⟨rfl, hk, h.1.symm, h.2.1.symm⟩
  ·unfold longS getIntS at h
   rw [if_pos rfl] at h
   by_cases h1 : (xs.length : Int) < (K : Int)
   ·rw [if_pos (by simp only []; omega)] at h; simp at h
   ·rw [if_neg (by simp only []; omega), if_pos (by simp only []; omega)] at h; simp at h
 ·simp [longS, he] at h
theorem seg_bd8 {xs : List Int} (hx : ∀ x ∈ xs, 0 ≤ x ∧ x < 256) (K : Nat) (h : K + 8 ≤ xs.length) : 0 ≤ segN xs K 8 ∧ segN xs K 8 < 18446744073709551616 := by
 have h1 := be_bd _ (seg_bytes hx K 8)
 rw [show ((xs.drop K).take 8).length = 8 by simp; omega, show pow256 8 = 18446744073709551616 by decide] at h1
 exact h1
theorem seg_eight {xs : List Int} {K : Nat} (hx : ∀ x ∈ xs, 0 ≤ x ∧ x < 256) (h : K + 8 ≤ xs.length) : i8 (wrap64 (segN xs K 8)) = (xs.drop K).take 8 := by
 have h1 := lo_be ((xs.drop K).take 8) (seg_bytes hx K 8)
 have h2 := seg_bd8 hx K h
 rw [show ((xs.drop K).take 8).length = 8 by simp; omega] at h1
 have e : IntKind.u64.wrap (wrap64 (segN xs K 8)) = segN xs K 8 := by
  rw [IntKind.wrap_u64]; unfold wrap64; omega
 unfold i8
 rw [e]; exact h1
theorem take_one (xs : List Int) (K : Nat) (h : K < xs.length) : (xs.drop K).take 1 = [xs.getD K 0] := by
 rw [List.drop_eq_getElem_cons h, List.take_succ_cons, List.take_zero]
 simp [List.getD, h]
theorem take_two (xs : List Int) (K : Nat) (h : K + 1 < xs.length) : (xs.drop K).take 2 = [xs.getD K 0, xs.getD (K + 1) 0] := by
 rw [List.drop_eq_getElem_cons (by omega), List.take_succ_cons, List.drop_eq_getElem_cons (by omega), List.take_succ_cons, List.take_zero]
 simp [List.getD, show K < xs.length by omega, h]
theorem short_mid (f m : List Int) (x : Int) (K : Nat) (hK : K = f.length) : shortS (f ++ (x :: m)) ((K : Int), 0) = (x, (K : Int) + 1, 0) := by
 subst hK
 rw [short_at _ _ (by simp)]
 simp [List.getD]
theorem long_mid (f m : List Int) {v : Int} (h : -9223372036854775808 ≤ v) (h' : v < 9223372036854775808) (K : Nat) (hK : K = f.length) : longS (f ++ (i8 v ++ m)) ((K : Int), 0) = (v, (K : Int) + 8, 0) := by
 subst hK
 unfold longS
 rw [if_pos rfl]
 exact back_getInt f m h h'
theorem htB_len (n : Bool) (t o r d i : Int) : (htB n t o r d i).length = if n then 2 else 20 := by
 cases n <;> simp [htB, i8_len]
theorem parse_fwd (f m : List Int) {n : Bool} {t o r d i : Int} (h : HtOk n t o r d i) :
  parseS (f ++ (htB n t o r d i ++ m)) f.length = ⟨n, t, o, r, d, i, (f.length : Int) + ((htB n t o r d i).length : Int), 0⟩ := by
 cases n with
 | true =>
  have hn : t = 0 ∧ o = 0 ∧ r = 0 ∧ d = 0 := by
   rcases h.2 with h | h
   ·exact h.2
   ·cases h.1
  obtain ⟨rfl, rfl, rfl, rfl⟩ := hn
  have e : f ++ (htB true 0 0 0 0 i ++ m) = f ++ (0 :: (i :: m)) := by simp [htB]
  have e' : f ++ (0 :: (i :: m)) = (f ++ [0]) ++ (i :: m) := by simp
  have h1 := short_mid f (i :: m) 0 f.length rfl
  have h2 := short_mid (f ++ [0]) m i (f.length + 1) (by simp)
  rw [← e'] at h2
  rw [e, htB_len]
  unfold parseS
  simp only [h1, if_true]
  rw [show ((f.length : Int) + 1) = ((f.length + 1 : Nat) : Int) by omega, h2]
  unfold parseF
  simp only [if_true]
  rw [if_pos h]
  congr 1
 | false =>
  have hr : RowOk t o r d := by
   rcases h.2 with h | h
   ·cases h.1
   ·exact h.2
  unfold RowOk at hr
  obtain ⟨t1, t2, -, -, d1, d2⟩ := hr
  have e : f ++ (htB false t o r d i ++ m) = f ++ (1 :: (i8 t ++ (o :: (r :: (i8 d ++ (i :: m)))))) := by simp [htB]
  have h1 := short_mid f (i8 t ++ (o :: (r :: (i8 d ++ (i :: m))))) 1 f.length rfl
  have h2 := long_mid (f ++ [1]) (o :: (r :: (i8 d ++ (i :: m)))) (v := t) (by omega) (by omega) (f.length + 1) (by simp)
  have h3 := short_mid (f ++ [1] ++ i8 t) (r :: (i8 d ++ (i :: m))) o (f.length + 9) (by simp [i8_len])
  have h4 := short_mid (f ++ [1] ++ i8 t ++ [o]) (i8 d ++ (i :: m)) r (f.length + 10) (by simp [i8_len])
  have h5 := long_mid (f ++ [1] ++ i8 t ++ [o] ++ [r]) (i :: m) (v := d) (by omega) (by omega) (f.length + 11) (by simp [i8_len])
  have h6 := short_mid (f ++ [1] ++ i8 t ++ [o] ++ [r] ++ i8 d) m i (f.length + 19) (by simp [i8_len])
  simp only [List.append_assoc, List.nil_append, List.cons_append] at h1 h2 h3 h4 h5 h6
  rw [e, htB_len]
  unfold parseS
  simp only [h1, show ¬ ((1 : Int) = 0) by decide, if_false, if_true]
  rw [show ((f.length : Int) + 1) = ((f.length + 1 : Nat) : Int) by omega]
  simp only [h2]
  rw [show (((f.length + 1 : Nat) : Int) + 8) = ((f.length + 9 : Nat) : Int) by omega]
  simp only [h3]
  rw [show (((f.length + 9 : Nat) : Int) + 1) = ((f.length + 10 : Nat) : Int) by omega]
  simp only [h4]
  rw [show (((f.length + 10 : Nat) : Int) + 1) = ((f.length + 11 : Nat) : Int) by omega]
  simp only [h5]
  rw [show (((f.length + 11 : Nat) : Int) + 8) = ((f.length + 19 : Nat) : Int) by omega]
  simp only [h6]
  unfold parseF
  simp only [if_true]
  rw [if_pos h]
  congr 1
end Go.Proofs.YtjghebcnmoojmaaGreat

namespace Go.Proofs.YtjghebcnmoojmaaGreat
set_option maxRecDepth 100000
open Go.RowKit

theorem OwnP.onl {w w' : World} {b g : Nat} {s d t n : Int} {x : ByteArray} (h : OwnP w g s d t n x) (ho : Onl b w w') (hg : g ≠ b) : OwnP w' g s d t n x := by
 obtain ⟨⟨h0, h1, h2, h3, h4⟩, hf⟩ := h
 have hl := World.block_lt_of_cell? w _ h0
 have f : ∀ {j : Nat} {v : Value}, w.cell? ⟨g, j, none⟩ = some v → w'.cell? ⟨g, j, none⟩ = some v := fun {j v} h => (ho.cell (p := ⟨g, j, none⟩) hg hl).trans h
 exact ⟨⟨f h0, f h1, f h2, f h3, f h4⟩, fun j => (ho.frozen (p := ⟨g, j, none⟩) hg hl).trans (hf j)⟩
theorem OwnP.set4 {w : World} {b : Nat} {s d t n : Int} {x : ByteArray} (h : OwnP w b s d t n x) (x' : ByteArray) : OwnP (w.setCell ⟨b, 4, none⟩ (.string x')) b s d t n x' := by
 obtain ⟨⟨h0, h1, h2, h3, h4⟩, hf⟩ := h
 refine ⟨⟨?_, ?_, ?_, ?_, ?_⟩, fun j => ?_⟩ <;> simp [go_sem, hf, h0, h1, h2, h3, h4]
set_option maxHeartbeats 16000000 in
theorem pdone_err (b : Nat) (s d t n : Int) (x : ByteArray) (ok : Bool) (at' e0 e1 : Int) (w : World) (h : Rd w b at' e0) (hn : needE e0 ok = e1) (he : e1 ≠ 0) :
  Calls Tryz.prog 120 #[.pointer (some ⟨b, 0, none⟩), .agg #[.int .i64 s, .int .i64 d, .int .i64 t, .int .i64 n, .string x], .bool ok] w fun e w' => e = .returned (.tuple #[.agg #[.int .i64 0, .int .i64 0, .int .i64 0, .int .i64 0, .string ⟨#[]⟩], .int .i64 0, .int .i64 e1]) ∧ Onl b w w' := by
 have hne : (e1 == 0) = false := by simpa using he
 have hlt := World.block_lt_of_cell? w _ h.1
 have hb0 : Below w.heap.size w ((w.alloc (.cells #[.int .i64 s, .int .i64 d, .int .i64 t, .int .i64 n, .string x] 48)).alloc (.cells #[.int .i64 0, .int .i64 0, .int .i64 0, .int .i64 0, .string ⟨#[]⟩] 48)) := ((Below.refl _ w).alloc (Nat.le_refl _) _).alloc (by simp) _
 have cN := need_any b ok at' e0 ((w.alloc (.cells #[.int .i64 s, .int .i64 d, .int .i64 t, .int .i64 n, .string x] 48)).alloc (.cells #[.int .i64 0, .int .i64 0, .int .i64 0, .int .i64 0, .string ⟨#[]⟩] 48)) (h.below hb0)
 rw [hn] at cN
 have OB := Lib.hid (ownp_alloc (w.alloc (.cells #[.int .i64 s, .int .i64 d, .int .i64 t, .int .i64 n, .string x] 48)) 0 0 0 0 ⟨#[]⟩ 48 (w.heap.size + 1) (by simp))
 have HB := Lib.hid (Onl.of_below b hb0)
 have HL : Hid (b < w.heap.size) := hlt
 clear h hn he hlt hb0
 go_enter Tryz.func120, Tryz.ntmps120
 go_wp2_with (go_at_call 57; refine cN.mono ?_; rintro e w1 ⟨rfl, hR, hO⟩; replace OB := Lib.hid (OB.out.onl hO (by have := HL.out; omega)); replace HB := Lib.hid (HB.out.trans hO); have R := Lib.hid hR; clear hO hR; obtain ⟨z0, z1, zf⟩ := R.out)
 have OB2 := Lib.hid (OB.out.below ((Below.refl _ _).alloc (Nat.le_refl _) (.cells #[.int .i64 0, .int .i64 0, .int .i64 0, .int .i64 0, .string ⟨#[]⟩] 48)))
 have OZ := Lib.hid (ownp_alloc w1 0 0 0 0 ⟨#[]⟩ 48 w1.heap.size rfl)
 have R2 := Lib.hid (R.out.alloc (.cells #[.int .i64 0, .int .i64 0, .int .i64 0, .int .i64 0, .string ⟨#[]⟩] 48))
 have HB2 := Lib.hid (HB.out.alloc (.cells #[.int .i64 0, .int .i64 0, .int .i64 0, .int .i64 0, .string ⟨#[]⟩] 48))
 have hne2 : Hid (w.heap.size + 1 < w1.heap.size) := OB.out.lt
 clear z0 z1 zf R OB HB
 generalize w1.alloc (.cells #[.int .i64 0, .int .i64 0, .int .i64 0, .int .i64 0, .string ⟨#[]⟩] 48) = V at *
 obtain ⟨z0, z1, zf⟩ := R2.out
 obtain ⟨⟨q0, q1, q2, q3, q4⟩, qf⟩ := OZ.out
 obtain ⟨⟨u0, u1, u2, u3, u4⟩, uf⟩ := OB2.out
 have hd1 : b ≠ w.heap.size + 1 := by have := HL.out; omega
 have hd2 : w.heap.size + 1 ≠ b := by have := HL.out; omega
 go_region
 go_wp2_with fail
 have hs := (OB2.out.set 0 0 0 0 ⟨#[]⟩).1
 have hbs := bel_put5 (B := w.heap.size) (Below.refl _ V) (b := w.heap.size + 1) (by omega) 0 0 0 0 ⟨#[]⟩
 simp only [put5] at hs hbs
 generalize (((((V.setCell ⟨(w.heap.size + 1), 0, none⟩ (.int .i64 0)).setCell ⟨(w.heap.size + 1), 1, none⟩ (.int .i64 0)).setCell ⟨(w.heap.size + 1), 2, none⟩ (.int .i64 0)).setCell ⟨(w.heap.size + 1), 3, none⟩ (.int .i64 0)).setCell ⟨(w.heap.size + 1), 4, none⟩ (.string ⟨#[]⟩)) = W5 at *
 obtain ⟨s0_, s1_, s2_, s3_, s4_⟩ := hs
 exact bodyPost_ret (v := .tuple #[.agg #[.int .i64 0, .int .i64 0, .int .i64 0, .int .i64 0, .string ⟨#[]⟩], .int .i64 0, .int .i64 e1]) (by simp [results, Tryz.results120, go_sem, s0_, s1_, s2_, s3_, s4_]) rfl ⟨rfl, HB2.out.then hbs.drew (Nat.le_refl _)⟩
set_option maxHeartbeats 16000000 in
theorem pdone_ok (b : Nat) (s d t n : Int) (x : ByteArray) (at' : Int) (w : World) (h : Rd w b at' 0) :
  Calls Tryz.prog 120 #[.pointer (some ⟨b, 0, none⟩), .agg #[.int .i64 s, .int .i64 d, .int .i64 t, .int .i64 n, .string x], .bool true] w fun e w' => e = .returned (.tuple #[.agg #[.int .i64 s, .int .i64 d, .int .i64 t, .int .i64 n, .string x], .int .i64 at', .int .i64 0]) ∧ Onl b w w' := by
 have hlt := World.block_lt_of_cell? w _ h.1
 have hb0 : Below w.heap.size w ((w.alloc (.cells #[.int .i64 s, .int .i64 d, .int .i64 t, .int .i64 n, .string x] 48)).alloc (.cells #[.int .i64 0, .int .i64 0, .int .i64 0, .int .i64 0, .string ⟨#[]⟩] 48)) := ((Below.refl _ w).alloc (Nat.le_refl _) _).alloc (by simp) _
 have cN := need_any b true at' 0 ((w.alloc (.cells #[.int .i64 s, .int .i64 d, .int .i64 t, .int .i64 n, .string x] 48)).alloc (.cells #[.int .i64 0, .int .i64 0, .int .i64 0, .int .i64 0, .string ⟨#[]⟩] 48)) (h.below hb0)
 rw [show needE 0 true = 0 from rfl] at cN
 have OA := Lib.hid ((ownp_alloc w s d t n x 48 w.heap.size rfl).below ((Below.refl _ _).alloc (Nat.le_refl _) (.cells #[.int .i64 0, .int .i64 0, .int .i64 0, .int .i64 0, .string ⟨#[]⟩] 48)))
 have OB := Lib.hid (ownp_alloc (w.alloc (.cells #[.int .i64 s, .int .i64 d, .int .i64 t, .int .i64 n, .string x] 48)) 0 0 0 0 ⟨#[]⟩ 48 (w.heap.size + 1) (by simp))
 have HB := Lib.hid (Onl.of_below b hb0)
 have HL : Hid (b < w.heap.size) := hlt
 clear h hlt hb0
 go_enter Tryz.func120, Tryz.ntmps120
 go_wp2_with (go_at_call 57; refine cN.mono ?_; rintro e w1 ⟨rfl, hR, hO⟩; replace OB := Lib.hid (OB.out.onl hO (by have := HL.out; omega)); replace OA := Lib.hid (OA.out.onl hO (by have := HL.out; omega)); replace HB := Lib.hid (HB.out.trans hO); have R := Lib.hid hR; clear hO hR; obtain ⟨z0, z1, zf⟩ := R.out)
 obtain ⟨⟨q0, q1, q2, q3, q4⟩, qf⟩ := OA.out
 obtain ⟨⟨u0, u1, u2, u3, u4⟩, uf⟩ := OB.out
 have hd1 : b ≠ w.heap.size + 1 := by have := HL.out; omega
 have hd2 : w.heap.size + 1 ≠ b := by have := HL.out; omega
 go_region
 go_wp2_with fail
 have hs := (OB.out.set s d t n x).1
 have hbs := bel_put5 (B := w.heap.size) (Below.refl _ w1) (b := w.heap.size + 1) (by omega) s d t n x
 simp only [put5] at hs hbs
 generalize (((((w1.setCell ⟨(w.heap.size + 1), 0, none⟩ (.int .i64 s)).setCell ⟨(w.heap.size + 1), 1, none⟩ (.int .i64 d)).setCell ⟨(w.heap.size + 1), 2, none⟩ (.int .i64 t)).setCell ⟨(w.heap.size + 1), 3, none⟩ (.int .i64 n)).setCell ⟨(w.heap.size + 1), 4, none⟩ (.string x)) = W5 at *
 obtain ⟨s0_, s1_, s2_, s3_, s4_⟩ := hs
 exact bodyPost_ret (v := .tuple #[.agg #[.int .i64 s, .int .i64 d, .int .i64 t, .int .i64 n, .string x], .int .i64 at', .int .i64 0]) (by simp [results, Tryz.results120, go_sem, s0_, s1_, s2_, s3_, s4_]) rfl ⟨rfl, HB.out.then hbs.drew (Nat.le_refl _)⟩
def textS (xs : List Int) (k n : Int) : ByteArray × Int × Int := if (xs.length : Int) - k < n then (⟨#[]⟩, 0, 6) else (sub xs k n, k + n, 0)
def nextS (xs : List Int) (n : Int) (s : Int × Int) : ByteArray × Int × Int := if s.2 = 0 then textS xs s.1 n else (⟨#[]⟩, s)
set_option maxHeartbeats 8000000 in
theorem text_any (v : Value) (xs : List Int) (k n : Int) (w : World) (hv : Bs w v xs) (hk : 1 ≤ k ∧ k ≤ xs.length) (hn : 0 ≤ n ∧ n ≤ 65535) :
  Calls Tryz.prog 119 #[v, .int .i64 k, .int .i64 n] w fun e w' => e = .returned (.tuple #[.string (textS xs k n).1, .int .i64 (textS xs k n).2.1, .int .i64 (textS xs k n).2.2]) ∧ w = w' := by
 obtain ⟨a, l, c, rfl⟩ := Bs_form hv
 obtain ⟨rfl, hlc⟩ := Bs_len2 hv
 have hsw : IntKind.i64.wrap ((xs.length : Int) - k) = (xs.length : Int) - k := by rw [IntKind.wrap_i64]; have := hv.2.1; omega
 by_cases k2 : (xs.length : Int) - k < n
 ·have k2' : decide ((xs.length : Int) - k < n) = true := decide_eq_true k2
  rw [show textS xs k n = (⟨#[]⟩, 0, 6) from if_pos k2]
  clear hv hk hn hlc
  go_enter Tryz.func119, Tryz.ntmps119
  go_wp2_with fail
  go_ret3
  exact ⟨rfl, rfl⟩
 ·have k2' : decide ((xs.length : Int) - k < n) = false := decide_eq_false k2
  rw [show textS xs k n = (sub xs k n, k + n, 0) from if_neg k2]
  obtain ⟨p, rfl⟩ : ∃ p : Nat, k = p := ⟨k.toNat, by omega⟩
  obtain ⟨m, rfl⟩ : ∃ m : Nat, n = m := ⟨n.toNat, by omega⟩
  have hpk : p + m ≤ xs.length := by omega
  have h7 : 1 ≤ xs.length := by omega
  obtain ⟨b, o, rfl, hcap⟩ : ∃ b o, a = some ⟨b, o, none⟩ ∧ xs.length ≤ c := by
   obtain ⟨_, _, ⟨a', c', h1, _, rfl⟩ | ⟨b, o, c', h1, h2, _⟩⟩ := hv
   ·simp at h7
   ·simp only [Value.slice.injEq, true_and] at h1; exact ⟨b, o, h1.1, by omega⟩
  have HW9 := Lib.hid (bs_win hv p m hpk hcap)
  obtain ⟨X, hX⟩ : ∃ X, strOfNums ((xs.drop p).take m) = X := ⟨_, rfl⟩
  have hsub : sub xs p m = X := by rw [← hX]; rfl
  rw [hsub]
  obtain ⟨A9, hA9⟩ : ∃ A9, (if c = p then (some ⟨b, o, none⟩ : Option Addr) else some ⟨b, o + p, none⟩) = A9 := ⟨_, rfl⟩
  rw [hA9] at HW9
  have hcv : (convert 26 9 (.slice A9 m (c - p))).run Tryz.prog w = .ok (.string X) w := by rw [← hX]; exact Bs_conv HW9.out
  have hwk : IntKind.i64.wrap ((p : Int) + (m : Int)) = (p : Int) + (m : Int) := by rw [IntKind.wrap_i64]; have := hv.2.1; omega
  have hs0 : (0 : Int) ≤ (p : Int) := Int.natCast_nonneg _
  have hs1 : (p : Int) ≤ (p : Int) + (m : Int) := by omega
  have hs2 : (p : Int) + (m : Int) ≤ (c : Int) := by omega
  have hs3 : ((p : Int)).toNat = p := Int.toNat_natCast p
  have hs4 : ((p : Int) + (m : Int)).toNat = p + m := by omega
  have hs5 : p + m - p = m := by omega
  clear hX hsub HW9 h7 hpk hv hk hn hlc
  go_enter Tryz.func119, Tryz.ntmps119
  go_wp2_with fail
  go_ret3
  exact ⟨rfl, rfl⟩
theorem pclos_any (g : Nat) (v : Value) (xs : List Int) (k n : Int) (w : World) (hn : w.cell? ⟨g, 0, none⟩ = some (.int .i64 n)) (hv : Bs w v xs) (hk : 1 ≤ k ∧ k ≤ xs.length) (hn' : 0 ≤ n ∧ n ≤ 65535) :
  Calls Tryz.prog 118 #[v, .int .i64 k, .pointer (some ⟨g, 0, none⟩)] w fun e w' => e = .returned (.tuple #[.string (textS xs k n).1, .int .i64 (textS xs k n).2.1, .int .i64 (textS xs k n).2.2]) ∧ w = w' := by
 have cG := text_any v xs k n w hv hk hn'
 generalize textS xs k n = r at *
 obtain ⟨r1, r2, r3⟩ := r
 simp only at *
 obtain ⟨a, l, c, rfl⟩ := Bs_form hv
 clear hv hk hn'
 go_enter Tryz.func118, Tryz.ntmps118
 go_wp2_with (go_at_call 119; refine cG.mono ?_; rintro e w' ⟨rfl, hw⟩; subst hw)
 go_ret3
 exact ⟨rfl, rfl⟩
set_option maxHeartbeats 4000000 in
theorem nexts_any (b : Nat) (v : Value) (xs : List Int) (k e0 : Int) (g : Nat) (n : Int) (w : World) (h : Rd w b k e0) (hn : w.cell? ⟨g, 0, none⟩ = some (.int .i64 n)) (hv : Bs w v xs) (hk : e0 = 0 → (1 ≤ k ∧ k ≤ xs.length) ∧ 0 ≤ n ∧ n ≤ 65535) :
  Calls Tryz.prog 117 #[.pointer (some ⟨b, 0, none⟩), v, .func (Fn.func 118) #[] #[.pointer (some ⟨g, 0, none⟩)]] w fun e w' => e = .returned (.string (nextS xs n (k, e0)).1) ∧ Rd w' b (nextS xs n (k, e0)).2.1 (nextS xs n (k, e0)).2.2 ∧ Onl b w w' := by
 by_cases he : e0 = 0
 ·subst he
  have cG := pclos_any g v xs k n w hn hv (hk rfl).1 (hk rfl).2
  rw [show nextS xs n (k, 0) = textS xs k n from if_pos rfl]
  generalize textS xs k n = r at *
  obtain ⟨r1, r2, r3⟩ := r
  simp only at *
  obtain ⟨a, l, c, rfl⟩ := Bs_form hv
  have R := Lib.hid h
  obtain ⟨h0, h1, hf⟩ := h
  clear hv hk
  go_enter Tryz.func117, Tryz.ntmps117
  go_wp2_with (go_at_call 118; refine cG.mono ?_; rintro e w' ⟨rfl, hw⟩; subst hw)
  go_ret
  exact ⟨rfl, R.out.set _ _, ((Onl.refl _ _).set 0 _).set 1 _⟩
 ·have hne : (e0 == 0) = false := by simpa using he
  rw [show nextS xs n (k, e0) = (⟨#[]⟩, (k, e0)) from if_neg he]
  obtain ⟨a, l, c, rfl⟩ := Bs_form hv
  have R := Lib.hid h
  obtain ⟨h0, h1, hf⟩ := h
  clear hv hk he
  go_enter Tryz.func117, Tryz.ntmps117
  go_wp2_with fail
  go_ret
  exact ⟨rfl, R.out, Onl.refl _ _⟩
end Go.Proofs.YtjghebcnmoojmaaGreat
