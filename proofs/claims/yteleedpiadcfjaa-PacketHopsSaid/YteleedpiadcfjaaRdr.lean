/- The reader's contracts: a place and an error that lie in memory, numbers read one behind the other. No conditions. -/
import Derived.Test.YteleedpiadcfjaaFcl
import Derived.Test.YteleedpiadcfjaaByt
namespace Go.Proofs.Yteleedpiadcfjaa
set_option maxRecDepth 100000
open Go.RowKit

/-- The reader: its place, its error. -/
def Rd (w : World) (b : Nat) (at' e : Int) : Prop :=
  w.cell? ⟨b, 0, none⟩ = some (.int .i64 at') ∧ w.cell? ⟨b, 1, none⟩ = some (.int .i64 e) ∧ ∀ k, w.frozen? ⟨b, k, none⟩ = false

/-- Of the blocks that there were none but one has turned. -/
structure Onl (b : Nat) (w w' : World) : Prop where
  os : w'.os = w.os
  tape : w'.tape = w.tape
  output : w'.output = w.output
  size : w.heap.size ≤ w'.heap.size
  block : ∀ k, k < w.heap.size → k ≠ b → w'.heap[k]? = w.heap[k]?
theorem Onl.refl (b : Nat) (w : World) : Onl b w w := ⟨rfl, rfl, rfl, Nat.le_refl _, fun _ _ _ => rfl⟩
theorem Onl.trans {b : Nat} {w1 w2 w3 : World} (h : Onl b w1 w2) (h' : Onl b w2 w3) : Onl b w1 w3 :=
  ⟨h'.os.trans h.os, h'.tape.trans h.tape, h'.output.trans h.output, Nat.le_trans h.size h'.size, fun k hk hb => (h'.block k (Nat.lt_of_lt_of_le hk h.size) hb).trans (h.block k hk hb)⟩
theorem Onl.of_below (b : Nat) {w w' : World} (h : Below w.heap.size w w') : Onl b w w' := ⟨h.os, h.tape, h.output, h.size, fun k hk _ => h.block k hk⟩
theorem Onl.below {b B : Nat} {w w' : World} (h : Onl b w w') (hB : B ≤ b) (hw : B ≤ w.heap.size) : Below B w w' :=
  ⟨h.os, h.tape, h.output, h.size, fun k hk => h.block k (Nat.lt_of_lt_of_le hk hw) (by omega)⟩
theorem setCell_size (w : World) (p : Addr) (u : Value) : (w.setCell p u).heap.size = w.heap.size := by simp
theorem Onl.set {b : Nat} {w w' : World} (h : Onl b w w') (j : Nat) (u : Value) : Onl b w (w'.setCell ⟨b, j, none⟩ u) := by
  have hb : Below b w' (w'.setCell ⟨b, j, none⟩ u) := (Below.refl b w').setCell (Nat.le_refl _) u
  exact ⟨hb.os.trans h.os, hb.tape.trans h.tape, hb.output.trans h.output, Nat.le_trans h.size (Nat.le_of_eq (setCell_size _ _ _).symm), fun k hk hkb => (Below.heap_setCell w' ⟨b, j, none⟩ u k hkb).trans (h.block k hk hkb)⟩
theorem Onl.alloc {b : Nat} {w w' : World} (h : Onl b w w') (O : Obj) : Onl b w (w'.alloc O) := h.trans (Onl.of_below b ((Below.refl _ _).alloc (Nat.le_refl _) O))
theorem Onl.cell {b : Nat} {w w' : World} (h : Onl b w w') {p : Addr} (hp : p.block ≠ b) (hl : p.block < w.heap.size) : w'.cell? p = w.cell? p := World.cell?_of_block (w := w) (h.block p.block hl hp)
theorem Onl.frozen {b : Nat} {w w' : World} (h : Onl b w w') {p : Addr} (hp : p.block ≠ b) (hl : p.block < w.heap.size) : w'.frozen? p = w.frozen? p := World.frozen?_of_block (w := w) (h.block p.block hl hp)
theorem Rd.onl {w w' : World} {b g : Nat} {x y : Int} (h : Rd w g x y) (ho : Onl b w w') (hg : g ≠ b) : Rd w' g x y := by
  have hl := World.block_lt_of_cell? w _ h.1
  exact ⟨(ho.cell (p := ⟨g, 0, none⟩) hg hl).trans h.1, (ho.cell (p := ⟨g, 1, none⟩) hg hl).trans h.2.1, fun k => (ho.frozen (p := ⟨g, k, none⟩) hg hl).trans (h.2.2 k)⟩
theorem Rd.below {w w' : World} {g : Nat} {x y : Int} (h : Rd w g x y) (hb : Below w.heap.size w w') : Rd w' g x y := by
  have hl := World.block_lt_of_cell? w _ h.1
  exact ⟨(hb.cell (p := ⟨g, 0, none⟩) hl).trans h.1, (hb.cell (p := ⟨g, 1, none⟩) hl).trans h.2.1, fun k => (hb.frozen (p := ⟨g, k, none⟩) hl).trans (h.2.2 k)⟩
theorem Rd.set {w : World} {b : Nat} {x y : Int} (h : Rd w b x y) (x' y' : Int) : Rd ((w.setCell ⟨b, 0, none⟩ (.int .i64 x')).setCell ⟨b, 1, none⟩ (.int .i64 y')) b x' y' := by
  obtain ⟨h0, h1, hf⟩ := h
  refine ⟨?_, ?_, fun k => ?_⟩ <;> simp [go_sem, h0, h1, hf]
theorem Rd.sete {w : World} {b : Nat} {x y : Int} (h : Rd w b x y) (y' : Int) : Rd (w.setCell ⟨b, 1, none⟩ (.int .i64 y')) b x y' := by
  obtain ⟨h0, h1, hf⟩ := h
  refine ⟨?_, ?_, fun k => ?_⟩ <;> simp [go_sem, h0, h1, hf]
theorem Rd.alloc {w : World} {b : Nat} {x y : Int} (h : Rd w b x y) (O : Obj) : Rd (w.alloc O) b x y := h.below ((Below.refl _ _).alloc (Nat.le_refl _) O)

def numS (xs : List Int) (n : Int) (s : Int × Int) : Int × Int × Int := if s.2 = 0 then getS xs s.1 n else (0, s)
def shortS (xs : List Int) (s : Int × Int) : Int × Int × Int := if s.2 = 0 then getS xs s.1 1 else (0, s)
def longS (xs : List Int) (s : Int × Int) : Int × Int × Int := if s.2 = 0 then getIntS xs s.1 else (0, s)

theorem new_any (k : Int) (w : World) :
    Calls Try.prog 21 #[.int .i64 k] w fun e w' => e = .returned (.pointer (some ⟨w.heap.size, 0, none⟩)) ∧ w' = w.alloc (.cells #[.int .i64 k, .int .i64 0] 60) := by
  go_enter Try.func21, Try.ntmps21
  go_wp2_with fail
  go_ret
  exact ⟨rfl, rfl⟩
theorem rd_alloc (w : World) (k : Int) (g : Nat) (hg : g = w.heap.size) : Rd (w.alloc (.cells #[.int .i64 k, .int .i64 0] 60)) g k 0 := by
  subst hg
  refine ⟨?_, ?_, fun k => ?_⟩ <;> simp

theorem clos_any (g : Nat) (v : Value) (xs : List Int) (k n : Int) (w : World) (hn : w.cell? ⟨g, 0, none⟩ = some (.int .i64 n)) (hv : Bs w v xs) :
    Calls Try.prog 31 #[v, .int .i64 k, .pointer (some ⟨g, 0, none⟩)] w fun e w' => e = .returned (tri (getS xs k n)) ∧ w = w' := by
  have cG := get_any v xs k n w hv
  generalize getS xs k n = r at *
  obtain ⟨r1, r2, r3⟩ := r
  simp only [tri] at *
  obtain ⟨a, l, c, rfl⟩ := Bs_form hv
  clear hv
  go_enter Try.func31, Try.ntmps31
  go_wp2_with (go_at_call 32; refine cG.mono ?_; rintro e w' ⟨rfl, hw⟩; subst hw)
  go_ret3
  exact ⟨rfl, rfl⟩

set_option maxHeartbeats 4000000 in
theorem nget_ok (b : Nat) (v : Value) (xs : List Int) (k : Int) (g : Nat) (n : Int) (w : World) (h : Rd w b k 0) (hn : w.cell? ⟨g, 0, none⟩ = some (.int .i64 n)) (hv : Bs w v xs) :
    Calls Try.prog 30 #[.pointer (some ⟨b, 0, none⟩), v, .func (Fn.func 31) #[] #[.pointer (some ⟨g, 0, none⟩)]] w fun e w' => e = .returned (.int .i64 (getS xs k n).1) ∧ Rd w' b (getS xs k n).2.1 (getS xs k n).2.2 ∧ Onl b w w' := by
  have cG := clos_any g v xs k n w hn hv
  generalize getS xs k n = r at *
  obtain ⟨r1, r2, r3⟩ := r
  simp only [tri] at *
  obtain ⟨a, l, c, rfl⟩ := Bs_form hv
  have R := Lib.hid h
  obtain ⟨h0, h1, hf⟩ := h
  clear hv
  go_enter Try.func30, Try.ntmps30
  go_wp2_with (go_at_call 31; refine cG.mono ?_; rintro e w' ⟨rfl, hw⟩; subst hw)
  go_ret
  exact ⟨rfl, R.out.set _ _, ((Onl.refl _ _).set 0 _).set 1 _⟩

set_option maxHeartbeats 4000000 in
theorem next_no (b : Nat) (a : Option Addr) (l c : Nat) (F : Value) (k e0 : Int) (w : World) (h : Rd w b k e0) (he : e0 ≠ 0) :
    Calls Try.prog 30 #[.pointer (some ⟨b, 0, none⟩), .slice a l c, F] w fun e w' => e = .returned (.int .i64 0) ∧ w = w' := by
  have hne : (e0 == 0) = false := by simpa using he
  obtain ⟨h0, h1, hf⟩ := h
  clear he
  go_enter Try.func30, Try.ntmps30
  go_wp2_with fail
  go_ret
  exact ⟨rfl, rfl⟩

set_option maxHeartbeats 4000000 in
theorem number_any (b : Nat) (v : Value) (xs : List Int) (n k e0 : Int) (w : World) (h : Rd w b k e0) (hv : Bs w v xs) :
    Calls Try.prog 22 #[.pointer (some ⟨b, 0, none⟩), v, .int .i64 n] w fun e w' => e = .returned (.int .i64 (numS xs n (k, e0)).1) ∧ Rd w' b (numS xs n (k, e0)).2.1 (numS xs n (k, e0)).2.2 ∧ Onl b w w' := by
  have hb : Below w.heap.size w (w.alloc (.cells #[.int .i64 n] 3)) := (Below.refl _ w).alloc (Nat.le_refl _) _
  by_cases he : e0 = 0
  · subst he
    have cG := nget_ok b v xs k w.heap.size n (w.alloc (.cells #[.int .i64 n] 3)) (h.alloc _) (by simp) (Bs_below hv hb)
    have hs : numS xs n (k, 0) = getS xs k n := by simp [numS]
    rw [hs]
    generalize getS xs k n = r at *
    obtain ⟨r1, r2, r3⟩ := r
    obtain ⟨a, l, c, rfl⟩ := Bs_form hv
    have HB := Lib.hid hb
    clear hv h hs hb
    go_enter Try.func22, Try.ntmps22
    go_wp2_with (go_at_call 30; refine cG.mono ?_; rintro e w' ⟨rfl, hR, hO⟩)
    go_ret
    exact ⟨rfl, hR, (Onl.of_below b HB.out).trans hO⟩
  · obtain ⟨a, l, c, rfl⟩ := Bs_form hv
    have cG := fun F => next_no b a l c F k e0 (w.alloc (.cells #[.int .i64 n] 3)) (h.alloc _) he
    have hs : numS xs n (k, e0) = (0, (k, e0)) := by simp [numS, he]
    rw [hs]
    have HB := Lib.hid hb
    have R := Lib.hid (h.alloc (.cells #[.int .i64 n] 3))
    clear hv h hs hb he
    go_enter Try.func22, Try.ntmps22
    go_wp2_with (go_at_call 30; refine (cG _).mono ?_; rintro e w' ⟨rfl, hw⟩; subst hw)
    go_ret
    exact ⟨rfl, R.out, Onl.of_below b HB.out⟩

/-- The error behind a question. -/
def needE (e : Int) (ok : Bool) : Int := if e = 0 ∧ ok = false then 4 else e
set_option maxHeartbeats 4000000 in
theorem need_any (b : Nat) (ok : Bool) (k e0 : Int) (w : World) (h : Rd w b k e0) :
    Calls Try.prog 23 #[.pointer (some ⟨b, 0, none⟩), .bool ok] w fun e w' => e = .returned (.tuple #[]) ∧ Rd w' b k (needE e0 ok) ∧ Onl b w w' := by
  have R := Lib.hid h
  obtain ⟨h0, h1, hf⟩ := h
  by_cases he : e0 = 0
  · subst he
    cases ok with
    | true =>
      go_enter Try.func23, Try.ntmps23
      go_wp2_with fail
      go_end0
      exact ⟨rfl, R.out, Onl.refl b _⟩
    | false =>
      go_enter Try.func23, Try.ntmps23
      go_wp2_with fail
      go_end0
      exact ⟨rfl, R.out.sete 4, (Onl.refl b _).set 1 _⟩
  · have hne : (e0 == 0) = false := by simpa using he
    have hn : needE e0 ok = e0 := by simp [needE, he]
    rw [hn]
    clear he hn
    go_enter Try.func23, Try.ntmps23
    go_wp2_with fail
    go_end0
    exact ⟨rfl, R.out, Onl.refl b _⟩
#print axioms need_any
end Go.Proofs.Yteleedpiadcfjaa
