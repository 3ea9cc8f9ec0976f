/- What the reader answers at its end, of a beacon. No conditions. -/
import Derived.Test.YtaflgabjpcfgpaaRdr
namespace Go.Proofs.Ytaflgabjpcfgpaa
set_option maxRecDepth 100000
open Go.RowKit

theorem Onl.then {b B : Nat} {w w1 w2 : World} (h : Onl b w w1) (h' : Below B w1 w2) (hB : w.heap.size ≤ B) : Onl b w w2 :=
  ⟨h'.os.trans h.os, h'.tape.trans h.tape, h'.output.trans h.output, Nat.le_trans h.size h'.size, fun k hk hb => (h'.block k (Nat.lt_of_lt_of_le hk hB)).trans (h.block k hk hb)⟩

/-- A beacon lies there, and may be written. -/
def Own2 (w : World) (b : Nat) (M : Int) (v : Value) : Prop := (w.cell? ⟨b, 0, none⟩ = some (.int .i64 M) ∧ w.cell? ⟨b, 1, none⟩ = some v) ∧ ∀ j, w.frozen? ⟨b, j, none⟩ = false
theorem own2_alloc (w : World) (M : Int) (v : Value) (T : TypeId) (g : Nat) (hg : g = w.heap.size) : Own2 (w.alloc (.cells #[.int .i64 M, v] T)) g M v := by
  subst hg
  exact ⟨⟨by simp, by simp⟩, fun j => by simp⟩
theorem Own2.lt {w : World} {b : Nat} {M : Int} {v : Value} (h : Own2 w b M v) : b < w.heap.size := World.block_lt_of_cell? w _ h.1.1
theorem Own2.below {w w' : World} {b : Nat} {M : Int} {v : Value} (h : Own2 w b M v) (hb : Below w.heap.size w w') : Own2 w' b M v :=
  ⟨⟨(hb.cell (p := ⟨b, 0, none⟩) h.lt).trans h.1.1, (hb.cell (p := ⟨b, 1, none⟩) h.lt).trans h.1.2⟩, fun j => (hb.frozen (p := ⟨b, j, none⟩) h.lt).trans (h.2 j)⟩
theorem Own2.onl {w w' : World} {b g : Nat} {M : Int} {v : Value} (h : Own2 w g M v) (ho : Onl b w w') (hg : g ≠ b) : Own2 w' g M v :=
  ⟨⟨(ho.cell (p := ⟨g, 0, none⟩) hg h.lt).trans h.1.1, (ho.cell (p := ⟨g, 1, none⟩) hg h.lt).trans h.1.2⟩, fun j => (ho.frozen (p := ⟨g, j, none⟩) hg h.lt).trans (h.2 j)⟩
theorem Own2.set {w : World} {b : Nat} {M : Int} {v : Value} (h : Own2 w b M v) (M' : Int) (v' : Value) : Own2 ((w.setCell ⟨b, 0, none⟩ (.int .i64 M')).setCell ⟨b, 1, none⟩ (v')) b M' v' := by
  obtain ⟨⟨h0, h1⟩, hf⟩ := h
  refine ⟨⟨?_, ?_⟩, fun j => ?_⟩ <;> simp [go_sem, hf, h0, h1]
theorem Own2.set1 {w : World} {b : Nat} {M : Int} {v : Value} (h : Own2 w b M v) (v' : Value) : Own2 (w.setCell ⟨b, 1, none⟩ v') b M v' := by
  obtain ⟨⟨h0, h1⟩, hf⟩ := h
  refine ⟨⟨?_, ?_⟩, fun j => ?_⟩ <;> simp [go_sem, hf, h0, h1]
theorem bel_set2 {B : Nat} {u w : World} {b : Nat} (h : Below B u w) (hB : B ≤ b) (M : Int) (v : Value) : Below B u ((w.setCell ⟨b, 0, none⟩ (.int .i64 M)).setCell ⟨b, 1, none⟩ (v)) := (h.setCell (p := ⟨b, 0, none⟩) hB _).setCell (p := ⟨b, 1, none⟩) hB _

set_option maxHeartbeats 16000000 in
theorem bdone_err (b : Nat) (M : Int) (a : Option Addr) (l c : Nat) (ok : Bool) (at' e0 e1 : Int) (w : World) (h : Rd w b at' e0) (hn : needE e0 ok = e1) (he : e1 ≠ 0) :
    Calls Try.prog 33 #[.pointer (some ⟨b, 0, none⟩), .agg #[.int .i64 M, .slice a l c], .bool ok] w fun e w' => e = .returned (.tuple #[.agg #[.int .i64 0, .slice none 0 0], .int .i64 0, .int .i64 e1]) ∧ Onl b w w' := by
  have hne : (e1 == 0) = false := by simpa using he
  have hlt := World.block_lt_of_cell? w _ h.1
  have hb0 : Below w.heap.size w ((w.alloc (.cells #[.int .i64 M, .slice a l c] 24)).alloc (.cells #[.int .i64 0, .slice none 0 0] 24)) := ((Below.refl _ w).alloc (Nat.le_refl _) _).alloc (by simp) _
  have cN := need_any b ok at' e0 ((w.alloc (.cells #[.int .i64 M, .slice a l c] 24)).alloc (.cells #[.int .i64 0, .slice none 0 0] 24)) (h.below hb0)
  rw [hn] at cN
  have OB := Lib.hid (own2_alloc (w.alloc (.cells #[.int .i64 M, .slice a l c] 24)) 0 (.slice none 0 0) 24 (w.heap.size + 1) (by simp))
  have HB := Lib.hid (Onl.of_below b hb0)
  have HL : Hid (b < w.heap.size) := hlt
  clear h hn he hlt hb0
  go_enter Try.func33, Try.ntmps33
  go_wp2_with (go_at_call 44; refine cN.mono ?_; rintro e w1 ⟨rfl, hR, hO⟩; replace OB := Lib.hid (OB.out.onl hO (by have := HL.out; omega)); replace HB := Lib.hid (HB.out.trans hO); have R := Lib.hid hR; clear hO hR; obtain ⟨z0, z1, zf⟩ := R.out)
  have OB2 := Lib.hid (OB.out.below ((Below.refl _ _).alloc (Nat.le_refl _) (.cells #[.int .i64 0, .slice none 0 0] 24)))
  have OZ := Lib.hid (own2_alloc w1 0 (.slice none 0 0) 24 w1.heap.size rfl)
  have R2 := Lib.hid (R.out.alloc (.cells #[.int .i64 0, .slice none 0 0] 24))
  have HB2 := Lib.hid (HB.out.alloc (.cells #[.int .i64 0, .slice none 0 0] 24))
  have hne2 : Hid (w.heap.size + 1 < w1.heap.size) := OB.out.lt
  clear z0 z1 zf R OB HB
  generalize w1.alloc (.cells #[.int .i64 0, .slice none 0 0] 24) = V at *
  obtain ⟨z0, z1, zf⟩ := R2.out
  obtain ⟨⟨q0, q1⟩, qf⟩ := OZ.out
  obtain ⟨⟨u0, u1⟩, uf⟩ := OB2.out
  have hd1 : b ≠ w.heap.size + 1 := by have := HL.out; omega
  have hd2 : w.heap.size + 1 ≠ b := by have := HL.out; omega
  go_region
  go_wp2_with fail
  have hs := (OB2.out.set 0 (.slice none 0 0)).1
  have hbs := bel_set2 (B := w.heap.size) (Below.refl _ V) (b := w.heap.size + 1) (by omega) 0 (.slice none 0 0)
  generalize ((V.setCell ⟨(w.heap.size + 1), 0, none⟩ (.int .i64 0)).setCell ⟨(w.heap.size + 1), 1, none⟩ (.slice none 0 0)) = W5 at *
  obtain ⟨s0_, s1_⟩ := hs
  exact bodyPost_ret (v := .tuple #[.agg #[.int .i64 0, .slice none 0 0], .int .i64 0, .int .i64 e1]) (by simp [results, Try.results33, go_sem, s0_, s1_]) rfl ⟨rfl, HB2.out.then hbs.drew (Nat.le_refl _)⟩

set_option maxHeartbeats 16000000 in
theorem bdone_ok (b : Nat) (M : Int) (a : Option Addr) (l c : Nat) (at' : Int) (w : World) (h : Rd w b at' 0) :
    Calls Try.prog 33 #[.pointer (some ⟨b, 0, none⟩), .agg #[.int .i64 M, .slice a l c], .bool true] w fun e w' => e = .returned (.tuple #[.agg #[.int .i64 M, .slice a l c], .int .i64 at', .int .i64 0]) ∧ Onl b w w' := by
  have hlt := World.block_lt_of_cell? w _ h.1
  have hb0 : Below w.heap.size w ((w.alloc (.cells #[.int .i64 M, .slice a l c] 24)).alloc (.cells #[.int .i64 0, .slice none 0 0] 24)) := ((Below.refl _ w).alloc (Nat.le_refl _) _).alloc (by simp) _
  have cN := need_any b true at' 0 ((w.alloc (.cells #[.int .i64 M, .slice a l c] 24)).alloc (.cells #[.int .i64 0, .slice none 0 0] 24)) (h.below hb0)
  rw [show needE 0 true = 0 from rfl] at cN
  have OA := Lib.hid ((own2_alloc w M (.slice a l c) 24 w.heap.size rfl).below ((Below.refl _ _).alloc (Nat.le_refl _) (.cells #[.int .i64 0, .slice none 0 0] 24)))
  have OB := Lib.hid (own2_alloc (w.alloc (.cells #[.int .i64 M, .slice a l c] 24)) 0 (.slice none 0 0) 24 (w.heap.size + 1) (by simp))
  have HB := Lib.hid (Onl.of_below b hb0)
  have HL : Hid (b < w.heap.size) := hlt
  clear h hlt hb0
  go_enter Try.func33, Try.ntmps33
  go_wp2_with (go_at_call 44; refine cN.mono ?_; rintro e w1 ⟨rfl, hR, hO⟩; replace OB := Lib.hid (OB.out.onl hO (by have := HL.out; omega)); replace OA := Lib.hid (OA.out.onl hO (by have := HL.out; omega)); replace HB := Lib.hid (HB.out.trans hO); have R := Lib.hid hR; clear hO hR; obtain ⟨z0, z1, zf⟩ := R.out)
  obtain ⟨⟨q0, q1⟩, qf⟩ := OA.out
  obtain ⟨⟨u0, u1⟩, uf⟩ := OB.out
  have hd1 : b ≠ w.heap.size + 1 := by have := HL.out; omega
  have hd2 : w.heap.size + 1 ≠ b := by have := HL.out; omega
  go_region
  go_wp2_with fail
  have hs := (OB.out.set M (.slice a l c)).1
  have hbs := bel_set2 (B := w.heap.size) (Below.refl _ w1) (b := w.heap.size + 1) (by omega) M (.slice a l c)
  generalize ((w1.setCell ⟨(w.heap.size + 1), 0, none⟩ (.int .i64 M)).setCell ⟨(w.heap.size + 1), 1, none⟩ (.slice a l c)) = W5 at *
  obtain ⟨s0_, s1_⟩ := hs
  exact bodyPost_ret (v := .tuple #[.agg #[.int .i64 M, .slice a l c], .int .i64 at', .int .i64 0]) (by simp [results, Try.results33, go_sem, s0_, s1_]) rfl ⟨rfl, HB.out.then hbs.drew (Nat.le_refl _)⟩
/-- A beacon, a place, an error: what is told at the end. -/
def bdV (e0 : Int) (ok : Bool) (M : Int) (a : Option Addr) (l c : Nat) (at' : Int) : Value :=
  if needE e0 ok = 0 then .tuple #[.agg #[.int .i64 M, .slice a l c], .int .i64 at', .int .i64 0] else .tuple #[.agg #[.int .i64 0, .slice none 0 0], .int .i64 0, .int .i64 (needE e0 ok)]
theorem bdone_any (b : Nat) (M : Int) (a : Option Addr) (l c : Nat) (ok : Bool) (at' e0 : Int) (w : World) (h : Rd w b at' e0) :
    Calls Try.prog 33 #[.pointer (some ⟨b, 0, none⟩), .agg #[.int .i64 M, .slice a l c], .bool ok] w fun e w' => e = .returned (bdV e0 ok M a l c at') ∧ Onl b w w' := by
  unfold bdV
  by_cases he : needE e0 ok = 0
  · rw [if_pos he]
    have h0 : e0 = 0 := by unfold needE at he; split at he <;> omega
    subst h0
    have h1 : ok = true := by cases ok with
      | true => rfl
      | false => simp [needE] at he
    subst h1
    exact bdone_ok b M a l c at' w h
  · rw [if_neg he]
    exact bdone_err b M a l c ok at' e0 _ w h rfl he
#print axioms bdone_any
end Go.Proofs.Ytaflgabjpcfgpaa
