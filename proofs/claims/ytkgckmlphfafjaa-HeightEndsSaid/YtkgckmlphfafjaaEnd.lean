/- The least and the greatest height of a row: the program's Ends. No conditions but that the row is of a hundred at most. -/
import Derived.Test.YtkgckmlphfafjaaBst
import Derived.RegionTactic
import Derived.BigRegion
namespace Go.Proofs.Ytkgckmlphfafjaa
open Go.RowKit Go.Sort

set_option maxHeartbeats 8000000 in
theorem ends_any (a : Option Addr) (cap : Nat) (hs : List H6) (w : World) (hh : Hs w a hs) (h9 : hs.length ≤ 100) :
    Calls Try.prog 25 #[.slice a hs.length cap] w fun e w' => e = .returned (.tuple #[ag (bv lss hs hs.length), ag (bv mor hs hs.length), .bool (bany lss hs hs.length)]) ∧ Below w.heap.size w w' := by
  have L1 := fun W h => best14 a cap hs W h h9
  have L2 := fun W h => best40 a cap hs W h h9
  have HH := Lib.hid hh
  clear hh
  generalize bv lss hs hs.length = x at *
  generalize bv mor hs hs.length = y at *
  generalize bany lss hs hs.length = p at *
  generalize bany mor hs hs.length = q at *
  obtain ⟨n, t, o, r, d, i⟩ := x
  obtain ⟨n', t', o', r', d', i'⟩ := y
  have M1 : Hid (∀ W, Hs W a hs → Calls Try.prog 39 #[.slice a hs.length cap, .func (.func 14) #[] #[]] W fun e w' => e = .returned (.tuple #[.agg #[.bool n, .int .i64 t, .int .i64 o, .int .i64 r, .int .i64 d, .int .i64 i], .bool p]) ∧ Below W.heap.size W w') := L1
  have M2 : Hid (∀ W, Hs W a hs → Calls Try.prog 39 #[.slice a hs.length cap, .func (.func 40) #[] #[]] W fun e w' => e = .returned (.tuple #[.agg #[.bool n', .int .i64 t', .int .i64 o', .int .i64 r', .int .i64 d', .int .i64 i'], .bool q]) ∧ Below W.heap.size W w') := L2
  clear L1 L2
  have B0 : Below w.heap.size w ((w.alloc (.cells #[.bool false, .int .i64 0, .int .i64 0, .int .i64 0, .int .i64 0, .int .i64 0] 23)).alloc (.cells #[.bool false, .int .i64 0, .int .i64 0, .int .i64 0, .int .i64 0, .int .i64 0] 23)) := ((Below.refl w.heap.size w).alloc (Nat.le_refl _) _).alloc (by simp) _
  have HH2 := Lib.hid (HH.out.below B0)
  go_enter Try.func25, Try.ntmps25
  go_wp2_with fail
  refine (M1.out _ HH2.out).mono ?_
  rintro e w1 ⟨rfl, hb⟩
  have K0 : Hid (Own6 w1 w.heap.size false 0 0 0 0 0) := ((own6_alloc w false 0 0 0 0 0 23 _ rfl).below ((Below.refl _ _).alloc (Nat.le_refl _) _)).below hb
  have K1 : Hid (Own6 w1 (w.heap.size + 1) false 0 0 0 0 0) := (own6_alloc (w.alloc (.cells #[.bool false, .int .i64 0, .int .i64 0, .int .i64 0, .int .i64 0, .int .i64 0] 23)) false 0 0 0 0 0 23 (w.heap.size + 1) (by simp)).below hb
  have HB1 := Lib.hid (B0.trans (hb.mono B0.size))
  have HL1 : Hid (w.heap.size + 1 < w1.heap.size) := Nat.lt_of_lt_of_le (by simp) hb.size
  clear hb B0
  have HH3 := Lib.hid ((HH.out.below HB1.out).below ((Below.refl w1.heap.size w1).alloc (Nat.le_refl _) (.cells #[.bool n, .int .i64 t, .int .i64 o, .int .i64 r, .int .i64 d, .int .i64 i] 23)))
  go_wp2_with fail
  refine (M2.out _ HH3.out).mono ?_
  rintro e w2 ⟨rfl, hb⟩
  have b1 : Below w1.heap.size w1 w2 := ((Below.refl w1.heap.size w1).alloc (Nat.le_refl _) (.cells #[.bool n, .int .i64 t, .int .i64 o, .int .i64 r, .int .i64 d, .int .i64 i] 23)).trans (hb.mono (by simp))
  have K5 : Hid (Cells6 w2 w1.heap.size n t o r d i) := (cells6_alloc w1 n t o r d i 23).below hb
  have J0 := Lib.hid (K0.out.below b1)
  have J1 := Lib.hid (K1.out.below b1)
  have HB2 := Lib.hid (HB1.out.trans (b1.mono HB1.out.size))
  have HL2 : Hid (w1.heap.size < w2.heap.size) := World.block_lt_of_cell? w2 ⟨w1.heap.size, 0, none⟩ K5.out.1
  clear hb b1
  go_wp2_with fail
  -- the region
  have b2 : Below w2.heap.size w2 (w2.alloc (.cells #[.bool n', .int .i64 t', .int .i64 o', .int .i64 r', .int .i64 d', .int .i64 i'] 23)) := (Below.refl _ _).alloc (Nat.le_refl _) _
  have G0 := J0.out.below b2
  have G1 := J1.out.below b2
  have G5 := K5.out.below b2
  have G7 := cells6_alloc w2 n' t' o' r' d' i' 23
  have HB3 := Lib.hid (HB2.out.alloc HB2.out.size (.cells #[.bool n', .int .i64 t', .int .i64 o', .int .i64 r', .int .i64 d', .int .i64 i'] 23))
  have n1 : w.heap.size ≠ w.heap.size + 1 := by omega
  have n2 : w1.heap.size ≠ w.heap.size := by have := HL1.out; omega
  have n3 : w1.heap.size ≠ w.heap.size + 1 := by have := HL1.out; omega
  have n4 : w2.heap.size ≠ w.heap.size := by have := HL1.out; have := HL2.out; omega
  have n5 : w2.heap.size ≠ w.heap.size + 1 := by have := HL1.out; have := HL2.out; omega
  generalize w2.alloc (.cells #[.bool n', .int .i64 t', .int .i64 o', .int .i64 r', .int .i64 d', .int .i64 i'] 23) = W at *
  generalize w1.heap.size = g5 at *
  generalize w2.heap.size = g7 at *
  generalize hB1 : w.heap.size + 1 = B1 at *
  have HE := Lib.hid hB1
  clear hB1 b2
  obtain ⟨⟨a0, a1, a2, a3, a4, a5⟩, fz⟩ := G0
  obtain ⟨⟨b0, b1, b2, b3, b4, b5⟩, fz'⟩ := G1
  obtain ⟨c0, c1, c2, c3, c4, c5⟩ := G5
  obtain ⟨d0, d1, d2, d3, d4, d5⟩ := G7
  clear M1 M2 HH HH2 HH3 K0 K1 K5 J0 J1 HB1 HB2 HL1 HL2
  go_region
  have hb6 := bel_set6 (b := B1) (bel_set6 (b := w.heap.size) HB3.out (Nat.le_refl _) n t o r d i) (by have := HE.out; omega) n' t' o' r' d' i'
  go_wp2_with fail
  exact bodyPost_ret (v := .tuple #[.agg #[.bool n, .int .i64 t, .int .i64 o, .int .i64 r, .int .i64 d, .int .i64 i], .agg #[.bool n', .int .i64 t', .int .i64 o', .int .i64 r', .int .i64 d', .int .i64 i'], .bool p]) (by simp [results, Try.results25, go_sem, a0, a1, a2, a3, a4, a5, b0, b1, b2, b3, b4, b5]) rfl ⟨rfl, hb6.drew⟩
#print axioms ends_any
end Go.Proofs.Ytkgckmlphfafjaa
