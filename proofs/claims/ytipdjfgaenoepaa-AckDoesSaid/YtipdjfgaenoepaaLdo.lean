/- thalweglaw07.AckDoes: for any row of acks and any numbers the law answers true; no condition. -/
import Derived.Test.YtipdjfgaenoepaaAq8
import Derived.WalkLawsBesides
import Derived.WalkKit
import Derived.ProofKit
import Derived.OpenShut
import Derived.ShutString
import Derived.ChangeOld
import Derived.Below
namespace Go.Proofs.Ytipdjfgaenoepaa.ackDoes
open Go.ChangeShapes Go.WideShapes Go.ChangeAt Go.RowKit
open Go.ChangeMaps (open_string shut_string)
set_option linter.unusedVariables false
set_option maxRecDepth 100000

theorem own : ownKnob Try.prog.godebug = none := by kernel_rfl
theorem laidOut : laidOutB Try.prog = true := by kernel_rfl
def IsRow (k : IntKind) (w : World) (a : Option Addr) (len cap : Nat) (zs : List Int) : Prop :=
  (a = none ∧ len = 0 ∧ cap = 0 ∧ zs = []) ∨
  ∃ x, a = some x ∧ len ≤ cap ∧ cap ≤ maxLen ∧ zs.length = cap ∧ (∀ i, i < zs.length → w.cell? (x.add i) = some (.int k (zs.getD i 0))) ∧ ∀ n ∈ zs, (Lit.int k n).wf = true

theorem Zs_nil (w : World) : Zs w (.slice none 0 0) [] := ⟨by simp, .inl ⟨none, 0, rfl, fun _ => rfl, rfl⟩⟩
theorem is_of {w : World} {a : Option Addr} {len cap : Nat} {zs : List Int} (h : IsRow .i64 w a len cap zs) : Zs w (.slice a len cap) (zs.take len) ∧ (zs.take len).length = len := by
  rcases h with ⟨rfl, rfl, rfl, rfl⟩ | ⟨x, rfl, hl, hm, hz, hcell, _⟩
  · exact ⟨Zs_nil w, rfl⟩
  · have hlen : (zs.take len).length = len := by rw [List.length_take]; omega
    refine ⟨⟨by rw [hlen]; unfold maxLen at hm; omega, ?_⟩, hlen⟩
    by_cases h0 : len = 0
    · subst h0; exact .inl ⟨some x, cap, rfl, (fun h => by cases h), by simp⟩
    · right
      obtain ⟨b, off, spot⟩ := x
      have hc := hcell 0 (by omega)
      have hspot : spot = none := by simpa [Addr.add] using World.cell?_spot hc
      subst hspot
      refine ⟨b, off, cap, by rw [hlen], by rw [hlen]; exact hl, fun i hi => ?_⟩
      have hi' : i < len := by omega
      have := hcell i (by omega)
      have hadd : (⟨b, off, none⟩ : Addr).add i = ⟨b, off + i, none⟩ := by unfold Addr.add; split <;> simp_all
      rw [hadd] at this
      rw [this]
      simp [List.getD, hi']


theorem _root_.Go.Proofs.Ytipdjfgaenoepaa.Cells4.low4 {w w' : World} {b o S : Nat} {y : Int × Int × Int × Int} (h : Cells4 w b o y) (hb : b < w.heap.size) (hB : Below S w w') (hS : w.heap.size = S) : Cells4 w' b o y :=
  ⟨(hB.cell (p := ⟨b, o, none⟩) (by simp; omega)).trans h.1, (hB.cell (p := ⟨b, o + 1, none⟩) (by simp; omega)).trans h.2.1, (hB.cell (p := ⟨b, o + 2, none⟩) (by simp; omega)).trans h.2.2.1, (hB.cell (p := ⟨b, o + 3, none⟩) (by simp; omega)).trans h.2.2.2⟩
theorem early (a0 : Option Addr) (cap0 : Nat) (z0 : List (Int × Int × Int × Int)) (a1 : Int) (a2 : Option Addr) (len2 cap2 : Nat) (a3 : Int) (w : World) (h : ¬ (z0.length ≤ 100 ∧ len2 ≤ 100)) :
    Calls Try.prog 3 #[.slice a0 z0.length cap0, .int .i64 a1, .slice a2 len2 cap2, .int .i64 a3] w fun e w' => e = .returned (.bool true) ∧ Below w.heap.size w w' := by
  by_cases h1 : (100 : Int) < (z0.length : Int)
  · go_enter Try.func3, Try.ntmps3
    go_wp2_with fail
    go_ret
    exact ⟨rfl, Below.refl _ _⟩
  · have h2 : (100 : Int) < (len2 : Int) := by omega
    go_enter Try.func3, Try.ntmps3
    go_wp2_with fail
    go_ret
    exact ⟨rfl, Below.refl _ _⟩
set_option maxHeartbeats 32000000 in
theorem case_ok (a0 : Option Addr) (cap0 : Nat) (z0 : List (Int × Int × Int × Int)) (a1 : Int) (a2 : Option Addr) (len2 cap2 : Nat) (a3 : Int) (w : World) (xs : List Int) (w0 : As w (.slice a0 z0.length cap0) z0) (w2 : Zs w (.slice a2 len2 cap2) xs) (e2 : xs.length = len2) (l0 : z0.length ≤ 100) (l2 : len2 ≤ 100) (X M E KB : Int) (bs : List Int) (KC : Int) (QR : Bool) (hQ : QR = (KC == 0)) (hl : bs.length ≤ 600)
    (cO1 : ∀ W v, Zs W v xs → Calls Try.prog 11 #[.int .i64 a1, v] W fun e w' => e = .returned (.tuple #[.agg #[.int .i64 0, .int .i64 0, .int .i64 X, .int .i64 M], .int .i64 E]) ∧ Below W.heap.size W w')
    (cO2 : ∀ W v, Zs W v xs → Calls Try.prog 12 #[.int .i64 a1, v] W fun e w' => e = .returned (.tuple #[.agg #[.int .i64 0, .int .i64 0, .int .i64 X, .int .i64 M], .int .i64 E]) ∧ Below W.heap.size W w')
    (cB1 : ∀ W v, As W v z0 → Calls Try.prog 9 #[v] W (RetY W bs KB)) (cB2 : ∀ W v, As W v z0 → Calls Try.prog 10 #[v] W (RetY W bs KB))
    (cC : ∀ W v, As W v z0 → Calls Try.prog 14 #[v] W fun e w' => e = .returned (.int .i64 KC) ∧ Below W.heap.size W w')
    (cD : ∀ W v, As W v z0 → Calls Try.prog 15 #[v] W fun e w' => e = .returned (.bool QR) ∧ Below W.heap.size W w') :
    Calls Try.prog 3 #[.slice a0 z0.length cap0, .int .i64 a1, .slice a2 len2 cap2, .int .i64 a3] w fun e w' => e = .returned (.bool true) ∧ Below w.heap.size w w' := by
  subst e2
  have A0 := Lib.hid w0
  have Z2 := Lib.hid w2
  have g1 : ¬ (100 : Int) < (z0.length : Int) := by omega
  have g2 : ¬ (100 : Int) < (xs.length : Int) := by omega
  have C1 := Lib.hid cO1
  have C2 := Lib.hid cO2
  have C3 := Lib.hid cB1
  have C4 := Lib.hid cB2
  have C5 := Lib.hid cC
  have C6 := Lib.hid cD
  have HQ := Lib.hid hQ
  have HL : Hid (z0.length ≤ 100 ∧ xs.length ≤ 100) := ⟨l0, l2⟩
  have HB : Hid (Below w.heap.size w w) := Below.refl _ _
  clear w0 w2 cO1 cO2 cB1 cB2 cC cD l0 l2 hQ
  go_enter Try.func3, Try.ntmps3
  go_wp2_with fail
  clear g1 g2
  refine (row_any _ xs w Z2.out HL.out.2).mono ?_
  rintro e V1 ⟨u, rfl, hz, hb⟩
  obtain ⟨a9, c9, rfl, -, -, -⟩ := Zs_open hz
  have Z9 := Lib.hid hz
  replace A0 := Lib.hid (A0.out.below hb)
  replace Z2 := Lib.hid (Zs_below Z2.out hb)
  replace HB := Lib.hid (HB.out.trans (hb.mono HB.out.size))
  clear hb hz
  go_wp2_with fail
  refine (C3.out _ _ A0.out).mono ?_
  rintro e V2 ⟨a3', c3', rfl, hr, hb⟩
  have R1 := Lib.hid hr
  replace A0 := Lib.hid (A0.out.below hb)
  replace Z2 := Lib.hid (Zs_below Z2.out hb)
  replace Z9 := Lib.hid (Zs_below Z9.out hb)
  replace HB := Lib.hid (HB.out.trans (hb.mono HB.out.size))
  clear hb hr
  go_wp2_with fail
  refine (C4.out _ _ A0.out).mono ?_
  rintro e V3 ⟨a4', c4', rfl, hr, hb⟩
  have R2 := Lib.hid hr
  replace A0 := Lib.hid (A0.out.below hb)
  replace Z2 := Lib.hid (Zs_below Z2.out hb)
  replace Z9 := Lib.hid (Zs_below Z9.out hb)
  replace R1 := Lib.hid (Bs_below R1.out hb)
  replace HB := Lib.hid (HB.out.trans (hb.mono HB.out.size))
  clear hb hr
  go_wp2_with fail
  refine (C1.out _ _ Z9.out).mono ?_
  rintro e V4 ⟨rfl, hb⟩
  replace A0 := Lib.hid (A0.out.below hb)
  replace Z2 := Lib.hid (Zs_below Z2.out hb)
  replace Z9 := Lib.hid (Zs_below Z9.out hb)
  replace R1 := Lib.hid (Bs_below R1.out hb)
  replace R2 := Lib.hid (Bs_below R2.out hb)
  replace HB := Lib.hid (HB.out.trans (hb.mono HB.out.size))
  clear hb
  have HG0 : Hid (w.heap.size ≤ V4.heap.size) := HB.out.size
  have hal : Below V4.heap.size V4 (V4.alloc (.cells #[.int .i64 0, .int .i64 0, .int .i64 X, .int .i64 M] 30)) := (Below.refl _ V4).alloc (Nat.le_refl _) _
  have O1 := Lib.hid (owna_alloc V4 0 0 X M 30 V4.heap.size rfl)
  replace A0 := Lib.hid (A0.out.below hal)
  replace Z2 := Lib.hid (Zs_below Z2.out hal)
  replace Z9 := Lib.hid (Zs_below Z9.out hal)
  replace R1 := Lib.hid (Bs_below R1.out hal)
  replace R2 := Lib.hid (Bs_below R2.out hal)
  replace HB := Lib.hid (HB.out.trans (hal.mono HB.out.size))
  clear hal
  obtain ⟨g1, hg⟩ : ∃ g1, V4.heap.size = g1 := ⟨_, rfl⟩
  obtain ⟨U1, hU⟩ : ∃ U1, V4.alloc (.cells #[.int .i64 0, .int .i64 0, .int .i64 X, .int .i64 M] 30) = U1 := ⟨_, rfl⟩
  rw [hU] at A0 Z2 Z9 R1 R2 HB O1
  rw [hg] at O1
  have LT1 : Hid (g1 < U1.heap.size) := O1.out.lt
  rw [hg] at HG0

  go_wp2_with fail
  clear hU hg
  refine (C2.out _ _ Z2.out).mono ?_
  rintro e V5 ⟨rfl, hb⟩
  replace A0 := Lib.hid (A0.out.below hb)
  replace Z2 := Lib.hid (Zs_below Z2.out hb)
  replace Z9 := Lib.hid (Zs_below Z9.out hb)
  replace R1 := Lib.hid (Bs_below R1.out hb)
  replace R2 := Lib.hid (Bs_below R2.out hb)
  replace O1 := Lib.hid (O1.out.below hb)
  replace HB := Lib.hid (HB.out.trans (hb.mono HB.out.size))
  replace LT1 : Hid (g1 < V5.heap.size) := O1.out.lt
  clear hb
  have hal : Below V5.heap.size V5 (V5.alloc (.cells #[.int .i64 0, .int .i64 0, .int .i64 X, .int .i64 M] 30)) := (Below.refl _ V5).alloc (Nat.le_refl _) _
  have O2 := Lib.hid (owna_alloc V5 0 0 X M 30 V5.heap.size rfl)
  replace A0 := Lib.hid (A0.out.below hal)
  replace Z2 := Lib.hid (Zs_below Z2.out hal)
  replace Z9 := Lib.hid (Zs_below Z9.out hal)
  replace R1 := Lib.hid (Bs_below R1.out hal)
  replace R2 := Lib.hid (Bs_below R2.out hal)
  replace O1 := Lib.hid (O1.out.below hal)
  replace HB := Lib.hid (HB.out.trans (hal.mono HB.out.size))
  clear hal
  obtain ⟨g2, hg⟩ : ∃ g2, V5.heap.size = g2 := ⟨_, rfl⟩
  obtain ⟨U2, hU⟩ : ∃ U2, V5.alloc (.cells #[.int .i64 0, .int .i64 0, .int .i64 X, .int .i64 M] 30) = U2 := ⟨_, rfl⟩
  rw [hU] at A0 Z2 Z9 R1 R2 O1 HB O2
  rw [hg] at O2
  have LT2 : Hid (g2 < U2.heap.size) := O2.out.lt

  have LT12 : Hid (g1 < g2) := by have := LT1.out; show _ < _; omega
  obtain ⟨⟨q0, q1, q2, q3⟩, -⟩ := O1.out
  have O3 := Lib.hid (owna_alloc U2 0 0 X M 30 U2.heap.size rfl)
  have hal : Below U2.heap.size U2 (U2.alloc (.cells #[.int .i64 0, .int .i64 0, .int .i64 X, .int .i64 M] 30)) := (Below.refl _ U2).alloc (Nat.le_refl _) _
  have HG2 : Hid (w.heap.size ≤ U2.heap.size) := HB.out.size
  obtain ⟨g3, hg3⟩ : ∃ g3, U2.heap.size = g3 := ⟨_, rfl⟩
  obtain ⟨U3, hU3⟩ : ∃ U3, U2.alloc (.cells #[.int .i64 0, .int .i64 0, .int .i64 X, .int .i64 M] 30) = U3 := ⟨_, rfl⟩
  rw [hU3] at O3 hal
  rw [hg3] at O3 hal
  have LT23 : Hid (g2 < g3) := by have := LT2.out; show _ < _; omega
  have HAL := Lib.hid hal
  have HG3 := Lib.hid hg3
  clear hal
  by_cases hz : 0 < z0.length
  · have hz' : (0 : Int) < (z0.length : Int) := by omega
    obtain ⟨b, off, rfl, hB, p0⟩ := A0.out.at hz
    obtain ⟨⟨y1, y2, y3, y4⟩, hy⟩ : ∃ y, z0.getD 0 (0, 0, 0, 0) = y := ⟨_, rfl⟩
    rw [hy] at p0
    clear hy
    have p0 := p0.low4 hB HAL.out HG3.out
    simp only [Nat.zero_mul, Nat.add_zero] at p0
    obtain ⟨p0, p1, p2, p3⟩ := p0
    simp only at p0 p1 p2 p3
    obtain ⟨⟨r0, r1, r2, r3⟩, rf⟩ := O3.out
    go_wp2_with fail
    have hbU : Below g3 U2 (put4 U3 g3 y1 y2 y3 y4) := bel_put4 HAL.out (Nat.le_refl _) y1 y2 y3 y4
    have hO := O3.out.set y1 y2 y3 y4
    clear p0 p1 p2 p3 r0 r1 r2 r3 rf q0 q1 q2 q3 hU3 hg3 O3 HAL hz hz' hU hg
    unfold put4 at hbU hO
    generalize (((U3.setCell ⟨g3, 0, none⟩ (.int .i64 y1)).setCell ⟨g3, 1, none⟩ (.int .i64 y2)).setCell ⟨g3, 2, none⟩ (.int .i64 y3)).setCell ⟨g3, 3, none⟩ (.int .i64 y4) = V9 at *
    have O3 := Lib.hid hO
    rw [← HG3.out] at hbU
    clear hO
    replace A0 := Lib.hid (A0.out.below hbU)
    replace Z2 := Lib.hid (Zs_below Z2.out hbU)
    replace Z9 := Lib.hid (Zs_below Z9.out hbU)
    replace R1 := Lib.hid (Bs_below R1.out hbU)
    replace R2 := Lib.hid (Bs_below R2.out hbU)
    replace O1 := Lib.hid (O1.out.below hbU)
    replace O2 := Lib.hid (O2.out.below hbU)
    replace HB := Lib.hid (HB.out.trans (hbU.mono HB.out.size))
    clear hbU LT1 LT2 LT12 LT23 HG0 HG2 HG3
    have kc : ∀ w', Below V9.heap.size V9 w' → (w'.cell? ⟨g1, 0, none⟩ = some (.int .i64 0) ∧ w'.cell? ⟨g1, 1, none⟩ = some (.int .i64 0) ∧ w'.cell? ⟨g1, 2, none⟩ = some (.int .i64 X) ∧ w'.cell? ⟨g1, 3, none⟩ = some (.int .i64 M)) ∧ (w'.cell? ⟨g2, 0, none⟩ = some (.int .i64 0) ∧ w'.cell? ⟨g2, 1, none⟩ = some (.int .i64 0) ∧ w'.cell? ⟨g2, 2, none⟩ = some (.int .i64 X) ∧ w'.cell? ⟨g2, 3, none⟩ = some (.int .i64 M)) ∧ (w'.cell? ⟨g3, 0, none⟩ = some (.int .i64 y1) ∧ w'.cell? ⟨g3, 1, none⟩ = some (.int .i64 y2) ∧ w'.cell? ⟨g3, 2, none⟩ = some (.int .i64 y3) ∧ w'.cell? ⟨g3, 3, none⟩ = some (.int .i64 y4)) := fun w' h => ⟨(O1.out.below h).1, (O2.out.below h).1, (O3.out.below h).1⟩
    have hc1 : ∀ w', Below V9.heap.size V9 w' → (convert 25 9 (.slice a3' bs.length c3')).run Try.prog w' = .ok (.string (strOfNums bs)) w' := fun w' h => Bs_conv (Bs_below R1.out h)
    have hc2 : ∀ w', Below V9.heap.size V9 w' → (convert 25 9 (.slice a4' bs.length c4')).run Try.prog w' = .ok (.string (strOfNums bs)) w' := fun w' h => Bs_conv (Bs_below R2.out h)
    have hEq : ∀ w', (binOp .eql 30 (.agg #[.int .i64 0, .int .i64 0, .int .i64 X, .int .i64 M]) (.agg #[.int .i64 0, .int .i64 0, .int .i64 X, .int .i64 M])).run Try.prog w' = .ok (.bool true) w' := fun w' => by rw [eqlAK]; simp [eqA]
    have cK : ∀ w', Below V9.heap.size V9 w' → Calls Try.prog 14 #[.slice (some ⟨b, off, none⟩) z0.length cap0] w' fun e w'' => e = .returned (.int .i64 KC) ∧ Below w'.heap.size w' w'' := fun w' h => C5.out w' _ (A0.out.below h)
    have cR : ∀ w', Below V9.heap.size V9 w' → Calls Try.prog 15 #[.slice (some ⟨b, off, none⟩) z0.length cap0] w' fun e w'' => e = .returned (.bool QR) ∧ Below w'.heap.size w' w'' := fun w' h => C6.out w' _ (A0.out.below h)
    have cI : ∀ w', Below V9.heap.size V9 w' → Calls Try.prog 18 #[.slice a9 xs.length c9, .slice a2 xs.length cap2] w' fun e w'' => e = .returned (.bool true) ∧ Below w'.heap.size w' w'' := fun w' h => (ints_any _ _ xs xs w' (Zs_below Z9.out h) (Zs_below Z2.out h)).mono fun e w'' h => ⟨by rw [h.1, decide_eq_true rfl], h.2⟩
    have cH := fun W => has_fix y1 y2 y3 y4 a3 W
    have cG := fun W => rhas_dec y1 y2 y3 y4 a3 W
    generalize (decide (AkOne (y1, y2, y3, y4)) && hasN y3 y4 a3) = HH at *
    have hQ := HQ.out
    cases QR with
    | true =>
      have hk : KC = 0 := by simpa using hQ.symm
      subst hk
      refine wp_region_typed (C := fun w' => Below V9.heap.size V9 w') (X := fun w w' => Below w.heap.size w w') (n := 103) (by kernel_rfl) (by kernel_rfl) rfl (fun w => Below.refl _ w) (Below.refl _ _).drew ?_
      refine w_call (Is _) (fun _ _ _ h _ => h) 13 (.inl rfl) (fun ρ w hC hc hfn hf => by exact ⟨_, by (conv => lhs; simp [execOp, resolve, invoke, go_sem, hc, hfn]), tc_below hC (awake7 w)⟩) ?_
      refine w_is (fun w => Below.refl _ w) _ (.inl rfl) (fun ρ w hC hc hfn hf => by have e58 : ρ (.tmp 58) = _ := hf 58 (by decide); (conv => lhs; simp [execOp, go_sem, hc, e58])) ?_
      refine w_is (fun w => Below.refl _ w) _ (.inr ⟨1, 59, true, rfl, rfl, known_is rfl⟩) (fun ρ w hC hc hfn hf => by have e0 : ρ (.tmp 0) = _ := hf 0 (by decide); (conv => lhs; simp [execOp, go_sem, hc, e0])) ?_
      refine w_call (Is _) (fun _ _ _ h _ => h) 14 (.inr ⟨1, 59, true, rfl, rfl, known_is rfl⟩) (fun ρ w hC hc hfn hf => by have e60 : ρ (.tmp 60) = _ := hf 60 (by decide); exact ⟨_, by (conv => lhs; simp [execOp, resolve, invoke, go_sem, hc, hfn, e60]), tc_below hC (cK w hC)⟩) ?_
      refine w_is (fun w => Below.refl _ w) _ (.inr ⟨1, 59, true, rfl, rfl, known_is rfl⟩) (fun ρ w hC hc hfn hf => by have e61 : ρ (.tmp 61) = _ := hf 61 (by decide); (conv => lhs; simp [execOp, go_sem, hc, e61])) ?_
      refine w_is (fun w => Below.refl _ w) _ (.inr ⟨1, 59, true, rfl, rfl, known_is rfl⟩) (fun ρ w hC hc hfn hf => by have e0 : ρ (.tmp 0) = _ := hf 0 (by decide); (conv => lhs; simp [execOp, go_sem, hc, e0])) ?_
      refine w_call (Is _) (fun _ _ _ h _ => h) 15 (.inr ⟨1, 59, true, rfl, rfl, known_is rfl⟩) (fun ρ w hC hc hfn hf => by have e63 : ρ (.tmp 63) = _ := hf 63 (by decide); exact ⟨_, by (conv => lhs; simp [execOp, resolve, invoke, go_sem, hc, hfn, e63]), tc_below hC (cR w hC)⟩) ?_
      refine w_is (fun w => Below.refl _ w) _ (.inr ⟨1, 59, true, rfl, rfl, known_is rfl⟩) (fun ρ w hC hc hfn hf => by have e62 : ρ (.tmp 62) = _ := hf 62 (by decide); have e64 : ρ (.tmp 64) = _ := hf 64 (by decide); (conv => lhs; simp [execOp, go_sem, hc, e62, e64])) ?_
      refine w_is (fun w => Below.refl _ w) _ (.inl rfl) (fun ρ w hC hc hfn hf => by have e59 : ρ (.tmp 59) = _ := hf 59 (by decide); have e65 : ρ (.tmp 65) = _ := hf 65 (by decide); (conv => lhs; simp [execOp, go_sem, hc, e59, e65])) ?_
      refine w_is (fun w => Below.refl _ w) _ (.inl rfl) (fun ρ w hC hc hfn hf => by have e66 : ρ (.tmp 66) = _ := hf 66 (by decide); (conv => lhs; simp [execOp, go_sem, hc, e66])) ?_
      refine w_is (fun w => Below.refl _ w) _ (.inr ⟨9, 67, true, rfl, rfl, known_is rfl⟩) (fun ρ w hC hc hfn hf => by have e10 : ρ (.tmp 10) = _ := hf 10 (by decide); (conv => lhs; simp [execOp, go_sem, hc, e10])) ?_
      refine w_is (fun w => Below.refl _ w) _ (.inr ⟨9, 67, true, rfl, rfl, known_is rfl⟩) (fun ρ w hC hc hfn hf => by have e68 : ρ (.tmp 68) = _ := hf 68 (by decide); (conv => lhs; simp [execOp, go_sem, hc, e68, hc1 w hC])) ?_
      refine w_is (fun w => Below.refl _ w) _ (.inr ⟨9, 67, true, rfl, rfl, known_is rfl⟩) (fun ρ w hC hc hfn hf => by have e12 : ρ (.tmp 12) = _ := hf 12 (by decide); (conv => lhs; simp [execOp, go_sem, hc, e12])) ?_
      refine w_is (fun w => Below.refl _ w) _ (.inr ⟨9, 67, true, rfl, rfl, known_is rfl⟩) (fun ρ w hC hc hfn hf => by have e70 : ρ (.tmp 70) = _ := hf 70 (by decide); (conv => lhs; simp [execOp, go_sem, hc, e70, hc2 w hC])) ?_
      refine w_is (fun w => Below.refl _ w) _ (.inr ⟨9, 67, true, rfl, rfl, known_is rfl⟩) (fun ρ w hC hc hfn hf => by have e69 : ρ (.tmp 69) = _ := hf 69 (by decide); have e71 : ρ (.tmp 71) = _ := hf 71 (by decide); (conv => lhs; simp [execOp, go_sem, hc, e69, e71])) ?_
      refine w_is (fun w => Below.refl _ w) _ (.inl rfl) (fun ρ w hC hc hfn hf => by have e67 : ρ (.tmp 67) = _ := hf 67 (by decide); have e72 : ρ (.tmp 72) = _ := hf 72 (by decide); (conv => lhs; simp [execOp, go_sem, hc, e67, e72])) ?_
      refine w_is (fun w => Below.refl _ w) _ (.inl rfl) (fun ρ w hC hc hfn hf => by have e73 : ρ (.tmp 73) = _ := hf 73 (by decide); (conv => lhs; simp [execOp, go_sem, hc, e73])) ?_
      refine w_is (fun w => Below.refl _ w) _ (.inr ⟨16, 74, true, rfl, rfl, known_is rfl⟩) (fun ρ w hC hc hfn hf => by have e11 : ρ (.tmp 11) = _ := hf 11 (by decide); (conv => lhs; simp [execOp, go_sem, hc, e11])) ?_
      refine w_is (fun w => Below.refl _ w) _ (.inr ⟨16, 74, true, rfl, rfl, known_is rfl⟩) (fun ρ w hC hc hfn hf => by have e13 : ρ (.tmp 13) = _ := hf 13 (by decide); (conv => lhs; simp [execOp, go_sem, hc, e13])) ?_
      refine w_is (fun w => Below.refl _ w) _ (.inr ⟨16, 74, true, rfl, rfl, known_is rfl⟩) (fun ρ w hC hc hfn hf => by have e75 : ρ (.tmp 75) = _ := hf 75 (by decide); have e76 : ρ (.tmp 76) = _ := hf 76 (by decide); (conv => lhs; simp [execOp, go_sem, hc, e75, e76])) ?_
      refine w_is (fun w => Below.refl _ w) _ (.inl rfl) (fun ρ w hC hc hfn hf => by have e74 : ρ (.tmp 74) = _ := hf 74 (by decide); have e77 : ρ (.tmp 77) = _ := hf 77 (by decide); (conv => lhs; simp [execOp, go_sem, hc, e74, e77])) ?_
      refine w_is (fun w => Below.refl _ w) _ (.inl rfl) (fun ρ w hC hc hfn hf => by have e78 : ρ (.tmp 78) = _ := hf 78 (by decide); (conv => lhs; simp [execOp, go_sem, hc, e78])) ?_
      refine w_is (fun w => Below.refl _ w) _ (.inr ⟨21, 79, true, rfl, rfl, known_is rfl⟩) (fun ρ w hC hc hfn hf => by have e14 : ρ (.tmp 14) = _ := hf 14 (by decide); (conv => lhs; simp [execOp, go_sem, hc, e14, kc w hC])) ?_
      refine w_is (fun w => Below.refl _ w) _ (.inr ⟨21, 79, true, rfl, rfl, known_is rfl⟩) (fun ρ w hC hc hfn hf => by have e16 : ρ (.tmp 16) = _ := hf 16 (by decide); (conv => lhs; simp [execOp, go_sem, hc, e16, kc w hC])) ?_
      refine w_is (fun w => Below.refl _ w) _ (.inr ⟨21, 79, true, rfl, rfl, known_is rfl⟩) (fun ρ w hC hc hfn hf => by have e80 : ρ (.tmp 80) = _ := hf 80 (by decide); have e81 : ρ (.tmp 81) = _ := hf 81 (by decide); (conv => lhs; simp [execOp, go_sem, hc, e80, e81, hEq w, guardAK])) ?_
      refine w_is (fun w => Below.refl _ w) _ (.inl rfl) (fun ρ w hC hc hfn hf => by have e79 : ρ (.tmp 79) = _ := hf 79 (by decide); have e82 : ρ (.tmp 82) = _ := hf 82 (by decide); (conv => lhs; simp [execOp, go_sem, hc, e79, e82])) ?_
      refine w_is (fun w => Below.refl _ w) _ (.inl rfl) (fun ρ w hC hc hfn hf => by have e83 : ρ (.tmp 83) = _ := hf 83 (by decide); (conv => lhs; simp [execOp, go_sem, hc, e83])) ?_
      refine w_is (fun w => Below.refl _ w) _ (.inr ⟨26, 84, true, rfl, rfl, known_is rfl⟩) (fun ρ w hC hc hfn hf => by have e15 : ρ (.tmp 15) = _ := hf 15 (by decide); (conv => lhs; simp [execOp, go_sem, hc, e15])) ?_
      refine w_is (fun w => Below.refl _ w) _ (.inr ⟨26, 84, true, rfl, rfl, known_is rfl⟩) (fun ρ w hC hc hfn hf => by have e17 : ρ (.tmp 17) = _ := hf 17 (by decide); (conv => lhs; simp [execOp, go_sem, hc, e17])) ?_
      refine w_is (fun w => Below.refl _ w) _ (.inr ⟨26, 84, true, rfl, rfl, known_is rfl⟩) (fun ρ w hC hc hfn hf => by have e85 : ρ (.tmp 85) = _ := hf 85 (by decide); have e86 : ρ (.tmp 86) = _ := hf 86 (by decide); (conv => lhs; simp [execOp, go_sem, hc, e85, e86])) ?_
      refine w_is (fun w => Below.refl _ w) _ (.inl rfl) (fun ρ w hC hc hfn hf => by have e84 : ρ (.tmp 84) = _ := hf 84 (by decide); have e87 : ρ (.tmp 87) = _ := hf 87 (by decide); (conv => lhs; simp [execOp, go_sem, hc, e84, e87])) ?_
      refine w_is (fun w => Below.refl _ w) _ (.inl rfl) (fun ρ w hC hc hfn hf => by have e88 : ρ (.tmp 88) = _ := hf 88 (by decide); (conv => lhs; simp [execOp, go_sem, hc, e88])) ?_
      refine w_is (fun w => Below.refl _ w) _ (.inr ⟨31, 89, true, rfl, rfl, known_is rfl⟩) (fun ρ w hC hc hfn hf => by have e18 : ρ (.tmp 18) = _ := hf 18 (by decide); (conv => lhs; simp [execOp, go_sem, hc, e18, kc w hC])) ?_
      refine w_is (fun w => Below.refl _ w) _ (.inr ⟨31, 89, true, rfl, rfl, known_is rfl⟩) (fun ρ w hC hc hfn hf => by have e3 : ρ (.tmp 3) = _ := hf 3 (by decide); (conv => lhs; simp [execOp, go_sem, hc, e3])) ?_
      refine w_call (Is _) (fun _ _ _ h _ => h) 16 (.inr ⟨31, 89, true, rfl, rfl, known_is rfl⟩) (fun ρ w hC hc hfn hf => by have e90 : ρ (.tmp 90) = _ := hf 90 (by decide); have e91 : ρ (.tmp 91) = _ := hf 91 (by decide); exact ⟨_, by (conv => lhs; simp [execOp, resolve, invoke, go_sem, hc, hfn, e90, e91]), tc_below hC (cH w)⟩) ?_
      refine w_is (fun w => Below.refl _ w) _ (.inr ⟨31, 89, true, rfl, rfl, known_is rfl⟩) (fun ρ w hC hc hfn hf => by have e18 : ρ (.tmp 18) = _ := hf 18 (by decide); (conv => lhs; simp [execOp, go_sem, hc, e18, kc w hC])) ?_
      refine w_is (fun w => Below.refl _ w) _ (.inr ⟨31, 89, true, rfl, rfl, known_is rfl⟩) (fun ρ w hC hc hfn hf => by have e3 : ρ (.tmp 3) = _ := hf 3 (by decide); (conv => lhs; simp [execOp, go_sem, hc, e3])) ?_
      refine w_call (Is _) (fun _ _ _ h _ => h) 17 (.inr ⟨31, 89, true, rfl, rfl, known_is rfl⟩) (fun ρ w hC hc hfn hf => by have e93 : ρ (.tmp 93) = _ := hf 93 (by decide); have e94 : ρ (.tmp 94) = _ := hf 94 (by decide); exact ⟨_, by (conv => lhs; simp [execOp, resolve, invoke, go_sem, hc, hfn, e93, e94]), tc_below hC (cG w)⟩) ?_
      refine w_is (fun w => Below.refl _ w) _ (.inr ⟨31, 89, true, rfl, rfl, known_is rfl⟩) (fun ρ w hC hc hfn hf => by have e92 : ρ (.tmp 92) = _ := hf 92 (by decide); have e95 : ρ (.tmp 95) = _ := hf 95 (by decide); (conv => lhs; simp [execOp, go_sem, hc, e92, e95])) ?_
      refine w_is (fun w => Below.refl _ w) _ (.inl rfl) (fun ρ w hC hc hfn hf => by have e89 : ρ (.tmp 89) = _ := hf 89 (by decide); have e96 : ρ (.tmp 96) = _ := hf 96 (by decide); (conv => lhs; simp [execOp, go_sem, hc, e89, e96])) ?_
      refine w_is (fun w => Below.refl _ w) _ (.inl rfl) (fun ρ w hC hc hfn hf => by have e97 : ρ (.tmp 97) = _ := hf 97 (by decide); (conv => lhs; simp [execOp, go_sem, hc, e97])) ?_
      refine w_is (fun w => Below.refl _ w) _ (.inr ⟨40, 98, true, rfl, rfl, known_is rfl⟩) (fun ρ w hC hc hfn hf => by have e9 : ρ (.tmp 9) = _ := hf 9 (by decide); (conv => lhs; simp [execOp, go_sem, hc, e9])) ?_
      refine w_is (fun w => Below.refl _ w) _ (.inr ⟨40, 98, true, rfl, rfl, known_is rfl⟩) (fun ρ w hC hc hfn hf => by have e2 : ρ (.tmp 2) = _ := hf 2 (by decide); (conv => lhs; simp [execOp, go_sem, hc, e2])) ?_
      refine w_call (Is _) (fun _ _ _ h _ => h) 18 (.inr ⟨40, 98, true, rfl, rfl, known_is rfl⟩) (fun ρ w hC hc hfn hf => by have e99 : ρ (.tmp 99) = _ := hf 99 (by decide); have e100 : ρ (.tmp 100) = _ := hf 100 (by decide); exact ⟨_, by (conv => lhs; simp [execOp, resolve, invoke, go_sem, hc, hfn, e99, e100]), tc_below hC (cI w hC)⟩) ?_
      refine w_is (fun w => Below.refl _ w) _ (.inl rfl) (fun ρ w hC hc hfn hf => by have e98 : ρ (.tmp 98) = _ := hf 98 (by decide); have e101 : ρ (.tmp 101) = _ := hf 101 (by decide); (conv => lhs; simp [execOp, go_sem, hc, e98, e101])) ?_
      refine w_is (fun w => Below.refl _ w) _ (.inl rfl) (fun ρ w hC hc hfn hf => by have e102 : ρ (.tmp 102) = _ := hf 102 (by decide); (conv => lhs; simp [execOp, go_sem, hc, e102])) ?_
      intro A VX hC hn hd hf
      have y0 : A.eval (.tmp 0) = _ := Eq.trans (hf 0) (by conv => lhs; simp [go_sem])
      have y1 : A.eval (.tmp 1) = _ := Eq.trans (hf 1) (by conv => lhs; simp [go_sem])
      have y2 : A.eval (.tmp 2) = _ := Eq.trans (hf 2) (by conv => lhs; simp [go_sem])
      have y3 : A.eval (.tmp 3) = _ := Eq.trans (hf 3) (by conv => lhs; simp [go_sem])
      have y4 : A.eval (.tmp 4) = _ := Eq.trans (hf 4) (by conv => lhs; simp [go_sem])
      have y5 : A.eval (.tmp 5) = _ := Eq.trans (hf 5) (by conv => lhs; simp [go_sem])
      have y6 : A.eval (.tmp 6) = _ := Eq.trans (hf 6) (by conv => lhs; simp [go_sem])
      have y7 : A.eval (.tmp 7) = _ := Eq.trans (hf 7) (by conv => lhs; simp [go_sem])
      have y8 : A.eval (.tmp 8) = _ := hf 8
      have y9 : A.eval (.tmp 9) = _ := Eq.trans (hf 9) (by conv => lhs; simp [go_sem])
      have y10 : A.eval (.tmp 10) = _ := Eq.trans (hf 10) (by conv => lhs; simp [go_sem])
      have y11 : A.eval (.tmp 11) = _ := Eq.trans (hf 11) (by conv => lhs; simp [go_sem])
      have y12 : A.eval (.tmp 12) = _ := Eq.trans (hf 12) (by conv => lhs; simp [go_sem])
      have y13 : A.eval (.tmp 13) = _ := Eq.trans (hf 13) (by conv => lhs; simp [go_sem])
      have y14 : A.eval (.tmp 14) = _ := Eq.trans (hf 14) (by conv => lhs; simp [go_sem])
      have y15 : A.eval (.tmp 15) = _ := Eq.trans (hf 15) (by conv => lhs; simp [go_sem])
      have y16 : A.eval (.tmp 16) = _ := Eq.trans (hf 16) (by conv => lhs; simp [go_sem])
      have y17 : A.eval (.tmp 17) = _ := Eq.trans (hf 17) (by conv => lhs; simp [go_sem])
      have y18 : A.eval (.tmp 18) = _ := Eq.trans (hf 18) (by conv => lhs; simp [go_sem])
      have y19 : A.eval (.tmp 19) = _ := Eq.trans (hf 19) (by conv => lhs; simp [go_sem])
      have y20 : A.eval (.tmp 20) = _ := Eq.trans (hf 20) (by conv => lhs; simp [go_sem])
      have y21 : A.eval (.tmp 21) = _ := Eq.trans (hf 21) (by conv => lhs; simp [go_sem])
      have y22 : A.eval (.tmp 22) = _ := Eq.trans (hf 22) (by conv => lhs; simp [go_sem])
      have y23 : A.eval (.tmp 23) = _ := Eq.trans (hf 23) (by conv => lhs; simp [go_sem])
      have y24 : A.eval (.tmp 24) = _ := Eq.trans (hf 24) (by conv => lhs; simp [go_sem])
      have y25 : A.eval (.tmp 25) = _ := Eq.trans (hf 25) (by conv => lhs; simp [go_sem])
      have y26 : A.eval (.tmp 26) = _ := Eq.trans (hf 26) (by conv => lhs; simp [go_sem])
      have y27 : A.eval (.tmp 27) = _ := Eq.trans (hf 27) (by conv => lhs; simp [go_sem])
      have y28 : A.eval (.tmp 28) = _ := Eq.trans (hf 28) (by conv => lhs; simp [go_sem])
      have y29 : A.eval (.tmp 29) = _ := Eq.trans (hf 29) (by conv => lhs; simp [go_sem])
      have y30 : A.eval (.tmp 30) = _ := Eq.trans (hf 30) (by conv => lhs; simp [go_sem])
      have y31 : A.eval (.tmp 31) = _ := Eq.trans (hf 31) (by conv => lhs; simp [go_sem])
      have y32 : A.eval (.tmp 32) = _ := Eq.trans (hf 32) (by conv => lhs; simp [go_sem])
      have y33 : A.eval (.tmp 33) = _ := Eq.trans (hf 33) (by conv => lhs; simp [go_sem])
      have y34 : A.eval (.tmp 34) = _ := Eq.trans (hf 34) (by conv => lhs; simp [go_sem])
      have y35 : A.eval (.tmp 35) = _ := Eq.trans (hf 35) (by conv => lhs; simp [go_sem])
      have y36 : A.eval (.tmp 36) = _ := Eq.trans (hf 36) (by conv => lhs; simp [go_sem])
      have y37 : A.eval (.tmp 37) = _ := Eq.trans (hf 37) (by conv => lhs; simp [go_sem])
      have y38 : A.eval (.tmp 38) = _ := Eq.trans (hf 38) (by conv => lhs; simp [go_sem])
      have y39 : A.eval (.tmp 39) = _ := Eq.trans (hf 39) (by conv => lhs; simp [go_sem])
      have y40 : A.eval (.tmp 40) = _ := Eq.trans (hf 40) (by conv => lhs; simp [go_sem])
      have y41 : A.eval (.tmp 41) = _ := Eq.trans (hf 41) (by conv => lhs; simp [go_sem])
      have y42 : A.eval (.tmp 42) = _ := Eq.trans (hf 42) (by conv => lhs; simp [go_sem])
      have y43 : A.eval (.tmp 43) = _ := Eq.trans (hf 43) (by conv => lhs; simp [go_sem])
      have y44 : A.eval (.tmp 44) = _ := Eq.trans (hf 44) (by conv => lhs; simp [go_sem])
      have y45 : A.eval (.tmp 45) = _ := Eq.trans (hf 45) (by conv => lhs; simp [go_sem])
      have y46 : A.eval (.tmp 46) = _ := Eq.trans (hf 46) (by conv => lhs; simp [go_sem])
      have y47 : A.eval (.tmp 47) = _ := Eq.trans (hf 47) (by conv => lhs; simp [go_sem])
      have y48 : A.eval (.tmp 48) = _ := Eq.trans (hf 48) (by conv => lhs; simp [go_sem])
      have y49 : A.eval (.tmp 49) = _ := Eq.trans (hf 49) (by conv => lhs; simp [go_sem])
      have y50 : A.eval (.tmp 50) = _ := Eq.trans (hf 50) (by conv => lhs; simp [go_sem])
      have y51 : A.eval (.tmp 51) = _ := Eq.trans (hf 51) (by conv => lhs; simp [go_sem])
      have y52 : A.eval (.tmp 52) = _ := Eq.trans (hf 52) (by conv => lhs; simp [go_sem])
      have y53 : A.eval (.tmp 53) = _ := Eq.trans (hf 53) (by conv => lhs; simp [go_sem])
      have y54 : A.eval (.tmp 54) = _ := Eq.trans (hf 54) (by conv => lhs; simp [go_sem])
      have y55 : A.eval (.tmp 55) = _ := Eq.trans (hf 55) (by conv => lhs; simp [go_sem])
      have y56 : A.eval (.tmp 56) = _ := Eq.trans (hf 56) (by conv => lhs; simp [go_sem])
      have y57 : A.eval (.tmp 57) = _ := Eq.trans (hf 57) (by conv => lhs; simp [go_sem])
      have y58 : A.eval (.tmp 58) = _ := hf 58
      have y59 : A.eval (.tmp 59) = _ := hf 59
      have y60 : A.eval (.tmp 60) = _ := hf 60
      have y61 : A.eval (.tmp 61) = _ := hf 61
      have y62 : A.eval (.tmp 62) = _ := hf 62
      have y63 : A.eval (.tmp 63) = _ := hf 63
      have y64 : A.eval (.tmp 64) = _ := hf 64
      have y65 : A.eval (.tmp 65) = _ := hf 65
      have y66 : A.eval (.tmp 66) = _ := hf 66
      have y67 : A.eval (.tmp 67) = _ := hf 67
      have y68 : A.eval (.tmp 68) = _ := hf 68
      have y69 : A.eval (.tmp 69) = _ := hf 69
      have y70 : A.eval (.tmp 70) = _ := hf 70
      have y71 : A.eval (.tmp 71) = _ := hf 71
      have y72 : A.eval (.tmp 72) = _ := hf 72
      have y73 : A.eval (.tmp 73) = _ := hf 73
      have y74 : A.eval (.tmp 74) = _ := hf 74
      have y75 : A.eval (.tmp 75) = _ := hf 75
      have y76 : A.eval (.tmp 76) = _ := hf 76
      have y77 : A.eval (.tmp 77) = _ := hf 77
      have y78 : A.eval (.tmp 78) = _ := hf 78
      have y79 : A.eval (.tmp 79) = _ := hf 79
      have y80 : A.eval (.tmp 80) = _ := hf 80
      have y81 : A.eval (.tmp 81) = _ := hf 81
      have y82 : A.eval (.tmp 82) = _ := hf 82
      have y83 : A.eval (.tmp 83) = _ := hf 83
      have y84 : A.eval (.tmp 84) = _ := hf 84
      have y85 : A.eval (.tmp 85) = _ := hf 85
      have y86 : A.eval (.tmp 86) = _ := hf 86
      have y87 : A.eval (.tmp 87) = _ := hf 87
      have y88 : A.eval (.tmp 88) = _ := hf 88
      have y89 : A.eval (.tmp 89) = _ := hf 89
      have y90 : A.eval (.tmp 90) = _ := hf 90
      have y91 : A.eval (.tmp 91) = _ := hf 91
      have y92 : A.eval (.tmp 92) = _ := hf 92
      have y93 : A.eval (.tmp 93) = _ := hf 93
      have y94 : A.eval (.tmp 94) = _ := hf 94
      have y95 : A.eval (.tmp 95) = _ := hf 95
      have y96 : A.eval (.tmp 96) = _ := hf 96
      have y97 : A.eval (.tmp 97) = _ := hf 97
      have y98 : A.eval (.tmp 98) = _ := hf 98
      have y99 : A.eval (.tmp 99) = _ := hf 99
      have y100 : A.eval (.tmp 100) = _ := hf 100
      have y101 : A.eval (.tmp 101) = _ := hf 101
      have y102 : A.eval (.tmp 102) = _ := hf 102
      clear hf
      have hA := frame_eq hn
      rw [show List.range 103 = [0, 1, 2, 3, 4, 5, 6, 7, 8, 9, 10, 11, 12, 13, 14, 15, 16, 17, 18, 19, 20, 21, 22, 23, 24, 25, 26, 27, 28, 29, 30, 31, 32, 33, 34, 35, 36, 37, 38, 39, 40, 41, 42, 43, 44, 45, 46, 47, 48, 49, 50, 51, 52, 53, 54, 55, 56, 57, 58, 59, 60, 61, 62, 63, 64, 65, 66, 67, 68, 69, 70, 71, 72, 73, 74, 75, 76, 77, 78, 79, 80, 81, 82, 83, 84, 85, 86, 87, 88, 89, 90, 91, 92, 93, 94, 95, 96, 97, 98, 99, 100, 101, 102] from rfl, hd] at hA
      simp only [List.map_cons, List.map_nil, y0, y1, y2, y3, y4, y5, y6, y7, y8, y9, y10, y11, y12, y13, y14, y15, y16, y17, y18, y19, y20, y21, y22, y23, y24, y25, y26, y27, y28, y29, y30, y31, y32, y33, y34, y35, y36, y37, y38, y39, y40, y41, y42, y43, y44, y45, y46, y47, y48, y49, y50, y51, y52, y53, y54, y55, y56, y57, y58, y59, y60, y61, y62, y63, y64, y65, y66, y67, y68, y69, y70, y71, y72, y73, y74, y75, y76, y77, y78, y79, y80, y81, y82, y83, y84, y85, y86, y87, y88, y89, y90, y91, y92, y93, y94, y95, y96, y97, y98, y99, y100, y101, y102] at hA
      clear y0 y1 y2 y3 y4 y5 y6 y7 y8 y9 y10 y11 y12 y13 y14 y15 y16 y17 y18 y19 y20 y21 y22 y23 y24 y25 y26 y27 y28 y29 y30 y31 y32 y33 y34 y35 y36 y37 y38 y39 y40 y41 y42 y43 y44 y45 y46 y47 y48 y49 y50 y51 y52 y53 y54 y55 y56 y57 y58 y59 y60 y61 y62 y63 y64 y65 y66 y67 y68 y69 y70 y71 y72 y73 y74 y75 y76 y77 y78 y79 y80 y81 y82 y83 y84 y85 y86 y87 y88 y89 y90 y91 y92 y93 y94 y95 y96 y97 y98 y99 y100 y101 y102
      clear hn hd
      subst hA
      go_wp2_with fail
      go_ret
      exact ⟨rfl, HB.out.trans (hC.mono HB.out.size)⟩
    | false =>
      have hk : (KC == 0) = false := hQ.symm
      refine wp_region_typed (C := fun w' => Below V9.heap.size V9 w') (X := fun w w' => Below w.heap.size w w') (n := 103) (by kernel_rfl) (by kernel_rfl) rfl (fun w => Below.refl _ w) (Below.refl _ _).drew ?_
      refine w_call (Is _) (fun _ _ _ h _ => h) 13 (.inl rfl) (fun ρ w hC hc hfn hf => by exact ⟨_, by (conv => lhs; simp [execOp, resolve, invoke, go_sem, hc, hfn]), tc_below hC (awake7 w)⟩) ?_
      refine w_is (fun w => Below.refl _ w) _ (.inl rfl) (fun ρ w hC hc hfn hf => by have e58 : ρ (.tmp 58) = _ := hf 58 (by decide); (conv => lhs; simp [execOp, go_sem, hc, e58])) ?_
      refine w_is (fun w => Below.refl _ w) _ (.inr ⟨1, 59, true, rfl, rfl, known_is rfl⟩) (fun ρ w hC hc hfn hf => by have e0 : ρ (.tmp 0) = _ := hf 0 (by decide); (conv => lhs; simp [execOp, go_sem, hc, e0])) ?_
      refine w_call (Is _) (fun _ _ _ h _ => h) 14 (.inr ⟨1, 59, true, rfl, rfl, known_is rfl⟩) (fun ρ w hC hc hfn hf => by have e60 : ρ (.tmp 60) = _ := hf 60 (by decide); exact ⟨_, by (conv => lhs; simp [execOp, resolve, invoke, go_sem, hc, hfn, e60]), tc_below hC (cK w hC)⟩) ?_
      refine w_is (fun w => Below.refl _ w) _ (.inr ⟨1, 59, true, rfl, rfl, known_is rfl⟩) (fun ρ w hC hc hfn hf => by have e61 : ρ (.tmp 61) = _ := hf 61 (by decide); (conv => lhs; simp [execOp, go_sem, hc, e61, hk])) ?_
      refine w_is (fun w => Below.refl _ w) _ (.inr ⟨1, 59, true, rfl, rfl, known_is rfl⟩) (fun ρ w hC hc hfn hf => by have e0 : ρ (.tmp 0) = _ := hf 0 (by decide); (conv => lhs; simp [execOp, go_sem, hc, e0])) ?_
      refine w_call (Is _) (fun _ _ _ h _ => h) 15 (.inr ⟨1, 59, true, rfl, rfl, known_is rfl⟩) (fun ρ w hC hc hfn hf => by have e63 : ρ (.tmp 63) = _ := hf 63 (by decide); exact ⟨_, by (conv => lhs; simp [execOp, resolve, invoke, go_sem, hc, hfn, e63]), tc_below hC (cR w hC)⟩) ?_
      refine w_is (fun w => Below.refl _ w) _ (.inr ⟨1, 59, true, rfl, rfl, known_is rfl⟩) (fun ρ w hC hc hfn hf => by have e62 : ρ (.tmp 62) = _ := hf 62 (by decide); have e64 : ρ (.tmp 64) = _ := hf 64 (by decide); (conv => lhs; simp [execOp, go_sem, hc, e62, e64])) ?_
      refine w_is (fun w => Below.refl _ w) _ (.inl rfl) (fun ρ w hC hc hfn hf => by have e59 : ρ (.tmp 59) = _ := hf 59 (by decide); have e65 : ρ (.tmp 65) = _ := hf 65 (by decide); (conv => lhs; simp [execOp, go_sem, hc, e59, e65])) ?_
      refine w_is (fun w => Below.refl _ w) _ (.inl rfl) (fun ρ w hC hc hfn hf => by have e66 : ρ (.tmp 66) = _ := hf 66 (by decide); (conv => lhs; simp [execOp, go_sem, hc, e66])) ?_
      refine w_is (fun w => Below.refl _ w) _ (.inr ⟨9, 67, true, rfl, rfl, known_is rfl⟩) (fun ρ w hC hc hfn hf => by have e10 : ρ (.tmp 10) = _ := hf 10 (by decide); (conv => lhs; simp [execOp, go_sem, hc, e10])) ?_
      refine w_is (fun w => Below.refl _ w) _ (.inr ⟨9, 67, true, rfl, rfl, known_is rfl⟩) (fun ρ w hC hc hfn hf => by have e68 : ρ (.tmp 68) = _ := hf 68 (by decide); (conv => lhs; simp [execOp, go_sem, hc, e68, hc1 w hC])) ?_
      refine w_is (fun w => Below.refl _ w) _ (.inr ⟨9, 67, true, rfl, rfl, known_is rfl⟩) (fun ρ w hC hc hfn hf => by have e12 : ρ (.tmp 12) = _ := hf 12 (by decide); (conv => lhs; simp [execOp, go_sem, hc, e12])) ?_
      refine w_is (fun w => Below.refl _ w) _ (.inr ⟨9, 67, true, rfl, rfl, known_is rfl⟩) (fun ρ w hC hc hfn hf => by have e70 : ρ (.tmp 70) = _ := hf 70 (by decide); (conv => lhs; simp [execOp, go_sem, hc, e70, hc2 w hC])) ?_
      refine w_is (fun w => Below.refl _ w) _ (.inr ⟨9, 67, true, rfl, rfl, known_is rfl⟩) (fun ρ w hC hc hfn hf => by have e69 : ρ (.tmp 69) = _ := hf 69 (by decide); have e71 : ρ (.tmp 71) = _ := hf 71 (by decide); (conv => lhs; simp [execOp, go_sem, hc, e69, e71])) ?_
      refine w_is (fun w => Below.refl _ w) _ (.inl rfl) (fun ρ w hC hc hfn hf => by have e67 : ρ (.tmp 67) = _ := hf 67 (by decide); have e72 : ρ (.tmp 72) = _ := hf 72 (by decide); (conv => lhs; simp [execOp, go_sem, hc, e67, e72])) ?_
      refine w_is (fun w => Below.refl _ w) _ (.inl rfl) (fun ρ w hC hc hfn hf => by have e73 : ρ (.tmp 73) = _ := hf 73 (by decide); (conv => lhs; simp [execOp, go_sem, hc, e73])) ?_
      refine w_is (fun w => Below.refl _ w) _ (.inr ⟨16, 74, true, rfl, rfl, known_is rfl⟩) (fun ρ w hC hc hfn hf => by have e11 : ρ (.tmp 11) = _ := hf 11 (by decide); (conv => lhs; simp [execOp, go_sem, hc, e11])) ?_
      refine w_is (fun w => Below.refl _ w) _ (.inr ⟨16, 74, true, rfl, rfl, known_is rfl⟩) (fun ρ w hC hc hfn hf => by have e13 : ρ (.tmp 13) = _ := hf 13 (by decide); (conv => lhs; simp [execOp, go_sem, hc, e13])) ?_
      refine w_is (fun w => Below.refl _ w) _ (.inr ⟨16, 74, true, rfl, rfl, known_is rfl⟩) (fun ρ w hC hc hfn hf => by have e75 : ρ (.tmp 75) = _ := hf 75 (by decide); have e76 : ρ (.tmp 76) = _ := hf 76 (by decide); (conv => lhs; simp [execOp, go_sem, hc, e75, e76])) ?_
      refine w_is (fun w => Below.refl _ w) _ (.inl rfl) (fun ρ w hC hc hfn hf => by have e74 : ρ (.tmp 74) = _ := hf 74 (by decide); have e77 : ρ (.tmp 77) = _ := hf 77 (by decide); (conv => lhs; simp [execOp, go_sem, hc, e74, e77])) ?_
      refine w_is (fun w => Below.refl _ w) _ (.inl rfl) (fun ρ w hC hc hfn hf => by have e78 : ρ (.tmp 78) = _ := hf 78 (by decide); (conv => lhs; simp [execOp, go_sem, hc, e78])) ?_
      refine w_is (fun w => Below.refl _ w) _ (.inr ⟨21, 79, true, rfl, rfl, known_is rfl⟩) (fun ρ w hC hc hfn hf => by have e14 : ρ (.tmp 14) = _ := hf 14 (by decide); (conv => lhs; simp [execOp, go_sem, hc, e14, kc w hC])) ?_
      refine w_is (fun w => Below.refl _ w) _ (.inr ⟨21, 79, true, rfl, rfl, known_is rfl⟩) (fun ρ w hC hc hfn hf => by have e16 : ρ (.tmp 16) = _ := hf 16 (by decide); (conv => lhs; simp [execOp, go_sem, hc, e16, kc w hC])) ?_
      refine w_is (fun w => Below.refl _ w) _ (.inr ⟨21, 79, true, rfl, rfl, known_is rfl⟩) (fun ρ w hC hc hfn hf => by have e80 : ρ (.tmp 80) = _ := hf 80 (by decide); have e81 : ρ (.tmp 81) = _ := hf 81 (by decide); (conv => lhs; simp [execOp, go_sem, hc, e80, e81, hEq w, guardAK])) ?_
      refine w_is (fun w => Below.refl _ w) _ (.inl rfl) (fun ρ w hC hc hfn hf => by have e79 : ρ (.tmp 79) = _ := hf 79 (by decide); have e82 : ρ (.tmp 82) = _ := hf 82 (by decide); (conv => lhs; simp [execOp, go_sem, hc, e79, e82])) ?_
      refine w_is (fun w => Below.refl _ w) _ (.inl rfl) (fun ρ w hC hc hfn hf => by have e83 : ρ (.tmp 83) = _ := hf 83 (by decide); (conv => lhs; simp [execOp, go_sem, hc, e83])) ?_
      refine w_is (fun w => Below.refl _ w) _ (.inr ⟨26, 84, true, rfl, rfl, known_is rfl⟩) (fun ρ w hC hc hfn hf => by have e15 : ρ (.tmp 15) = _ := hf 15 (by decide); (conv => lhs; simp [execOp, go_sem, hc, e15])) ?_
      refine w_is (fun w => Below.refl _ w) _ (.inr ⟨26, 84, true, rfl, rfl, known_is rfl⟩) (fun ρ w hC hc hfn hf => by have e17 : ρ (.tmp 17) = _ := hf 17 (by decide); (conv => lhs; simp [execOp, go_sem, hc, e17])) ?_
      refine w_is (fun w => Below.refl _ w) _ (.inr ⟨26, 84, true, rfl, rfl, known_is rfl⟩) (fun ρ w hC hc hfn hf => by have e85 : ρ (.tmp 85) = _ := hf 85 (by decide); have e86 : ρ (.tmp 86) = _ := hf 86 (by decide); (conv => lhs; simp [execOp, go_sem, hc, e85, e86])) ?_
      refine w_is (fun w => Below.refl _ w) _ (.inl rfl) (fun ρ w hC hc hfn hf => by have e84 : ρ (.tmp 84) = _ := hf 84 (by decide); have e87 : ρ (.tmp 87) = _ := hf 87 (by decide); (conv => lhs; simp [execOp, go_sem, hc, e84, e87])) ?_
      refine w_is (fun w => Below.refl _ w) _ (.inl rfl) (fun ρ w hC hc hfn hf => by have e88 : ρ (.tmp 88) = _ := hf 88 (by decide); (conv => lhs; simp [execOp, go_sem, hc, e88])) ?_
      refine w_is (fun w => Below.refl _ w) _ (.inr ⟨31, 89, true, rfl, rfl, known_is rfl⟩) (fun ρ w hC hc hfn hf => by have e18 : ρ (.tmp 18) = _ := hf 18 (by decide); (conv => lhs; simp [execOp, go_sem, hc, e18, kc w hC])) ?_
      refine w_is (fun w => Below.refl _ w) _ (.inr ⟨31, 89, true, rfl, rfl, known_is rfl⟩) (fun ρ w hC hc hfn hf => by have e3 : ρ (.tmp 3) = _ := hf 3 (by decide); (conv => lhs; simp [execOp, go_sem, hc, e3])) ?_
      refine w_call (Is _) (fun _ _ _ h _ => h) 16 (.inr ⟨31, 89, true, rfl, rfl, known_is rfl⟩) (fun ρ w hC hc hfn hf => by have e90 : ρ (.tmp 90) = _ := hf 90 (by decide); have e91 : ρ (.tmp 91) = _ := hf 91 (by decide); exact ⟨_, by (conv => lhs; simp [execOp, resolve, invoke, go_sem, hc, hfn, e90, e91]), tc_below hC (cH w)⟩) ?_
      refine w_is (fun w => Below.refl _ w) _ (.inr ⟨31, 89, true, rfl, rfl, known_is rfl⟩) (fun ρ w hC hc hfn hf => by have e18 : ρ (.tmp 18) = _ := hf 18 (by decide); (conv => lhs; simp [execOp, go_sem, hc, e18, kc w hC])) ?_
      refine w_is (fun w => Below.refl _ w) _ (.inr ⟨31, 89, true, rfl, rfl, known_is rfl⟩) (fun ρ w hC hc hfn hf => by have e3 : ρ (.tmp 3) = _ := hf 3 (by decide); (conv => lhs; simp [execOp, go_sem, hc, e3])) ?_
      refine w_call (Is _) (fun _ _ _ h _ => h) 17 (.inr ⟨31, 89, true, rfl, rfl, known_is rfl⟩) (fun ρ w hC hc hfn hf => by have e93 : ρ (.tmp 93) = _ := hf 93 (by decide); have e94 : ρ (.tmp 94) = _ := hf 94 (by decide); exact ⟨_, by (conv => lhs; simp [execOp, resolve, invoke, go_sem, hc, hfn, e93, e94]), tc_below hC (cG w)⟩) ?_
      refine w_is (fun w => Below.refl _ w) _ (.inr ⟨31, 89, true, rfl, rfl, known_is rfl⟩) (fun ρ w hC hc hfn hf => by have e92 : ρ (.tmp 92) = _ := hf 92 (by decide); have e95 : ρ (.tmp 95) = _ := hf 95 (by decide); (conv => lhs; simp [execOp, go_sem, hc, e92, e95])) ?_
      refine w_is (fun w => Below.refl _ w) _ (.inl rfl) (fun ρ w hC hc hfn hf => by have e89 : ρ (.tmp 89) = _ := hf 89 (by decide); have e96 : ρ (.tmp 96) = _ := hf 96 (by decide); (conv => lhs; simp [execOp, go_sem, hc, e89, e96])) ?_
      refine w_is (fun w => Below.refl _ w) _ (.inl rfl) (fun ρ w hC hc hfn hf => by have e97 : ρ (.tmp 97) = _ := hf 97 (by decide); (conv => lhs; simp [execOp, go_sem, hc, e97])) ?_
      refine w_is (fun w => Below.refl _ w) _ (.inr ⟨40, 98, true, rfl, rfl, known_is rfl⟩) (fun ρ w hC hc hfn hf => by have e9 : ρ (.tmp 9) = _ := hf 9 (by decide); (conv => lhs; simp [execOp, go_sem, hc, e9])) ?_
      refine w_is (fun w => Below.refl _ w) _ (.inr ⟨40, 98, true, rfl, rfl, known_is rfl⟩) (fun ρ w hC hc hfn hf => by have e2 : ρ (.tmp 2) = _ := hf 2 (by decide); (conv => lhs; simp [execOp, go_sem, hc, e2])) ?_
      refine w_call (Is _) (fun _ _ _ h _ => h) 18 (.inr ⟨40, 98, true, rfl, rfl, known_is rfl⟩) (fun ρ w hC hc hfn hf => by have e99 : ρ (.tmp 99) = _ := hf 99 (by decide); have e100 : ρ (.tmp 100) = _ := hf 100 (by decide); exact ⟨_, by (conv => lhs; simp [execOp, resolve, invoke, go_sem, hc, hfn, e99, e100]), tc_below hC (cI w hC)⟩) ?_
      refine w_is (fun w => Below.refl _ w) _ (.inl rfl) (fun ρ w hC hc hfn hf => by have e98 : ρ (.tmp 98) = _ := hf 98 (by decide); have e101 : ρ (.tmp 101) = _ := hf 101 (by decide); (conv => lhs; simp [execOp, go_sem, hc, e98, e101])) ?_
      refine w_is (fun w => Below.refl _ w) _ (.inl rfl) (fun ρ w hC hc hfn hf => by have e102 : ρ (.tmp 102) = _ := hf 102 (by decide); (conv => lhs; simp [execOp, go_sem, hc, e102])) ?_
      intro A VX hC hn hd hf
      have y0 : A.eval (.tmp 0) = _ := Eq.trans (hf 0) (by conv => lhs; simp [go_sem])
      have y1 : A.eval (.tmp 1) = _ := Eq.trans (hf 1) (by conv => lhs; simp [go_sem])
      have y2 : A.eval (.tmp 2) = _ := Eq.trans (hf 2) (by conv => lhs; simp [go_sem])
      have y3 : A.eval (.tmp 3) = _ := Eq.trans (hf 3) (by conv => lhs; simp [go_sem])
      have y4 : A.eval (.tmp 4) = _ := Eq.trans (hf 4) (by conv => lhs; simp [go_sem])
      have y5 : A.eval (.tmp 5) = _ := Eq.trans (hf 5) (by conv => lhs; simp [go_sem])
      have y6 : A.eval (.tmp 6) = _ := Eq.trans (hf 6) (by conv => lhs; simp [go_sem])
      have y7 : A.eval (.tmp 7) = _ := Eq.trans (hf 7) (by conv => lhs; simp [go_sem])
      have y8 : A.eval (.tmp 8) = _ := hf 8
      have y9 : A.eval (.tmp 9) = _ := Eq.trans (hf 9) (by conv => lhs; simp [go_sem])
      have y10 : A.eval (.tmp 10) = _ := Eq.trans (hf 10) (by conv => lhs; simp [go_sem])
      have y11 : A.eval (.tmp 11) = _ := Eq.trans (hf 11) (by conv => lhs; simp [go_sem])
      have y12 : A.eval (.tmp 12) = _ := Eq.trans (hf 12) (by conv => lhs; simp [go_sem])
      have y13 : A.eval (.tmp 13) = _ := Eq.trans (hf 13) (by conv => lhs; simp [go_sem])
      have y14 : A.eval (.tmp 14) = _ := Eq.trans (hf 14) (by conv => lhs; simp [go_sem])
      have y15 : A.eval (.tmp 15) = _ := Eq.trans (hf 15) (by conv => lhs; simp [go_sem])
      have y16 : A.eval (.tmp 16) = _ := Eq.trans (hf 16) (by conv => lhs; simp [go_sem])
      have y17 : A.eval (.tmp 17) = _ := Eq.trans (hf 17) (by conv => lhs; simp [go_sem])
      have y18 : A.eval (.tmp 18) = _ := Eq.trans (hf 18) (by conv => lhs; simp [go_sem])
      have y19 : A.eval (.tmp 19) = _ := Eq.trans (hf 19) (by conv => lhs; simp [go_sem])
      have y20 : A.eval (.tmp 20) = _ := Eq.trans (hf 20) (by conv => lhs; simp [go_sem])
      have y21 : A.eval (.tmp 21) = _ := Eq.trans (hf 21) (by conv => lhs; simp [go_sem])
      have y22 : A.eval (.tmp 22) = _ := Eq.trans (hf 22) (by conv => lhs; simp [go_sem])
      have y23 : A.eval (.tmp 23) = _ := Eq.trans (hf 23) (by conv => lhs; simp [go_sem])
      have y24 : A.eval (.tmp 24) = _ := Eq.trans (hf 24) (by conv => lhs; simp [go_sem])
      have y25 : A.eval (.tmp 25) = _ := Eq.trans (hf 25) (by conv => lhs; simp [go_sem])
      have y26 : A.eval (.tmp 26) = _ := Eq.trans (hf 26) (by conv => lhs; simp [go_sem])
      have y27 : A.eval (.tmp 27) = _ := Eq.trans (hf 27) (by conv => lhs; simp [go_sem])
      have y28 : A.eval (.tmp 28) = _ := Eq.trans (hf 28) (by conv => lhs; simp [go_sem])
      have y29 : A.eval (.tmp 29) = _ := Eq.trans (hf 29) (by conv => lhs; simp [go_sem])
      have y30 : A.eval (.tmp 30) = _ := Eq.trans (hf 30) (by conv => lhs; simp [go_sem])
      have y31 : A.eval (.tmp 31) = _ := Eq.trans (hf 31) (by conv => lhs; simp [go_sem])
      have y32 : A.eval (.tmp 32) = _ := Eq.trans (hf 32) (by conv => lhs; simp [go_sem])
      have y33 : A.eval (.tmp 33) = _ := Eq.trans (hf 33) (by conv => lhs; simp [go_sem])
      have y34 : A.eval (.tmp 34) = _ := Eq.trans (hf 34) (by conv => lhs; simp [go_sem])
      have y35 : A.eval (.tmp 35) = _ := Eq.trans (hf 35) (by conv => lhs; simp [go_sem])
      have y36 : A.eval (.tmp 36) = _ := Eq.trans (hf 36) (by conv => lhs; simp [go_sem])
      have y37 : A.eval (.tmp 37) = _ := Eq.trans (hf 37) (by conv => lhs; simp [go_sem])
      have y38 : A.eval (.tmp 38) = _ := Eq.trans (hf 38) (by conv => lhs; simp [go_sem])
      have y39 : A.eval (.tmp 39) = _ := Eq.trans (hf 39) (by conv => lhs; simp [go_sem])
      have y40 : A.eval (.tmp 40) = _ := Eq.trans (hf 40) (by conv => lhs; simp [go_sem])
      have y41 : A.eval (.tmp 41) = _ := Eq.trans (hf 41) (by conv => lhs; simp [go_sem])
      have y42 : A.eval (.tmp 42) = _ := Eq.trans (hf 42) (by conv => lhs; simp [go_sem])
      have y43 : A.eval (.tmp 43) = _ := Eq.trans (hf 43) (by conv => lhs; simp [go_sem])
      have y44 : A.eval (.tmp 44) = _ := Eq.trans (hf 44) (by conv => lhs; simp [go_sem])
      have y45 : A.eval (.tmp 45) = _ := Eq.trans (hf 45) (by conv => lhs; simp [go_sem])
      have y46 : A.eval (.tmp 46) = _ := Eq.trans (hf 46) (by conv => lhs; simp [go_sem])
      have y47 : A.eval (.tmp 47) = _ := Eq.trans (hf 47) (by conv => lhs; simp [go_sem])
      have y48 : A.eval (.tmp 48) = _ := Eq.trans (hf 48) (by conv => lhs; simp [go_sem])
      have y49 : A.eval (.tmp 49) = _ := Eq.trans (hf 49) (by conv => lhs; simp [go_sem])
      have y50 : A.eval (.tmp 50) = _ := Eq.trans (hf 50) (by conv => lhs; simp [go_sem])
      have y51 : A.eval (.tmp 51) = _ := Eq.trans (hf 51) (by conv => lhs; simp [go_sem])
      have y52 : A.eval (.tmp 52) = _ := Eq.trans (hf 52) (by conv => lhs; simp [go_sem])
      have y53 : A.eval (.tmp 53) = _ := Eq.trans (hf 53) (by conv => lhs; simp [go_sem])
      have y54 : A.eval (.tmp 54) = _ := Eq.trans (hf 54) (by conv => lhs; simp [go_sem])
      have y55 : A.eval (.tmp 55) = _ := Eq.trans (hf 55) (by conv => lhs; simp [go_sem])
      have y56 : A.eval (.tmp 56) = _ := Eq.trans (hf 56) (by conv => lhs; simp [go_sem])
      have y57 : A.eval (.tmp 57) = _ := Eq.trans (hf 57) (by conv => lhs; simp [go_sem])
      have y58 : A.eval (.tmp 58) = _ := hf 58
      have y59 : A.eval (.tmp 59) = _ := hf 59
      have y60 : A.eval (.tmp 60) = _ := hf 60
      have y61 : A.eval (.tmp 61) = _ := hf 61
      have y62 : A.eval (.tmp 62) = _ := hf 62
      have y63 : A.eval (.tmp 63) = _ := hf 63
      have y64 : A.eval (.tmp 64) = _ := hf 64
      have y65 : A.eval (.tmp 65) = _ := hf 65
      have y66 : A.eval (.tmp 66) = _ := hf 66
      have y67 : A.eval (.tmp 67) = _ := hf 67
      have y68 : A.eval (.tmp 68) = _ := hf 68
      have y69 : A.eval (.tmp 69) = _ := hf 69
      have y70 : A.eval (.tmp 70) = _ := hf 70
      have y71 : A.eval (.tmp 71) = _ := hf 71
      have y72 : A.eval (.tmp 72) = _ := hf 72
      have y73 : A.eval (.tmp 73) = _ := hf 73
      have y74 : A.eval (.tmp 74) = _ := hf 74
      have y75 : A.eval (.tmp 75) = _ := hf 75
      have y76 : A.eval (.tmp 76) = _ := hf 76
      have y77 : A.eval (.tmp 77) = _ := hf 77
      have y78 : A.eval (.tmp 78) = _ := hf 78
      have y79 : A.eval (.tmp 79) = _ := hf 79
      have y80 : A.eval (.tmp 80) = _ := hf 80
      have y81 : A.eval (.tmp 81) = _ := hf 81
      have y82 : A.eval (.tmp 82) = _ := hf 82
      have y83 : A.eval (.tmp 83) = _ := hf 83
      have y84 : A.eval (.tmp 84) = _ := hf 84
      have y85 : A.eval (.tmp 85) = _ := hf 85
      have y86 : A.eval (.tmp 86) = _ := hf 86
      have y87 : A.eval (.tmp 87) = _ := hf 87
      have y88 : A.eval (.tmp 88) = _ := hf 88
      have y89 : A.eval (.tmp 89) = _ := hf 89
      have y90 : A.eval (.tmp 90) = _ := hf 90
      have y91 : A.eval (.tmp 91) = _ := hf 91
      have y92 : A.eval (.tmp 92) = _ := hf 92
      have y93 : A.eval (.tmp 93) = _ := hf 93
      have y94 : A.eval (.tmp 94) = _ := hf 94
      have y95 : A.eval (.tmp 95) = _ := hf 95
      have y96 : A.eval (.tmp 96) = _ := hf 96
      have y97 : A.eval (.tmp 97) = _ := hf 97
      have y98 : A.eval (.tmp 98) = _ := hf 98
      have y99 : A.eval (.tmp 99) = _ := hf 99
      have y100 : A.eval (.tmp 100) = _ := hf 100
      have y101 : A.eval (.tmp 101) = _ := hf 101
      have y102 : A.eval (.tmp 102) = _ := hf 102
      clear hf
      have hA := frame_eq hn
      rw [show List.range 103 = [0, 1, 2, 3, 4, 5, 6, 7, 8, 9, 10, 11, 12, 13, 14, 15, 16, 17, 18, 19, 20, 21, 22, 23, 24, 25, 26, 27, 28, 29, 30, 31, 32, 33, 34, 35, 36, 37, 38, 39, 40, 41, 42, 43, 44, 45, 46, 47, 48, 49, 50, 51, 52, 53, 54, 55, 56, 57, 58, 59, 60, 61, 62, 63, 64, 65, 66, 67, 68, 69, 70, 71, 72, 73, 74, 75, 76, 77, 78, 79, 80, 81, 82, 83, 84, 85, 86, 87, 88, 89, 90, 91, 92, 93, 94, 95, 96, 97, 98, 99, 100, 101, 102] from rfl, hd] at hA
      simp only [List.map_cons, List.map_nil, y0, y1, y2, y3, y4, y5, y6, y7, y8, y9, y10, y11, y12, y13, y14, y15, y16, y17, y18, y19, y20, y21, y22, y23, y24, y25, y26, y27, y28, y29, y30, y31, y32, y33, y34, y35, y36, y37, y38, y39, y40, y41, y42, y43, y44, y45, y46, y47, y48, y49, y50, y51, y52, y53, y54, y55, y56, y57, y58, y59, y60, y61, y62, y63, y64, y65, y66, y67, y68, y69, y70, y71, y72, y73, y74, y75, y76, y77, y78, y79, y80, y81, y82, y83, y84, y85, y86, y87, y88, y89, y90, y91, y92, y93, y94, y95, y96, y97, y98, y99, y100, y101, y102] at hA
      clear y0 y1 y2 y3 y4 y5 y6 y7 y8 y9 y10 y11 y12 y13 y14 y15 y16 y17 y18 y19 y20 y21 y22 y23 y24 y25 y26 y27 y28 y29 y30 y31 y32 y33 y34 y35 y36 y37 y38 y39 y40 y41 y42 y43 y44 y45 y46 y47 y48 y49 y50 y51 y52 y53 y54 y55 y56 y57 y58 y59 y60 y61 y62 y63 y64 y65 y66 y67 y68 y69 y70 y71 y72 y73 y74 y75 y76 y77 y78 y79 y80 y81 y82 y83 y84 y85 y86 y87 y88 y89 y90 y91 y92 y93 y94 y95 y96 y97 y98 y99 y100 y101 y102
      clear hn hd
      subst hA
      go_wp2_with fail
      go_ret
      exact ⟨rfl, HB.out.trans (hC.mono HB.out.size)⟩
  · have hz2 : ¬ (0 : Int) < (z0.length : Int) := by omega
    go_wp2_with fail
    clear q0 q1 q2 q3 hU3 hg3 hz hz2 hU hg
    have hbU := HAL.out
    rw [← HG3.out] at hbU
    clear HAL
    obtain ⟨V9, hV9⟩ : ∃ V9, V9 = U3 := ⟨_, rfl⟩
    subst hV9
    replace A0 := Lib.hid (A0.out.below hbU)
    replace Z2 := Lib.hid (Zs_below Z2.out hbU)
    replace Z9 := Lib.hid (Zs_below Z9.out hbU)
    replace R1 := Lib.hid (Bs_below R1.out hbU)
    replace R2 := Lib.hid (Bs_below R2.out hbU)
    replace O1 := Lib.hid (O1.out.below hbU)
    replace O2 := Lib.hid (O2.out.below hbU)
    replace HB := Lib.hid (HB.out.trans (hbU.mono HB.out.size))
    clear hbU LT1 LT2 LT12 LT23 HG0 HG2 HG3
    have kc : ∀ w', Below V9.heap.size V9 w' → (w'.cell? ⟨g1, 0, none⟩ = some (.int .i64 0) ∧ w'.cell? ⟨g1, 1, none⟩ = some (.int .i64 0) ∧ w'.cell? ⟨g1, 2, none⟩ = some (.int .i64 X) ∧ w'.cell? ⟨g1, 3, none⟩ = some (.int .i64 M)) ∧ (w'.cell? ⟨g2, 0, none⟩ = some (.int .i64 0) ∧ w'.cell? ⟨g2, 1, none⟩ = some (.int .i64 0) ∧ w'.cell? ⟨g2, 2, none⟩ = some (.int .i64 X) ∧ w'.cell? ⟨g2, 3, none⟩ = some (.int .i64 M)) ∧ (w'.cell? ⟨g3, 0, none⟩ = some (.int .i64 0) ∧ w'.cell? ⟨g3, 1, none⟩ = some (.int .i64 0) ∧ w'.cell? ⟨g3, 2, none⟩ = some (.int .i64 X) ∧ w'.cell? ⟨g3, 3, none⟩ = some (.int .i64 M)) := fun w' h => ⟨(O1.out.below h).1, (O2.out.below h).1, (O3.out.below h).1⟩
    have hc1 : ∀ w', Below V9.heap.size V9 w' → (convert 25 9 (.slice a3' bs.length c3')).run Try.prog w' = .ok (.string (strOfNums bs)) w' := fun w' h => Bs_conv (Bs_below R1.out h)
    have hc2 : ∀ w', Below V9.heap.size V9 w' → (convert 25 9 (.slice a4' bs.length c4')).run Try.prog w' = .ok (.string (strOfNums bs)) w' := fun w' h => Bs_conv (Bs_below R2.out h)
    have hEq : ∀ w', (binOp .eql 30 (.agg #[.int .i64 0, .int .i64 0, .int .i64 X, .int .i64 M]) (.agg #[.int .i64 0, .int .i64 0, .int .i64 X, .int .i64 M])).run Try.prog w' = .ok (.bool true) w' := fun w' => by rw [eqlAK]; simp [eqA]
    have cK : ∀ w', Below V9.heap.size V9 w' → Calls Try.prog 14 #[.slice a0 z0.length cap0] w' fun e w'' => e = .returned (.int .i64 KC) ∧ Below w'.heap.size w' w'' := fun w' h => C5.out w' _ (A0.out.below h)
    have cR : ∀ w', Below V9.heap.size V9 w' → Calls Try.prog 15 #[.slice a0 z0.length cap0] w' fun e w'' => e = .returned (.bool QR) ∧ Below w'.heap.size w' w'' := fun w' h => C6.out w' _ (A0.out.below h)
    have cI : ∀ w', Below V9.heap.size V9 w' → Calls Try.prog 18 #[.slice a9 xs.length c9, .slice a2 xs.length cap2] w' fun e w'' => e = .returned (.bool true) ∧ Below w'.heap.size w' w'' := fun w' h => (ints_any _ _ xs xs w' (Zs_below Z9.out h) (Zs_below Z2.out h)).mono fun e w'' h => ⟨by rw [h.1, decide_eq_true rfl], h.2⟩
    have cH := fun W => has_fix 0 0 X M a3 W
    have cG := fun W => rhas_dec 0 0 X M a3 W
    generalize (decide (AkOne (0, 0, X, M)) && hasN X M a3) = HH at *
    have hQ := HQ.out
    cases QR with
    | true =>
      have hk : KC = 0 := by simpa using hQ.symm
      subst hk
      refine wp_region_typed (C := fun w' => Below V9.heap.size V9 w') (X := fun w w' => Below w.heap.size w w') (n := 103) (by kernel_rfl) (by kernel_rfl) rfl (fun w => Below.refl _ w) (Below.refl _ _).drew ?_
      refine w_call (Is _) (fun _ _ _ h _ => h) 13 (.inl rfl) (fun ρ w hC hc hfn hf => by exact ⟨_, by (conv => lhs; simp [execOp, resolve, invoke, go_sem, hc, hfn]), tc_below hC (awake7 w)⟩) ?_
      refine w_is (fun w => Below.refl _ w) _ (.inl rfl) (fun ρ w hC hc hfn hf => by have e58 : ρ (.tmp 58) = _ := hf 58 (by decide); (conv => lhs; simp [execOp, go_sem, hc, e58])) ?_
      refine w_is (fun w => Below.refl _ w) _ (.inr ⟨1, 59, true, rfl, rfl, known_is rfl⟩) (fun ρ w hC hc hfn hf => by have e0 : ρ (.tmp 0) = _ := hf 0 (by decide); (conv => lhs; simp [execOp, go_sem, hc, e0])) ?_
      refine w_call (Is _) (fun _ _ _ h _ => h) 14 (.inr ⟨1, 59, true, rfl, rfl, known_is rfl⟩) (fun ρ w hC hc hfn hf => by have e60 : ρ (.tmp 60) = _ := hf 60 (by decide); exact ⟨_, by (conv => lhs; simp [execOp, resolve, invoke, go_sem, hc, hfn, e60]), tc_below hC (cK w hC)⟩) ?_
      refine w_is (fun w => Below.refl _ w) _ (.inr ⟨1, 59, true, rfl, rfl, known_is rfl⟩) (fun ρ w hC hc hfn hf => by have e61 : ρ (.tmp 61) = _ := hf 61 (by decide); (conv => lhs; simp [execOp, go_sem, hc, e61])) ?_
      refine w_is (fun w => Below.refl _ w) _ (.inr ⟨1, 59, true, rfl, rfl, known_is rfl⟩) (fun ρ w hC hc hfn hf => by have e0 : ρ (.tmp 0) = _ := hf 0 (by decide); (conv => lhs; simp [execOp, go_sem, hc, e0])) ?_
      refine w_call (Is _) (fun _ _ _ h _ => h) 15 (.inr ⟨1, 59, true, rfl, rfl, known_is rfl⟩) (fun ρ w hC hc hfn hf => by have e63 : ρ (.tmp 63) = _ := hf 63 (by decide); exact ⟨_, by (conv => lhs; simp [execOp, resolve, invoke, go_sem, hc, hfn, e63]), tc_below hC (cR w hC)⟩) ?_
      refine w_is (fun w => Below.refl _ w) _ (.inr ⟨1, 59, true, rfl, rfl, known_is rfl⟩) (fun ρ w hC hc hfn hf => by have e62 : ρ (.tmp 62) = _ := hf 62 (by decide); have e64 : ρ (.tmp 64) = _ := hf 64 (by decide); (conv => lhs; simp [execOp, go_sem, hc, e62, e64])) ?_
      refine w_is (fun w => Below.refl _ w) _ (.inl rfl) (fun ρ w hC hc hfn hf => by have e59 : ρ (.tmp 59) = _ := hf 59 (by decide); have e65 : ρ (.tmp 65) = _ := hf 65 (by decide); (conv => lhs; simp [execOp, go_sem, hc, e59, e65])) ?_
      refine w_is (fun w => Below.refl _ w) _ (.inl rfl) (fun ρ w hC hc hfn hf => by have e66 : ρ (.tmp 66) = _ := hf 66 (by decide); (conv => lhs; simp [execOp, go_sem, hc, e66])) ?_
      refine w_is (fun w => Below.refl _ w) _ (.inr ⟨9, 67, true, rfl, rfl, known_is rfl⟩) (fun ρ w hC hc hfn hf => by have e10 : ρ (.tmp 10) = _ := hf 10 (by decide); (conv => lhs; simp [execOp, go_sem, hc, e10])) ?_
      refine w_is (fun w => Below.refl _ w) _ (.inr ⟨9, 67, true, rfl, rfl, known_is rfl⟩) (fun ρ w hC hc hfn hf => by have e68 : ρ (.tmp 68) = _ := hf 68 (by decide); (conv => lhs; simp [execOp, go_sem, hc, e68, hc1 w hC])) ?_
      refine w_is (fun w => Below.refl _ w) _ (.inr ⟨9, 67, true, rfl, rfl, known_is rfl⟩) (fun ρ w hC hc hfn hf => by have e12 : ρ (.tmp 12) = _ := hf 12 (by decide); (conv => lhs; simp [execOp, go_sem, hc, e12])) ?_
      refine w_is (fun w => Below.refl _ w) _ (.inr ⟨9, 67, true, rfl, rfl, known_is rfl⟩) (fun ρ w hC hc hfn hf => by have e70 : ρ (.tmp 70) = _ := hf 70 (by decide); (conv => lhs; simp [execOp, go_sem, hc, e70, hc2 w hC])) ?_
      refine w_is (fun w => Below.refl _ w) _ (.inr ⟨9, 67, true, rfl, rfl, known_is rfl⟩) (fun ρ w hC hc hfn hf => by have e69 : ρ (.tmp 69) = _ := hf 69 (by decide); have e71 : ρ (.tmp 71) = _ := hf 71 (by decide); (conv => lhs; simp [execOp, go_sem, hc, e69, e71])) ?_
      refine w_is (fun w => Below.refl _ w) _ (.inl rfl) (fun ρ w hC hc hfn hf => by have e67 : ρ (.tmp 67) = _ := hf 67 (by decide); have e72 : ρ (.tmp 72) = _ := hf 72 (by decide); (conv => lhs; simp [execOp, go_sem, hc, e67, e72])) ?_
      refine w_is (fun w => Below.refl _ w) _ (.inl rfl) (fun ρ w hC hc hfn hf => by have e73 : ρ (.tmp 73) = _ := hf 73 (by decide); (conv => lhs; simp [execOp, go_sem, hc, e73])) ?_
      refine w_is (fun w => Below.refl _ w) _ (.inr ⟨16, 74, true, rfl, rfl, known_is rfl⟩) (fun ρ w hC hc hfn hf => by have e11 : ρ (.tmp 11) = _ := hf 11 (by decide); (conv => lhs; simp [execOp, go_sem, hc, e11])) ?_
      refine w_is (fun w => Below.refl _ w) _ (.inr ⟨16, 74, true, rfl, rfl, known_is rfl⟩) (fun ρ w hC hc hfn hf => by have e13 : ρ (.tmp 13) = _ := hf 13 (by decide); (conv => lhs; simp [execOp, go_sem, hc, e13])) ?_
      refine w_is (fun w => Below.refl _ w) _ (.inr ⟨16, 74, true, rfl, rfl, known_is rfl⟩) (fun ρ w hC hc hfn hf => by have e75 : ρ (.tmp 75) = _ := hf 75 (by decide); have e76 : ρ (.tmp 76) = _ := hf 76 (by decide); (conv => lhs; simp [execOp, go_sem, hc, e75, e76])) ?_
      refine w_is (fun w => Below.refl _ w) _ (.inl rfl) (fun ρ w hC hc hfn hf => by have e74 : ρ (.tmp 74) = _ := hf 74 (by decide); have e77 : ρ (.tmp 77) = _ := hf 77 (by decide); (conv => lhs; simp [execOp, go_sem, hc, e74, e77])) ?_
      refine w_is (fun w => Below.refl _ w) _ (.inl rfl) (fun ρ w hC hc hfn hf => by have e78 : ρ (.tmp 78) = _ := hf 78 (by decide); (conv => lhs; simp [execOp, go_sem, hc, e78])) ?_
      refine w_is (fun w => Below.refl _ w) _ (.inr ⟨21, 79, true, rfl, rfl, known_is rfl⟩) (fun ρ w hC hc hfn hf => by have e14 : ρ (.tmp 14) = _ := hf 14 (by decide); (conv => lhs; simp [execOp, go_sem, hc, e14, kc w hC])) ?_
      refine w_is (fun w => Below.refl _ w) _ (.inr ⟨21, 79, true, rfl, rfl, known_is rfl⟩) (fun ρ w hC hc hfn hf => by have e16 : ρ (.tmp 16) = _ := hf 16 (by decide); (conv => lhs; simp [execOp, go_sem, hc, e16, kc w hC])) ?_
      refine w_is (fun w => Below.refl _ w) _ (.inr ⟨21, 79, true, rfl, rfl, known_is rfl⟩) (fun ρ w hC hc hfn hf => by have e80 : ρ (.tmp 80) = _ := hf 80 (by decide); have e81 : ρ (.tmp 81) = _ := hf 81 (by decide); (conv => lhs; simp [execOp, go_sem, hc, e80, e81, hEq w, guardAK])) ?_
      refine w_is (fun w => Below.refl _ w) _ (.inl rfl) (fun ρ w hC hc hfn hf => by have e79 : ρ (.tmp 79) = _ := hf 79 (by decide); have e82 : ρ (.tmp 82) = _ := hf 82 (by decide); (conv => lhs; simp [execOp, go_sem, hc, e79, e82])) ?_
      refine w_is (fun w => Below.refl _ w) _ (.inl rfl) (fun ρ w hC hc hfn hf => by have e83 : ρ (.tmp 83) = _ := hf 83 (by decide); (conv => lhs; simp [execOp, go_sem, hc, e83])) ?_
      refine w_is (fun w => Below.refl _ w) _ (.inr ⟨26, 84, true, rfl, rfl, known_is rfl⟩) (fun ρ w hC hc hfn hf => by have e15 : ρ (.tmp 15) = _ := hf 15 (by decide); (conv => lhs; simp [execOp, go_sem, hc, e15])) ?_
      refine w_is (fun w => Below.refl _ w) _ (.inr ⟨26, 84, true, rfl, rfl, known_is rfl⟩) (fun ρ w hC hc hfn hf => by have e17 : ρ (.tmp 17) = _ := hf 17 (by decide); (conv => lhs; simp [execOp, go_sem, hc, e17])) ?_
      refine w_is (fun w => Below.refl _ w) _ (.inr ⟨26, 84, true, rfl, rfl, known_is rfl⟩) (fun ρ w hC hc hfn hf => by have e85 : ρ (.tmp 85) = _ := hf 85 (by decide); have e86 : ρ (.tmp 86) = _ := hf 86 (by decide); (conv => lhs; simp [execOp, go_sem, hc, e85, e86])) ?_
      refine w_is (fun w => Below.refl _ w) _ (.inl rfl) (fun ρ w hC hc hfn hf => by have e84 : ρ (.tmp 84) = _ := hf 84 (by decide); have e87 : ρ (.tmp 87) = _ := hf 87 (by decide); (conv => lhs; simp [execOp, go_sem, hc, e84, e87])) ?_
      refine w_is (fun w => Below.refl _ w) _ (.inl rfl) (fun ρ w hC hc hfn hf => by have e88 : ρ (.tmp 88) = _ := hf 88 (by decide); (conv => lhs; simp [execOp, go_sem, hc, e88])) ?_
      refine w_is (fun w => Below.refl _ w) _ (.inr ⟨31, 89, true, rfl, rfl, known_is rfl⟩) (fun ρ w hC hc hfn hf => by have e18 : ρ (.tmp 18) = _ := hf 18 (by decide); (conv => lhs; simp [execOp, go_sem, hc, e18, kc w hC])) ?_
      refine w_is (fun w => Below.refl _ w) _ (.inr ⟨31, 89, true, rfl, rfl, known_is rfl⟩) (fun ρ w hC hc hfn hf => by have e3 : ρ (.tmp 3) = _ := hf 3 (by decide); (conv => lhs; simp [execOp, go_sem, hc, e3])) ?_
      refine w_call (Is _) (fun _ _ _ h _ => h) 16 (.inr ⟨31, 89, true, rfl, rfl, known_is rfl⟩) (fun ρ w hC hc hfn hf => by have e90 : ρ (.tmp 90) = _ := hf 90 (by decide); have e91 : ρ (.tmp 91) = _ := hf 91 (by decide); exact ⟨_, by (conv => lhs; simp [execOp, resolve, invoke, go_sem, hc, hfn, e90, e91]), tc_below hC (cH w)⟩) ?_
      refine w_is (fun w => Below.refl _ w) _ (.inr ⟨31, 89, true, rfl, rfl, known_is rfl⟩) (fun ρ w hC hc hfn hf => by have e18 : ρ (.tmp 18) = _ := hf 18 (by decide); (conv => lhs; simp [execOp, go_sem, hc, e18, kc w hC])) ?_
      refine w_is (fun w => Below.refl _ w) _ (.inr ⟨31, 89, true, rfl, rfl, known_is rfl⟩) (fun ρ w hC hc hfn hf => by have e3 : ρ (.tmp 3) = _ := hf 3 (by decide); (conv => lhs; simp [execOp, go_sem, hc, e3])) ?_
      refine w_call (Is _) (fun _ _ _ h _ => h) 17 (.inr ⟨31, 89, true, rfl, rfl, known_is rfl⟩) (fun ρ w hC hc hfn hf => by have e93 : ρ (.tmp 93) = _ := hf 93 (by decide); have e94 : ρ (.tmp 94) = _ := hf 94 (by decide); exact ⟨_, by (conv => lhs; simp [execOp, resolve, invoke, go_sem, hc, hfn, e93, e94]), tc_below hC (cG w)⟩) ?_
      refine w_is (fun w => Below.refl _ w) _ (.inr ⟨31, 89, true, rfl, rfl, known_is rfl⟩) (fun ρ w hC hc hfn hf => by have e92 : ρ (.tmp 92) = _ := hf 92 (by decide); have e95 : ρ (.tmp 95) = _ := hf 95 (by decide); (conv => lhs; simp [execOp, go_sem, hc, e92, e95])) ?_
      refine w_is (fun w => Below.refl _ w) _ (.inl rfl) (fun ρ w hC hc hfn hf => by have e89 : ρ (.tmp 89) = _ := hf 89 (by decide); have e96 : ρ (.tmp 96) = _ := hf 96 (by decide); (conv => lhs; simp [execOp, go_sem, hc, e89, e96])) ?_
      refine w_is (fun w => Below.refl _ w) _ (.inl rfl) (fun ρ w hC hc hfn hf => by have e97 : ρ (.tmp 97) = _ := hf 97 (by decide); (conv => lhs; simp [execOp, go_sem, hc, e97])) ?_
      refine w_is (fun w => Below.refl _ w) _ (.inr ⟨40, 98, true, rfl, rfl, known_is rfl⟩) (fun ρ w hC hc hfn hf => by have e9 : ρ (.tmp 9) = _ := hf 9 (by decide); (conv => lhs; simp [execOp, go_sem, hc, e9])) ?_
      refine w_is (fun w => Below.refl _ w) _ (.inr ⟨40, 98, true, rfl, rfl, known_is rfl⟩) (fun ρ w hC hc hfn hf => by have e2 : ρ (.tmp 2) = _ := hf 2 (by decide); (conv => lhs; simp [execOp, go_sem, hc, e2])) ?_
      refine w_call (Is _) (fun _ _ _ h _ => h) 18 (.inr ⟨40, 98, true, rfl, rfl, known_is rfl⟩) (fun ρ w hC hc hfn hf => by have e99 : ρ (.tmp 99) = _ := hf 99 (by decide); have e100 : ρ (.tmp 100) = _ := hf 100 (by decide); exact ⟨_, by (conv => lhs; simp [execOp, resolve, invoke, go_sem, hc, hfn, e99, e100]), tc_below hC (cI w hC)⟩) ?_
      refine w_is (fun w => Below.refl _ w) _ (.inl rfl) (fun ρ w hC hc hfn hf => by have e98 : ρ (.tmp 98) = _ := hf 98 (by decide); have e101 : ρ (.tmp 101) = _ := hf 101 (by decide); (conv => lhs; simp [execOp, go_sem, hc, e98, e101])) ?_
      refine w_is (fun w => Below.refl _ w) _ (.inl rfl) (fun ρ w hC hc hfn hf => by have e102 : ρ (.tmp 102) = _ := hf 102 (by decide); (conv => lhs; simp [execOp, go_sem, hc, e102])) ?_
      intro A VX hC hn hd hf
      have y0 : A.eval (.tmp 0) = _ := Eq.trans (hf 0) (by conv => lhs; simp [go_sem])
      have y1 : A.eval (.tmp 1) = _ := Eq.trans (hf 1) (by conv => lhs; simp [go_sem])
      have y2 : A.eval (.tmp 2) = _ := Eq.trans (hf 2) (by conv => lhs; simp [go_sem])
      have y3 : A.eval (.tmp 3) = _ := Eq.trans (hf 3) (by conv => lhs; simp [go_sem])
      have y4 : A.eval (.tmp 4) = _ := Eq.trans (hf 4) (by conv => lhs; simp [go_sem])
      have y5 : A.eval (.tmp 5) = _ := Eq.trans (hf 5) (by conv => lhs; simp [go_sem])
      have y6 : A.eval (.tmp 6) = _ := Eq.trans (hf 6) (by conv => lhs; simp [go_sem])
      have y7 : A.eval (.tmp 7) = _ := Eq.trans (hf 7) (by conv => lhs; simp [go_sem])
      have y8 : A.eval (.tmp 8) = _ := hf 8
      have y9 : A.eval (.tmp 9) = _ := Eq.trans (hf 9) (by conv => lhs; simp [go_sem])
      have y10 : A.eval (.tmp 10) = _ := Eq.trans (hf 10) (by conv => lhs; simp [go_sem])
      have y11 : A.eval (.tmp 11) = _ := Eq.trans (hf 11) (by conv => lhs; simp [go_sem])
      have y12 : A.eval (.tmp 12) = _ := Eq.trans (hf 12) (by conv => lhs; simp [go_sem])
      have y13 : A.eval (.tmp 13) = _ := Eq.trans (hf 13) (by conv => lhs; simp [go_sem])
      have y14 : A.eval (.tmp 14) = _ := Eq.trans (hf 14) (by conv => lhs; simp [go_sem])
      have y15 : A.eval (.tmp 15) = _ := Eq.trans (hf 15) (by conv => lhs; simp [go_sem])
      have y16 : A.eval (.tmp 16) = _ := Eq.trans (hf 16) (by conv => lhs; simp [go_sem])
      have y17 : A.eval (.tmp 17) = _ := Eq.trans (hf 17) (by conv => lhs; simp [go_sem])
      have y18 : A.eval (.tmp 18) = _ := Eq.trans (hf 18) (by conv => lhs; simp [go_sem])
      have y19 : A.eval (.tmp 19) = _ := Eq.trans (hf 19) (by conv => lhs; simp [go_sem])
      have y20 : A.eval (.tmp 20) = _ := Eq.trans (hf 20) (by conv => lhs; simp [go_sem])
      have y21 : A.eval (.tmp 21) = _ := Eq.trans (hf 21) (by conv => lhs; simp [go_sem])
      have y22 : A.eval (.tmp 22) = _ := Eq.trans (hf 22) (by conv => lhs; simp [go_sem])
      have y23 : A.eval (.tmp 23) = _ := Eq.trans (hf 23) (by conv => lhs; simp [go_sem])
      have y24 : A.eval (.tmp 24) = _ := Eq.trans (hf 24) (by conv => lhs; simp [go_sem])
      have y25 : A.eval (.tmp 25) = _ := Eq.trans (hf 25) (by conv => lhs; simp [go_sem])
      have y26 : A.eval (.tmp 26) = _ := Eq.trans (hf 26) (by conv => lhs; simp [go_sem])
      have y27 : A.eval (.tmp 27) = _ := Eq.trans (hf 27) (by conv => lhs; simp [go_sem])
      have y28 : A.eval (.tmp 28) = _ := Eq.trans (hf 28) (by conv => lhs; simp [go_sem])
      have y29 : A.eval (.tmp 29) = _ := Eq.trans (hf 29) (by conv => lhs; simp [go_sem])
      have y30 : A.eval (.tmp 30) = _ := Eq.trans (hf 30) (by conv => lhs; simp [go_sem])
      have y31 : A.eval (.tmp 31) = _ := Eq.trans (hf 31) (by conv => lhs; simp [go_sem])
      have y32 : A.eval (.tmp 32) = _ := Eq.trans (hf 32) (by conv => lhs; simp [go_sem])
      have y33 : A.eval (.tmp 33) = _ := Eq.trans (hf 33) (by conv => lhs; simp [go_sem])
      have y34 : A.eval (.tmp 34) = _ := Eq.trans (hf 34) (by conv => lhs; simp [go_sem])
      have y35 : A.eval (.tmp 35) = _ := Eq.trans (hf 35) (by conv => lhs; simp [go_sem])
      have y36 : A.eval (.tmp 36) = _ := Eq.trans (hf 36) (by conv => lhs; simp [go_sem])
      have y37 : A.eval (.tmp 37) = _ := Eq.trans (hf 37) (by conv => lhs; simp [go_sem])
      have y38 : A.eval (.tmp 38) = _ := Eq.trans (hf 38) (by conv => lhs; simp [go_sem])
      have y39 : A.eval (.tmp 39) = _ := Eq.trans (hf 39) (by conv => lhs; simp [go_sem])
      have y40 : A.eval (.tmp 40) = _ := Eq.trans (hf 40) (by conv => lhs; simp [go_sem])
      have y41 : A.eval (.tmp 41) = _ := Eq.trans (hf 41) (by conv => lhs; simp [go_sem])
      have y42 : A.eval (.tmp 42) = _ := Eq.trans (hf 42) (by conv => lhs; simp [go_sem])
      have y43 : A.eval (.tmp 43) = _ := Eq.trans (hf 43) (by conv => lhs; simp [go_sem])
      have y44 : A.eval (.tmp 44) = _ := Eq.trans (hf 44) (by conv => lhs; simp [go_sem])
      have y45 : A.eval (.tmp 45) = _ := Eq.trans (hf 45) (by conv => lhs; simp [go_sem])
      have y46 : A.eval (.tmp 46) = _ := Eq.trans (hf 46) (by conv => lhs; simp [go_sem])
      have y47 : A.eval (.tmp 47) = _ := Eq.trans (hf 47) (by conv => lhs; simp [go_sem])
      have y48 : A.eval (.tmp 48) = _ := Eq.trans (hf 48) (by conv => lhs; simp [go_sem])
      have y49 : A.eval (.tmp 49) = _ := Eq.trans (hf 49) (by conv => lhs; simp [go_sem])
      have y50 : A.eval (.tmp 50) = _ := Eq.trans (hf 50) (by conv => lhs; simp [go_sem])
      have y51 : A.eval (.tmp 51) = _ := Eq.trans (hf 51) (by conv => lhs; simp [go_sem])
      have y52 : A.eval (.tmp 52) = _ := Eq.trans (hf 52) (by conv => lhs; simp [go_sem])
      have y53 : A.eval (.tmp 53) = _ := Eq.trans (hf 53) (by conv => lhs; simp [go_sem])
      have y54 : A.eval (.tmp 54) = _ := Eq.trans (hf 54) (by conv => lhs; simp [go_sem])
      have y55 : A.eval (.tmp 55) = _ := Eq.trans (hf 55) (by conv => lhs; simp [go_sem])
      have y56 : A.eval (.tmp 56) = _ := Eq.trans (hf 56) (by conv => lhs; simp [go_sem])
      have y57 : A.eval (.tmp 57) = _ := Eq.trans (hf 57) (by conv => lhs; simp [go_sem])
      have y58 : A.eval (.tmp 58) = _ := hf 58
      have y59 : A.eval (.tmp 59) = _ := hf 59
      have y60 : A.eval (.tmp 60) = _ := hf 60
      have y61 : A.eval (.tmp 61) = _ := hf 61
      have y62 : A.eval (.tmp 62) = _ := hf 62
      have y63 : A.eval (.tmp 63) = _ := hf 63
      have y64 : A.eval (.tmp 64) = _ := hf 64
      have y65 : A.eval (.tmp 65) = _ := hf 65
      have y66 : A.eval (.tmp 66) = _ := hf 66
      have y67 : A.eval (.tmp 67) = _ := hf 67
      have y68 : A.eval (.tmp 68) = _ := hf 68
      have y69 : A.eval (.tmp 69) = _ := hf 69
      have y70 : A.eval (.tmp 70) = _ := hf 70
      have y71 : A.eval (.tmp 71) = _ := hf 71
      have y72 : A.eval (.tmp 72) = _ := hf 72
      have y73 : A.eval (.tmp 73) = _ := hf 73
      have y74 : A.eval (.tmp 74) = _ := hf 74
      have y75 : A.eval (.tmp 75) = _ := hf 75
      have y76 : A.eval (.tmp 76) = _ := hf 76
      have y77 : A.eval (.tmp 77) = _ := hf 77
      have y78 : A.eval (.tmp 78) = _ := hf 78
      have y79 : A.eval (.tmp 79) = _ := hf 79
      have y80 : A.eval (.tmp 80) = _ := hf 80
      have y81 : A.eval (.tmp 81) = _ := hf 81
      have y82 : A.eval (.tmp 82) = _ := hf 82
      have y83 : A.eval (.tmp 83) = _ := hf 83
      have y84 : A.eval (.tmp 84) = _ := hf 84
      have y85 : A.eval (.tmp 85) = _ := hf 85
      have y86 : A.eval (.tmp 86) = _ := hf 86
      have y87 : A.eval (.tmp 87) = _ := hf 87
      have y88 : A.eval (.tmp 88) = _ := hf 88
      have y89 : A.eval (.tmp 89) = _ := hf 89
      have y90 : A.eval (.tmp 90) = _ := hf 90
      have y91 : A.eval (.tmp 91) = _ := hf 91
      have y92 : A.eval (.tmp 92) = _ := hf 92
      have y93 : A.eval (.tmp 93) = _ := hf 93
      have y94 : A.eval (.tmp 94) = _ := hf 94
      have y95 : A.eval (.tmp 95) = _ := hf 95
      have y96 : A.eval (.tmp 96) = _ := hf 96
      have y97 : A.eval (.tmp 97) = _ := hf 97
      have y98 : A.eval (.tmp 98) = _ := hf 98
      have y99 : A.eval (.tmp 99) = _ := hf 99
      have y100 : A.eval (.tmp 100) = _ := hf 100
      have y101 : A.eval (.tmp 101) = _ := hf 101
      have y102 : A.eval (.tmp 102) = _ := hf 102
      clear hf
      have hA := frame_eq hn
      rw [show List.range 103 = [0, 1, 2, 3, 4, 5, 6, 7, 8, 9, 10, 11, 12, 13, 14, 15, 16, 17, 18, 19, 20, 21, 22, 23, 24, 25, 26, 27, 28, 29, 30, 31, 32, 33, 34, 35, 36, 37, 38, 39, 40, 41, 42, 43, 44, 45, 46, 47, 48, 49, 50, 51, 52, 53, 54, 55, 56, 57, 58, 59, 60, 61, 62, 63, 64, 65, 66, 67, 68, 69, 70, 71, 72, 73, 74, 75, 76, 77, 78, 79, 80, 81, 82, 83, 84, 85, 86, 87, 88, 89, 90, 91, 92, 93, 94, 95, 96, 97, 98, 99, 100, 101, 102] from rfl, hd] at hA
      simp only [List.map_cons, List.map_nil, y0, y1, y2, y3, y4, y5, y6, y7, y8, y9, y10, y11, y12, y13, y14, y15, y16, y17, y18, y19, y20, y21, y22, y23, y24, y25, y26, y27, y28, y29, y30, y31, y32, y33, y34, y35, y36, y37, y38, y39, y40, y41, y42, y43, y44, y45, y46, y47, y48, y49, y50, y51, y52, y53, y54, y55, y56, y57, y58, y59, y60, y61, y62, y63, y64, y65, y66, y67, y68, y69, y70, y71, y72, y73, y74, y75, y76, y77, y78, y79, y80, y81, y82, y83, y84, y85, y86, y87, y88, y89, y90, y91, y92, y93, y94, y95, y96, y97, y98, y99, y100, y101, y102] at hA
      clear y0 y1 y2 y3 y4 y5 y6 y7 y8 y9 y10 y11 y12 y13 y14 y15 y16 y17 y18 y19 y20 y21 y22 y23 y24 y25 y26 y27 y28 y29 y30 y31 y32 y33 y34 y35 y36 y37 y38 y39 y40 y41 y42 y43 y44 y45 y46 y47 y48 y49 y50 y51 y52 y53 y54 y55 y56 y57 y58 y59 y60 y61 y62 y63 y64 y65 y66 y67 y68 y69 y70 y71 y72 y73 y74 y75 y76 y77 y78 y79 y80 y81 y82 y83 y84 y85 y86 y87 y88 y89 y90 y91 y92 y93 y94 y95 y96 y97 y98 y99 y100 y101 y102
      clear hn hd
      subst hA
      go_wp2_with fail
      go_ret
      exact ⟨rfl, HB.out.trans (hC.mono HB.out.size)⟩
    | false =>
      have hk : (KC == 0) = false := hQ.symm
      refine wp_region_typed (C := fun w' => Below V9.heap.size V9 w') (X := fun w w' => Below w.heap.size w w') (n := 103) (by kernel_rfl) (by kernel_rfl) rfl (fun w => Below.refl _ w) (Below.refl _ _).drew ?_
      refine w_call (Is _) (fun _ _ _ h _ => h) 13 (.inl rfl) (fun ρ w hC hc hfn hf => by exact ⟨_, by (conv => lhs; simp [execOp, resolve, invoke, go_sem, hc, hfn]), tc_below hC (awake7 w)⟩) ?_
      refine w_is (fun w => Below.refl _ w) _ (.inl rfl) (fun ρ w hC hc hfn hf => by have e58 : ρ (.tmp 58) = _ := hf 58 (by decide); (conv => lhs; simp [execOp, go_sem, hc, e58])) ?_
      refine w_is (fun w => Below.refl _ w) _ (.inr ⟨1, 59, true, rfl, rfl, known_is rfl⟩) (fun ρ w hC hc hfn hf => by have e0 : ρ (.tmp 0) = _ := hf 0 (by decide); (conv => lhs; simp [execOp, go_sem, hc, e0])) ?_
      refine w_call (Is _) (fun _ _ _ h _ => h) 14 (.inr ⟨1, 59, true, rfl, rfl, known_is rfl⟩) (fun ρ w hC hc hfn hf => by have e60 : ρ (.tmp 60) = _ := hf 60 (by decide); exact ⟨_, by (conv => lhs; simp [execOp, resolve, invoke, go_sem, hc, hfn, e60]), tc_below hC (cK w hC)⟩) ?_
      refine w_is (fun w => Below.refl _ w) _ (.inr ⟨1, 59, true, rfl, rfl, known_is rfl⟩) (fun ρ w hC hc hfn hf => by have e61 : ρ (.tmp 61) = _ := hf 61 (by decide); (conv => lhs; simp [execOp, go_sem, hc, e61, hk])) ?_
      refine w_is (fun w => Below.refl _ w) _ (.inr ⟨1, 59, true, rfl, rfl, known_is rfl⟩) (fun ρ w hC hc hfn hf => by have e0 : ρ (.tmp 0) = _ := hf 0 (by decide); (conv => lhs; simp [execOp, go_sem, hc, e0])) ?_
      refine w_call (Is _) (fun _ _ _ h _ => h) 15 (.inr ⟨1, 59, true, rfl, rfl, known_is rfl⟩) (fun ρ w hC hc hfn hf => by have e63 : ρ (.tmp 63) = _ := hf 63 (by decide); exact ⟨_, by (conv => lhs; simp [execOp, resolve, invoke, go_sem, hc, hfn, e63]), tc_below hC (cR w hC)⟩) ?_
      refine w_is (fun w => Below.refl _ w) _ (.inr ⟨1, 59, true, rfl, rfl, known_is rfl⟩) (fun ρ w hC hc hfn hf => by have e62 : ρ (.tmp 62) = _ := hf 62 (by decide); have e64 : ρ (.tmp 64) = _ := hf 64 (by decide); (conv => lhs; simp [execOp, go_sem, hc, e62, e64])) ?_
      refine w_is (fun w => Below.refl _ w) _ (.inl rfl) (fun ρ w hC hc hfn hf => by have e59 : ρ (.tmp 59) = _ := hf 59 (by decide); have e65 : ρ (.tmp 65) = _ := hf 65 (by decide); (conv => lhs; simp [execOp, go_sem, hc, e59, e65])) ?_
      refine w_is (fun w => Below.refl _ w) _ (.inl rfl) (fun ρ w hC hc hfn hf => by have e66 : ρ (.tmp 66) = _ := hf 66 (by decide); (conv => lhs; simp [execOp, go_sem, hc, e66])) ?_
      refine w_is (fun w => Below.refl _ w) _ (.inr ⟨9, 67, true, rfl, rfl, known_is rfl⟩) (fun ρ w hC hc hfn hf => by have e10 : ρ (.tmp 10) = _ := hf 10 (by decide); (conv => lhs; simp [execOp, go_sem, hc, e10])) ?_
      refine w_is (fun w => Below.refl _ w) _ (.inr ⟨9, 67, true, rfl, rfl, known_is rfl⟩) (fun ρ w hC hc hfn hf => by have e68 : ρ (.tmp 68) = _ := hf 68 (by decide); (conv => lhs; simp [execOp, go_sem, hc, e68, hc1 w hC])) ?_
      refine w_is (fun w => Below.refl _ w) _ (.inr ⟨9, 67, true, rfl, rfl, known_is rfl⟩) (fun ρ w hC hc hfn hf => by have e12 : ρ (.tmp 12) = _ := hf 12 (by decide); (conv => lhs; simp [execOp, go_sem, hc, e12])) ?_
      refine w_is (fun w => Below.refl _ w) _ (.inr ⟨9, 67, true, rfl, rfl, known_is rfl⟩) (fun ρ w hC hc hfn hf => by have e70 : ρ (.tmp 70) = _ := hf 70 (by decide); (conv => lhs; simp [execOp, go_sem, hc, e70, hc2 w hC])) ?_
      refine w_is (fun w => Below.refl _ w) _ (.inr ⟨9, 67, true, rfl, rfl, known_is rfl⟩) (fun ρ w hC hc hfn hf => by have e69 : ρ (.tmp 69) = _ := hf 69 (by decide); have e71 : ρ (.tmp 71) = _ := hf 71 (by decide); (conv => lhs; simp [execOp, go_sem, hc, e69, e71])) ?_
      refine w_is (fun w => Below.refl _ w) _ (.inl rfl) (fun ρ w hC hc hfn hf => by have e67 : ρ (.tmp 67) = _ := hf 67 (by decide); have e72 : ρ (.tmp 72) = _ := hf 72 (by decide); (conv => lhs; simp [execOp, go_sem, hc, e67, e72])) ?_
      refine w_is (fun w => Below.refl _ w) _ (.inl rfl) (fun ρ w hC hc hfn hf => by have e73 : ρ (.tmp 73) = _ := hf 73 (by decide); (conv => lhs; simp [execOp, go_sem, hc, e73])) ?_
      refine w_is (fun w => Below.refl _ w) _ (.inr ⟨16, 74, true, rfl, rfl, known_is rfl⟩) (fun ρ w hC hc hfn hf => by have e11 : ρ (.tmp 11) = _ := hf 11 (by decide); (conv => lhs; simp [execOp, go_sem, hc, e11])) ?_
      refine w_is (fun w => Below.refl _ w) _ (.inr ⟨16, 74, true, rfl, rfl, known_is rfl⟩) (fun ρ w hC hc hfn hf => by have e13 : ρ (.tmp 13) = _ := hf 13 (by decide); (conv => lhs; simp [execOp, go_sem, hc, e13])) ?_
      refine w_is (fun w => Below.refl _ w) _ (.inr ⟨16, 74, true, rfl, rfl, known_is rfl⟩) (fun ρ w hC hc hfn hf => by have e75 : ρ (.tmp 75) = _ := hf 75 (by decide); have e76 : ρ (.tmp 76) = _ := hf 76 (by decide); (conv => lhs; simp [execOp, go_sem, hc, e75, e76])) ?_
      refine w_is (fun w => Below.refl _ w) _ (.inl rfl) (fun ρ w hC hc hfn hf => by have e74 : ρ (.tmp 74) = _ := hf 74 (by decide); have e77 : ρ (.tmp 77) = _ := hf 77 (by decide); (conv => lhs; simp [execOp, go_sem, hc, e74, e77])) ?_
      refine w_is (fun w => Below.refl _ w) _ (.inl rfl) (fun ρ w hC hc hfn hf => by have e78 : ρ (.tmp 78) = _ := hf 78 (by decide); (conv => lhs; simp [execOp, go_sem, hc, e78])) ?_
      refine w_is (fun w => Below.refl _ w) _ (.inr ⟨21, 79, true, rfl, rfl, known_is rfl⟩) (fun ρ w hC hc hfn hf => by have e14 : ρ (.tmp 14) = _ := hf 14 (by decide); (conv => lhs; simp [execOp, go_sem, hc, e14, kc w hC])) ?_
      refine w_is (fun w => Below.refl _ w) _ (.inr ⟨21, 79, true, rfl, rfl, known_is rfl⟩) (fun ρ w hC hc hfn hf => by have e16 : ρ (.tmp 16) = _ := hf 16 (by decide); (conv => lhs; simp [execOp, go_sem, hc, e16, kc w hC])) ?_
      refine w_is (fun w => Below.refl _ w) _ (.inr ⟨21, 79, true, rfl, rfl, known_is rfl⟩) (fun ρ w hC hc hfn hf => by have e80 : ρ (.tmp 80) = _ := hf 80 (by decide); have e81 : ρ (.tmp 81) = _ := hf 81 (by decide); (conv => lhs; simp [execOp, go_sem, hc, e80, e81, hEq w, guardAK])) ?_
      refine w_is (fun w => Below.refl _ w) _ (.inl rfl) (fun ρ w hC hc hfn hf => by have e79 : ρ (.tmp 79) = _ := hf 79 (by decide); have e82 : ρ (.tmp 82) = _ := hf 82 (by decide); (conv => lhs; simp [execOp, go_sem, hc, e79, e82])) ?_
      refine w_is (fun w => Below.refl _ w) _ (.inl rfl) (fun ρ w hC hc hfn hf => by have e83 : ρ (.tmp 83) = _ := hf 83 (by decide); (conv => lhs; simp [execOp, go_sem, hc, e83])) ?_
      refine w_is (fun w => Below.refl _ w) _ (.inr ⟨26, 84, true, rfl, rfl, known_is rfl⟩) (fun ρ w hC hc hfn hf => by have e15 : ρ (.tmp 15) = _ := hf 15 (by decide); (conv => lhs; simp [execOp, go_sem, hc, e15])) ?_
      refine w_is (fun w => Below.refl _ w) _ (.inr ⟨26, 84, true, rfl, rfl, known_is rfl⟩) (fun ρ w hC hc hfn hf => by have e17 : ρ (.tmp 17) = _ := hf 17 (by decide); (conv => lhs; simp [execOp, go_sem, hc, e17])) ?_
      refine w_is (fun w => Below.refl _ w) _ (.inr ⟨26, 84, true, rfl, rfl, known_is rfl⟩) (fun ρ w hC hc hfn hf => by have e85 : ρ (.tmp 85) = _ := hf 85 (by decide); have e86 : ρ (.tmp 86) = _ := hf 86 (by decide); (conv => lhs; simp [execOp, go_sem, hc, e85, e86])) ?_
      refine w_is (fun w => Below.refl _ w) _ (.inl rfl) (fun ρ w hC hc hfn hf => by have e84 : ρ (.tmp 84) = _ := hf 84 (by decide); have e87 : ρ (.tmp 87) = _ := hf 87 (by decide); (conv => lhs; simp [execOp, go_sem, hc, e84, e87])) ?_
      refine w_is (fun w => Below.refl _ w) _ (.inl rfl) (fun ρ w hC hc hfn hf => by have e88 : ρ (.tmp 88) = _ := hf 88 (by decide); (conv => lhs; simp [execOp, go_sem, hc, e88])) ?_
      refine w_is (fun w => Below.refl _ w) _ (.inr ⟨31, 89, true, rfl, rfl, known_is rfl⟩) (fun ρ w hC hc hfn hf => by have e18 : ρ (.tmp 18) = _ := hf 18 (by decide); (conv => lhs; simp [execOp, go_sem, hc, e18, kc w hC])) ?_
      refine w_is (fun w => Below.refl _ w) _ (.inr ⟨31, 89, true, rfl, rfl, known_is rfl⟩) (fun ρ w hC hc hfn hf => by have e3 : ρ (.tmp 3) = _ := hf 3 (by decide); (conv => lhs; simp [execOp, go_sem, hc, e3])) ?_
      refine w_call (Is _) (fun _ _ _ h _ => h) 16 (.inr ⟨31, 89, true, rfl, rfl, known_is rfl⟩) (fun ρ w hC hc hfn hf => by have e90 : ρ (.tmp 90) = _ := hf 90 (by decide); have e91 : ρ (.tmp 91) = _ := hf 91 (by decide); exact ⟨_, by (conv => lhs; simp [execOp, resolve, invoke, go_sem, hc, hfn, e90, e91]), tc_below hC (cH w)⟩) ?_
      refine w_is (fun w => Below.refl _ w) _ (.inr ⟨31, 89, true, rfl, rfl, known_is rfl⟩) (fun ρ w hC hc hfn hf => by have e18 : ρ (.tmp 18) = _ := hf 18 (by decide); (conv => lhs; simp [execOp, go_sem, hc, e18, kc w hC])) ?_
      refine w_is (fun w => Below.refl _ w) _ (.inr ⟨31, 89, true, rfl, rfl, known_is rfl⟩) (fun ρ w hC hc hfn hf => by have e3 : ρ (.tmp 3) = _ := hf 3 (by decide); (conv => lhs; simp [execOp, go_sem, hc, e3])) ?_
      refine w_call (Is _) (fun _ _ _ h _ => h) 17 (.inr ⟨31, 89, true, rfl, rfl, known_is rfl⟩) (fun ρ w hC hc hfn hf => by have e93 : ρ (.tmp 93) = _ := hf 93 (by decide); have e94 : ρ (.tmp 94) = _ := hf 94 (by decide); exact ⟨_, by (conv => lhs; simp [execOp, resolve, invoke, go_sem, hc, hfn, e93, e94]), tc_below hC (cG w)⟩) ?_
      refine w_is (fun w => Below.refl _ w) _ (.inr ⟨31, 89, true, rfl, rfl, known_is rfl⟩) (fun ρ w hC hc hfn hf => by have e92 : ρ (.tmp 92) = _ := hf 92 (by decide); have e95 : ρ (.tmp 95) = _ := hf 95 (by decide); (conv => lhs; simp [execOp, go_sem, hc, e92, e95])) ?_
      refine w_is (fun w => Below.refl _ w) _ (.inl rfl) (fun ρ w hC hc hfn hf => by have e89 : ρ (.tmp 89) = _ := hf 89 (by decide); have e96 : ρ (.tmp 96) = _ := hf 96 (by decide); (conv => lhs; simp [execOp, go_sem, hc, e89, e96])) ?_
      refine w_is (fun w => Below.refl _ w) _ (.inl rfl) (fun ρ w hC hc hfn hf => by have e97 : ρ (.tmp 97) = _ := hf 97 (by decide); (conv => lhs; simp [execOp, go_sem, hc, e97])) ?_
      refine w_is (fun w => Below.refl _ w) _ (.inr ⟨40, 98, true, rfl, rfl, known_is rfl⟩) (fun ρ w hC hc hfn hf => by have e9 : ρ (.tmp 9) = _ := hf 9 (by decide); (conv => lhs; simp [execOp, go_sem, hc, e9])) ?_
      refine w_is (fun w => Below.refl _ w) _ (.inr ⟨40, 98, true, rfl, rfl, known_is rfl⟩) (fun ρ w hC hc hfn hf => by have e2 : ρ (.tmp 2) = _ := hf 2 (by decide); (conv => lhs; simp [execOp, go_sem, hc, e2])) ?_
      refine w_call (Is _) (fun _ _ _ h _ => h) 18 (.inr ⟨40, 98, true, rfl, rfl, known_is rfl⟩) (fun ρ w hC hc hfn hf => by have e99 : ρ (.tmp 99) = _ := hf 99 (by decide); have e100 : ρ (.tmp 100) = _ := hf 100 (by decide); exact ⟨_, by (conv => lhs; simp [execOp, resolve, invoke, go_sem, hc, hfn, e99, e100]), tc_below hC (cI w hC)⟩) ?_
      refine w_is (fun w => Below.refl _ w) _ (.inl rfl) (fun ρ w hC hc hfn hf => by have e98 : ρ (.tmp 98) = _ := hf 98 (by decide); have e101 : ρ (.tmp 101) = _ := hf 101 (by decide); (conv => lhs; simp [execOp, go_sem, hc, e98, e101])) ?_
      refine w_is (fun w => Below.refl _ w) _ (.inl rfl) (fun ρ w hC hc hfn hf => by have e102 : ρ (.tmp 102) = _ := hf 102 (by decide); (conv => lhs; simp [execOp, go_sem, hc, e102])) ?_
      intro A VX hC hn hd hf
      have y0 : A.eval (.tmp 0) = _ := Eq.trans (hf 0) (by conv => lhs; simp [go_sem])
      have y1 : A.eval (.tmp 1) = _ := Eq.trans (hf 1) (by conv => lhs; simp [go_sem])
      have y2 : A.eval (.tmp 2) = _ := Eq.trans (hf 2) (by conv => lhs; simp [go_sem])
      have y3 : A.eval (.tmp 3) = _ := Eq.trans (hf 3) (by conv => lhs; simp [go_sem])
      have y4 : A.eval (.tmp 4) = _ := Eq.trans (hf 4) (by conv => lhs; simp [go_sem])
      have y5 : A.eval (.tmp 5) = _ := Eq.trans (hf 5) (by conv => lhs; simp [go_sem])
      have y6 : A.eval (.tmp 6) = _ := Eq.trans (hf 6) (by conv => lhs; simp [go_sem])
      have y7 : A.eval (.tmp 7) = _ := Eq.trans (hf 7) (by conv => lhs; simp [go_sem])
      have y8 : A.eval (.tmp 8) = _ := hf 8
      have y9 : A.eval (.tmp 9) = _ := Eq.trans (hf 9) (by conv => lhs; simp [go_sem])
      have y10 : A.eval (.tmp 10) = _ := Eq.trans (hf 10) (by conv => lhs; simp [go_sem])
      have y11 : A.eval (.tmp 11) = _ := Eq.trans (hf 11) (by conv => lhs; simp [go_sem])
      have y12 : A.eval (.tmp 12) = _ := Eq.trans (hf 12) (by conv => lhs; simp [go_sem])
      have y13 : A.eval (.tmp 13) = _ := Eq.trans (hf 13) (by conv => lhs; simp [go_sem])
      have y14 : A.eval (.tmp 14) = _ := Eq.trans (hf 14) (by conv => lhs; simp [go_sem])
      have y15 : A.eval (.tmp 15) = _ := Eq.trans (hf 15) (by conv => lhs; simp [go_sem])
      have y16 : A.eval (.tmp 16) = _ := Eq.trans (hf 16) (by conv => lhs; simp [go_sem])
      have y17 : A.eval (.tmp 17) = _ := Eq.trans (hf 17) (by conv => lhs; simp [go_sem])
      have y18 : A.eval (.tmp 18) = _ := Eq.trans (hf 18) (by conv => lhs; simp [go_sem])
      have y19 : A.eval (.tmp 19) = _ := Eq.trans (hf 19) (by conv => lhs; simp [go_sem])
      have y20 : A.eval (.tmp 20) = _ := Eq.trans (hf 20) (by conv => lhs; simp [go_sem])
      have y21 : A.eval (.tmp 21) = _ := Eq.trans (hf 21) (by conv => lhs; simp [go_sem])
      have y22 : A.eval (.tmp 22) = _ := Eq.trans (hf 22) (by conv => lhs; simp [go_sem])
      have y23 : A.eval (.tmp 23) = _ := Eq.trans (hf 23) (by conv => lhs; simp [go_sem])
      have y24 : A.eval (.tmp 24) = _ := Eq.trans (hf 24) (by conv => lhs; simp [go_sem])
      have y25 : A.eval (.tmp 25) = _ := Eq.trans (hf 25) (by conv => lhs; simp [go_sem])
      have y26 : A.eval (.tmp 26) = _ := Eq.trans (hf 26) (by conv => lhs; simp [go_sem])
      have y27 : A.eval (.tmp 27) = _ := Eq.trans (hf 27) (by conv => lhs; simp [go_sem])
      have y28 : A.eval (.tmp 28) = _ := Eq.trans (hf 28) (by conv => lhs; simp [go_sem])
      have y29 : A.eval (.tmp 29) = _ := Eq.trans (hf 29) (by conv => lhs; simp [go_sem])
      have y30 : A.eval (.tmp 30) = _ := Eq.trans (hf 30) (by conv => lhs; simp [go_sem])
      have y31 : A.eval (.tmp 31) = _ := Eq.trans (hf 31) (by conv => lhs; simp [go_sem])
      have y32 : A.eval (.tmp 32) = _ := Eq.trans (hf 32) (by conv => lhs; simp [go_sem])
      have y33 : A.eval (.tmp 33) = _ := Eq.trans (hf 33) (by conv => lhs; simp [go_sem])
      have y34 : A.eval (.tmp 34) = _ := Eq.trans (hf 34) (by conv => lhs; simp [go_sem])
      have y35 : A.eval (.tmp 35) = _ := Eq.trans (hf 35) (by conv => lhs; simp [go_sem])
      have y36 : A.eval (.tmp 36) = _ := Eq.trans (hf 36) (by conv => lhs; simp [go_sem])
      have y37 : A.eval (.tmp 37) = _ := Eq.trans (hf 37) (by conv => lhs; simp [go_sem])
      have y38 : A.eval (.tmp 38) = _ := Eq.trans (hf 38) (by conv => lhs; simp [go_sem])
      have y39 : A.eval (.tmp 39) = _ := Eq.trans (hf 39) (by conv => lhs; simp [go_sem])
      have y40 : A.eval (.tmp 40) = _ := Eq.trans (hf 40) (by conv => lhs; simp [go_sem])
      have y41 : A.eval (.tmp 41) = _ := Eq.trans (hf 41) (by conv => lhs; simp [go_sem])
      have y42 : A.eval (.tmp 42) = _ := Eq.trans (hf 42) (by conv => lhs; simp [go_sem])
      have y43 : A.eval (.tmp 43) = _ := Eq.trans (hf 43) (by conv => lhs; simp [go_sem])
      have y44 : A.eval (.tmp 44) = _ := Eq.trans (hf 44) (by conv => lhs; simp [go_sem])
      have y45 : A.eval (.tmp 45) = _ := Eq.trans (hf 45) (by conv => lhs; simp [go_sem])
      have y46 : A.eval (.tmp 46) = _ := Eq.trans (hf 46) (by conv => lhs; simp [go_sem])
      have y47 : A.eval (.tmp 47) = _ := Eq.trans (hf 47) (by conv => lhs; simp [go_sem])
      have y48 : A.eval (.tmp 48) = _ := Eq.trans (hf 48) (by conv => lhs; simp [go_sem])
      have y49 : A.eval (.tmp 49) = _ := Eq.trans (hf 49) (by conv => lhs; simp [go_sem])
      have y50 : A.eval (.tmp 50) = _ := Eq.trans (hf 50) (by conv => lhs; simp [go_sem])
      have y51 : A.eval (.tmp 51) = _ := Eq.trans (hf 51) (by conv => lhs; simp [go_sem])
      have y52 : A.eval (.tmp 52) = _ := Eq.trans (hf 52) (by conv => lhs; simp [go_sem])
      have y53 : A.eval (.tmp 53) = _ := Eq.trans (hf 53) (by conv => lhs; simp [go_sem])
      have y54 : A.eval (.tmp 54) = _ := Eq.trans (hf 54) (by conv => lhs; simp [go_sem])
      have y55 : A.eval (.tmp 55) = _ := Eq.trans (hf 55) (by conv => lhs; simp [go_sem])
      have y56 : A.eval (.tmp 56) = _ := Eq.trans (hf 56) (by conv => lhs; simp [go_sem])
      have y57 : A.eval (.tmp 57) = _ := Eq.trans (hf 57) (by conv => lhs; simp [go_sem])
      have y58 : A.eval (.tmp 58) = _ := hf 58
      have y59 : A.eval (.tmp 59) = _ := hf 59
      have y60 : A.eval (.tmp 60) = _ := hf 60
      have y61 : A.eval (.tmp 61) = _ := hf 61
      have y62 : A.eval (.tmp 62) = _ := hf 62
      have y63 : A.eval (.tmp 63) = _ := hf 63
      have y64 : A.eval (.tmp 64) = _ := hf 64
      have y65 : A.eval (.tmp 65) = _ := hf 65
      have y66 : A.eval (.tmp 66) = _ := hf 66
      have y67 : A.eval (.tmp 67) = _ := hf 67
      have y68 : A.eval (.tmp 68) = _ := hf 68
      have y69 : A.eval (.tmp 69) = _ := hf 69
      have y70 : A.eval (.tmp 70) = _ := hf 70
      have y71 : A.eval (.tmp 71) = _ := hf 71
      have y72 : A.eval (.tmp 72) = _ := hf 72
      have y73 : A.eval (.tmp 73) = _ := hf 73
      have y74 : A.eval (.tmp 74) = _ := hf 74
      have y75 : A.eval (.tmp 75) = _ := hf 75
      have y76 : A.eval (.tmp 76) = _ := hf 76
      have y77 : A.eval (.tmp 77) = _ := hf 77
      have y78 : A.eval (.tmp 78) = _ := hf 78
      have y79 : A.eval (.tmp 79) = _ := hf 79
      have y80 : A.eval (.tmp 80) = _ := hf 80
      have y81 : A.eval (.tmp 81) = _ := hf 81
      have y82 : A.eval (.tmp 82) = _ := hf 82
      have y83 : A.eval (.tmp 83) = _ := hf 83
      have y84 : A.eval (.tmp 84) = _ := hf 84
      have y85 : A.eval (.tmp 85) = _ := hf 85
      have y86 : A.eval (.tmp 86) = _ := hf 86
      have y87 : A.eval (.tmp 87) = _ := hf 87
      have y88 : A.eval (.tmp 88) = _ := hf 88
      have y89 : A.eval (.tmp 89) = _ := hf 89
      have y90 : A.eval (.tmp 90) = _ := hf 90
      have y91 : A.eval (.tmp 91) = _ := hf 91
      have y92 : A.eval (.tmp 92) = _ := hf 92
      have y93 : A.eval (.tmp 93) = _ := hf 93
      have y94 : A.eval (.tmp 94) = _ := hf 94
      have y95 : A.eval (.tmp 95) = _ := hf 95
      have y96 : A.eval (.tmp 96) = _ := hf 96
      have y97 : A.eval (.tmp 97) = _ := hf 97
      have y98 : A.eval (.tmp 98) = _ := hf 98
      have y99 : A.eval (.tmp 99) = _ := hf 99
      have y100 : A.eval (.tmp 100) = _ := hf 100
      have y101 : A.eval (.tmp 101) = _ := hf 101
      have y102 : A.eval (.tmp 102) = _ := hf 102
      clear hf
      have hA := frame_eq hn
      rw [show List.range 103 = [0, 1, 2, 3, 4, 5, 6, 7, 8, 9, 10, 11, 12, 13, 14, 15, 16, 17, 18, 19, 20, 21, 22, 23, 24, 25, 26, 27, 28, 29, 30, 31, 32, 33, 34, 35, 36, 37, 38, 39, 40, 41, 42, 43, 44, 45, 46, 47, 48, 49, 50, 51, 52, 53, 54, 55, 56, 57, 58, 59, 60, 61, 62, 63, 64, 65, 66, 67, 68, 69, 70, 71, 72, 73, 74, 75, 76, 77, 78, 79, 80, 81, 82, 83, 84, 85, 86, 87, 88, 89, 90, 91, 92, 93, 94, 95, 96, 97, 98, 99, 100, 101, 102] from rfl, hd] at hA
      simp only [List.map_cons, List.map_nil, y0, y1, y2, y3, y4, y5, y6, y7, y8, y9, y10, y11, y12, y13, y14, y15, y16, y17, y18, y19, y20, y21, y22, y23, y24, y25, y26, y27, y28, y29, y30, y31, y32, y33, y34, y35, y36, y37, y38, y39, y40, y41, y42, y43, y44, y45, y46, y47, y48, y49, y50, y51, y52, y53, y54, y55, y56, y57, y58, y59, y60, y61, y62, y63, y64, y65, y66, y67, y68, y69, y70, y71, y72, y73, y74, y75, y76, y77, y78, y79, y80, y81, y82, y83, y84, y85, y86, y87, y88, y89, y90, y91, y92, y93, y94, y95, y96, y97, y98, y99, y100, y101, y102] at hA
      clear y0 y1 y2 y3 y4 y5 y6 y7 y8 y9 y10 y11 y12 y13 y14 y15 y16 y17 y18 y19 y20 y21 y22 y23 y24 y25 y26 y27 y28 y29 y30 y31 y32 y33 y34 y35 y36 y37 y38 y39 y40 y41 y42 y43 y44 y45 y46 y47 y48 y49 y50 y51 y52 y53 y54 y55 y56 y57 y58 y59 y60 y61 y62 y63 y64 y65 y66 y67 y68 y69 y70 y71 y72 y73 y74 y75 y76 y77 y78 y79 y80 y81 y82 y83 y84 y85 y86 y87 y88 y89 y90 y91 y92 y93 y94 y95 y96 y97 y98 y99 y100 y101 y102
      clear hn hd
      subst hA
      go_wp2_with fail
      go_ret
      exact ⟨rfl, HB.out.trans (hC.mono HB.out.size)⟩
theorem walk (a0 : Option Addr) (cap0 : Nat) (z0 : List (Int × Int × Int × Int)) (a1 : Int) (w1 : I64 a1) (a2 : Option Addr) (len2 cap2 : Nat) (z2 : List Int) (a3 : Int) (w3 : I64 a3) (w : World) (r0 : As w (.slice a0 z0.length cap0) z0) (r2 : IsRow .i64 w a2 len2 cap2 z2) :
    Calls Try.prog 3 #[.slice a0 z0.length cap0, .int .i64 a1, .slice a2 len2 cap2, .int .i64 a3] w fun e w' => e = .returned (.bool true) ∧ Below w.heap.size w w' := by
  obtain ⟨b2, e2⟩ := is_of r2
  by_cases h : z0.length ≤ 100 ∧ len2 ≤ 100
  · by_cases hq : AksOk z0
    · exact case_ok a0 cap0 z0 a1 a2 len2 cap2 a3 w _ r0 b2 e2 h.1 h.2 (ofX a1) (ofM a1 _) (ofE a1) (byE z0) (byA z0) 0 true rfl (Nat.le_trans (byA_len z0) (by decide))
        (fun W v hv => of_fix a1 v _ W hv (by omega)) (fun W v hv => rof_fix a1 v _ W hv (by omega)) (fun W v hv => bytes_fix v z0 W hv (by omega)) (fun W v hv => rbytes_fix v z0 W hv (by omega))
        (fun W v hv => akcheck_fix v z0 true ⟨fun _ => hq, fun _ => rfl⟩ W hv (by omega)) (fun W v hv => raright_fix v z0 true ⟨fun _ => hq, fun _ => rfl⟩ W hv (by omega))
    · exact case_ok a0 cap0 z0 a1 a2 len2 cap2 a3 w _ r0 b2 e2 h.1 h.2 (ofX a1) (ofM a1 _) (ofE a1) (byE z0) (byA z0) 1 false rfl (Nat.le_trans (byA_len z0) (by decide))
        (fun W v hv => of_fix a1 v _ W hv (by omega)) (fun W v hv => rof_fix a1 v _ W hv (by omega)) (fun W v hv => bytes_fix v z0 W hv (by omega)) (fun W v hv => rbytes_fix v z0 W hv (by omega))
        (fun W v hv => akcheck_fix v z0 false ⟨fun h => (by cases h), fun h => absurd h hq⟩ W hv (by omega)) (fun W v hv => raright_fix v z0 false ⟨fun h => (by cases h), fun h => absurd h hq⟩ W hv (by omega))
  · exact early a0 cap0 z0 a1 a2 len2 cap2 a3 w h

set_option maxRecDepth 100000 in
theorem lifted (os : _root_.Go.Os) (started : os.Started) (H : Type) (enc : TypeId × Value → H) :
    ReturnsInHanded {} Try.checked os 3 .any (Rows.ackDoesSpec.pre6 enc Try.prog Try.f3 Rows.ackDoesRow.domain false) (Rows.ackDoesSpec.post enc Try.prog Try.f3 false true false false) := by
  refine returnsInHanded_of_change (C := Try.checked) own started (by kernel_rfl) Try.func3
    (ChangeSpec.witness6 (enc := enc) (C := Try.checked) false ⟨#[], #[.slice none 0 0, .int .i64 0, .slice none 0 0, .int .i64 0], []⟩ 16 (by kernel_rfl) (by kernel_rfl) (by kernel_rfl) (by kernel_rfl)) ?_
  intro W base args ds gs before hval0 hW hcnd _
  have hval : ∀ (j : Nat) t v, Try.f3.params[j]? = some t → args[j]? = some v → Value.okWide Try.prog W .any base t v := hval0
  have hW' := hW
  obtain ⟨p, q, hA0, hV, rfl, hfz, hnd⟩ := hW
  have hA : DataW.TrodAll enc Try.prog W 0 (fun _ => true) true Try.f3.params.toList args.toList ds p := hA0
  rw [Try.params3] at hA hval
  obtain ⟨v0, vs0, e0, ds0, p0, q0, hargs, rfl, rfl, h0, x0⟩ := trodAll_cons hA
  obtain ⟨v1, vs1, e1, ds1, p1, q1, rfl, rfl, rfl, h1, x1⟩ := trodAll_cons x0
  obtain ⟨v2, vs2, e2, ds2, p2, q2, rfl, rfl, rfl, h2, x2⟩ := trodAll_cons x1
  obtain ⟨v3, vs3, e3, ds3, p3, q3, rfl, rfl, rfl, h3, x3⟩ := trodAll_cons x2
  obtain ⟨rfl, rfl, rfl⟩ := trodAll_nil x3
  obtain rfl : args = #[v0, v1, v2, v3] := by cases args; simp_all
  obtain ⟨rfl, rfl⟩ := trodVars_none hV
  have k0 := h0
  have lt0 : ∀ x ∈ p0, x.block < W.heap.size := by obtain ⟨m, hm⟩ := k0; exact DataW.trod_lt m _ _ _ hm
  obtain ⟨a0, len0, cap0, rfl⟩ := okWide_slice underAS (hval 0 22 v0 rfl rfl)
  obtain ⟨z0, hz0, w0⟩ := as_form h0
  subst hz0
  have k1 := h1
  have lt1 : ∀ x ∈ p1, x.block < W.heap.size := by obtain ⟨m, hm⟩ := k1; exact DataW.trod_lt m _ _ _ hm
  obtain ⟨a1, rfl, _, _, w1⟩ := open_int Try.underlying3 (hval 1 3 v1 rfl rfl) h1
  have k2 := h2
  have lt2 : ∀ x ∈ p2, x.block < W.heap.size := by obtain ⟨m, hm⟩ := k2; exact DataW.trod_lt m _ _ _ hm
  obtain ⟨a2, len2, cap2, rfl⟩ := okWide_slice Try.underlying23 (hval 2 23 v2 rfl rfl)
  obtain ⟨z2, w2⟩ : ∃ zs, IsRow .i64 W a2 len2 cap2 zs := by
    obtain ⟨fuel, hf⟩ := h2
    rcases open_ints Try.underlying23 Try.underlying3 (by kernel_rfl) hf with ⟨hcs, _⟩ | ⟨x, l, c, zs, hcs, _, hl, hm, hz, _, hcell, hwz⟩
    · simp [Value.cells] at hcs
      obtain ⟨rfl, rfl, rfl⟩ := hcs
      exact ⟨[], .inl ⟨rfl, rfl, rfl, rfl⟩⟩
    · simp [Value.cells] at hcs
      obtain ⟨rfl, rfl, rfl⟩ := hcs
      exact ⟨zs, .inr ⟨_, rfl, hl, hm, by simpa using hz, hcell, hwz⟩⟩
  have k3 := h3
  have lt3 : ∀ x ∈ p3, x.block < W.heap.size := by obtain ⟨m, hm⟩ := k3; exact DataW.trod_lt m _ _ _ hm
  obtain ⟨a3, rfl, _, _, w3⟩ := open_int Try.underlying3 (hval 3 3 v3 rfl rfl) h3
  clear hA0 hval0
  refine (walk a0 cap0 z0 a1 (i64_wf w1) a2 len2 cap2 z2 a3 (i64_wf w3) W w0 w2).mono fun e W' ⟨he, bel⟩ => ?_
  subst he
  exact ⟨_, rfl, _, _, _, [], _, [], hW', trodAll_mk1 (shut_bool Try.underlying4 _), (trodAll_cons_mk (Below.trod laidOut (by kernel_rfl) (of_decide_eq_true (by kernel_rfl)) k0 bel lt0) (trodAll_cons_mk (Below.trod laidOut (by kernel_rfl) (of_decide_eq_true (by kernel_rfl)) k1 bel lt1) (trodAll_cons_mk (Below.trod laidOut (by kernel_rfl) (of_decide_eq_true (by kernel_rfl)) k2 bel lt2) (trodAll_cons_mk (Below.trod laidOut (by kernel_rfl) (of_decide_eq_true (by kernel_rfl)) k3 bel lt3) trodAll_mk0)))), rfl, bel.frame _, fun h => by cases h⟩

theorem over : Rows.ackDoesRow.holds Try.pinned (OpenSpec.ofChange Rows.ackDoesSpec) :=
  OpenClaim.holds_of_wide 3 Try.f3 rfl rfl rfl rfl rfl rfl rfl ⟨rfl, rfl, rfl, rfl, rfl⟩ rfl rfl rfl rfl rfl (by kernel_rfl) Try.func3 (by kernel_rfl)
    (of_decide_eq_true (by kernel_rfl)) (by unfold Func.isWrapper; first | (rw [if_pos (by decide +kernel)]; kernel_rfl) | (rw [if_neg (by decide +kernel)]; exact ⟨rfl, rfl⟩))
    (fun os started H enc _ => lifted os started H enc)

theorem proved : Rows.AckDoesSaid := over
#print axioms proved
end Go.Proofs.Ytipdjfgaenoepaa.ackDoes
