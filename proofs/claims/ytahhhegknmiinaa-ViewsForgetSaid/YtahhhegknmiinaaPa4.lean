/- The program's views: where an Id's place is. Conditions on lengths, and that the views are right. -/
import Derived.Test.YtahhhegknmiinaaPa3
import Derived.Test.YtahhhegknmiinaaVmu
import Derived.Test.YtahhhegknmiinaaSk4
namespace Go.Proofs.Ytahhhegknmiinaa
set_option maxRecDepth 100000
open Go.RowKit

theorem varo1_any (y : Vw) (id : Int) (w : World) : Calls Try.prog 53 #[vwV y, .int .i64 id] w fun e w' => e = .returned (.int .i64 (cmpI y.1 id)) ∧ Below w.heap.size w w' := by
  obtain ⟨V, hV⟩ : ∃ V, w.alloc (.cells #[.int .i64 y.1, .bool y.2.1, .int .i64 y.2.2.1, .int .i64 y.2.2.2.1, .int .i64 y.2.2.2.2.1, .int .i64 y.2.2.2.2.2.1, .int .i64 y.2.2.2.2.2.2] 40) = V := ⟨_, rfl⟩
  have hb0 : Below w.heap.size w V := hV ▸ (Below.refl _ w).alloc (Nat.le_refl _) _
  have d0 : V.cell? ⟨w.heap.size, 0, none⟩ = some (.int .i64 y.1) := by rw [← hV]; simp
  have HB := Lib.hid hb0
  have HV := Lib.hid hV
  have C := Lib.hid (fun W => compare_any y.1 id W)
  clear hb0 hV
  go_enter Try.func53, Try.ntmps53
  go_upto_region 1 with (fail)
  rw [HV.out]
  go_wp2_with fail
  refine (C.out _).mono ?_
  rintro e w1 ⟨rfl, rfl⟩
  go_wp2_with fail
  go_ret
  exact ⟨rfl, HB.out⟩
theorem cmpI_ge {x y : Int} (h : ¬ x < y) : ¬ cmpI x y < 0 := by
  unfold cmpI
  rw [if_neg h]
  split <;> omega
theorem cmpI_zero {x y : Int} : cmpI x y = 0 ↔ x = y := by
  unfold cmpI
  by_cases h : x < y
  · rw [if_pos h]; constructor <;> intro h2 <;> omega
  · rw [if_neg h]
    by_cases h3 : y < x
    · rw [if_pos h3]; constructor <;> intro h2 <;> omega
    · rw [if_neg h3]; constructor <;> intro h2 <;> omega
/-- Where an Id's place is: the Ids ahead of it are less, those from it on are not. -/
def PlaceAt (l : List Vw) (id : Int) (p : Nat) : Prop := p ≤ l.length ∧ (∀ i, i < p → (l.getD i zVw).1 < id) ∧ ∀ i, p ≤ i → i < l.length → id ≤ (l.getD i zVw).1
def fndB (l : List Vw) (id : Int) (p : Nat) : Bool := decide (p < l.length ∧ (l.getD p zVw).1 = id)
theorem rise_at {l : List Vw} (h : Rise l) {i j : Nat} (hij : i < j) (hj : j < l.length) : (l.getD i zVw).1 < (l.getD j zVw).1 := by
  have := List.pairwise_iff_getElem.1 h i j (by omega) hj hij
  simpa [List.getD, hj, show i < l.length by omega] using this
set_option maxHeartbeats 8000000 in
theorem bsf_any (v : Value) (l : List Vw) (id : Int) (w : World) (h : Vs w v l) (hr : Rise l) (hl : l.length ≤ 1000) :
    Calls Try.prog 52 #[v, .int .i64 id, .func (.func 53) #[] #[]] w fun e w' => ∃ p : Nat, e = .returned (.tuple #[.int .i64 p, .bool (fndB l id p)]) ∧ PlaceAt l id p ∧ Below w.heap.size w w' := by
  obtain ⟨a, c, rfl⟩ := h.form
  have HV := Lib.hid h
  have HR := Lib.hid hr
  clear h hr
  go_enter Try.func52, Try.ntmps52
  go_wp2_with fail
  go_loopw [9, 10] (fun i j wr => ∃ s t : Nat, i = .int .i64 s ∧ j = .int .i64 t ∧ s ≤ t ∧ t ≤ l.length ∧ Hid (∀ i, i < s → (l.getD i zVw).1 < id) ∧ Hid (∀ i, t ≤ i → i < l.length → id ≤ (l.getD i zVw).1) ∧ Hid (Below w.heap.size w wr)) (fun i j _ => (intOf j).toNat - (intOf i).toNat)
  case atStart => exact ⟨0, l.length, rfl, rfl, Nat.zero_le _, Nat.le_refl _, fun i h => absurd h (Nat.not_lt_zero _), fun i h1 h2 => by omega, Below.refl _ _⟩
  case round =>
    obtain ⟨s, t, rfl, rfl, hst, ht, H1, H2, HB⟩ := hrel
    by_cases hlt : s < t
    · have hltz : (s : Int) < (t : Int) := by omega
      obtain ⟨hh0, hh⟩ : ∃ hh0, hh0 = (s + t) / 2 := ⟨_, rfl⟩
      have rA : IntKind.i64.wrap ((s : Int) + (t : Int)) = (s : Int) + (t : Int) := by rw [IntKind.wrap_i64]; omega
      have rB : IntKind.u64.wrap ((s : Int) + (t : Int)) = (s : Int) + (t : Int) := by exact wrap_u (s + t) (by omega)
      have rC : IntKind.i64.wrap (((s : Int) + (t : Int)) / 2) = (hh0 : Int) := by rw [IntKind.wrap_i64]; omega
      have r1 : IntKind.i64.wrap ((hh0 : Int) + 1) = (hh0 : Int) + 1 := by rw [IntKind.wrap_i64]; omega
      have h3 : s ≤ hh0 ∧ hh0 < t := by omega
      have hhl : hh0 < l.length := by omega
      obtain ⟨b2, off, rfl, hB, p0, p1, p2, p3, p4, p5, p6⟩ := (HV.out.below HB.out).at hhl
      obtain ⟨y, hy⟩ : ∃ y, l.getD hh0 zVw = y := ⟨_, rfl⟩
      rw [hy] at p0 p1 p2 p3 p4 p5 p6
      have HY := Lib.hid hy
      have H3 := Lib.hid h3
      clear hy h3 hh
      have C := Lib.hid (fun W => varo1_any y id W)
      by_cases hv : y.1 < id
      · rw [cmpI_lt hv] at C
        have HVV := Lib.hid hv
        clear hv
        go_wp2_with fail
        refine (C.out _).mono ?_
        rintro e w1 ⟨rfl, hb⟩
        have HB1 := Lib.hid (HB.out.trans (hb.mono HB.out.size))
        clear hb p0 p1 p2 p3 p4 p5 p6 hB HB
        go_wp2_with fail
        go_roundw
        case rel =>
          refine ⟨hh0 + 1, t, by go_num, rfl, by have := H3.out; omega, ht, ?_, H2, HB1⟩
          intro i hi
          by_cases e : i = hh0
          · subst e; rw [HY.out]; exact HVV.out
          · exact Int.lt_trans (rise_at HR.out (show i < hh0 by omega) hhl) (by rw [HY.out]; exact HVV.out)
        case measure => have := H3.out; simp [intOf]; omega
      · obtain ⟨z, hz⟩ : ∃ z, cmpI y.1 id = z := ⟨_, rfl⟩
        have hz0 : ¬ z < 0 := hz ▸ cmpI_ge hv
        rw [hz] at C
        have HVV := Lib.hid hv
        clear hv hz
        go_wp2_with fail
        refine (C.out _).mono ?_
        rintro e w1 ⟨rfl, hb⟩
        have HB1 := Lib.hid (HB.out.trans (hb.mono HB.out.size))
        clear hb p0 p1 p2 p3 p4 p5 p6 hB HB
        go_wp2_with fail
        go_roundw
        case rel =>
          refine ⟨s, hh0, rfl, rfl, by have := H3.out; omega, by omega, H1, ?_, HB1⟩
          intro i hi hil
          have h9 : id ≤ (l.getD hh0 zVw).1 := by rw [HY.out]; have := HVV.out; omega
          by_cases e : i = hh0
          · subst e; exact h9
          · exact Int.le_trans h9 (Int.le_of_lt (rise_at HR.out (show hh0 < i by omega) hil))
        case measure => have := H3.out; simp [intOf]; omega
    · obtain rfl : s = t := by omega
      have hltz : ¬ (s : Int) < (s : Int) := by omega
      have HPL : Hid (PlaceAt l id s) := ⟨ht, H1.out, H2.out⟩
      by_cases hsl : s < l.length
      · have hsz : (s : Int) < (l.length : Int) := by omega
        obtain ⟨b2, off, rfl, hB, p0, p1, p2, p3, p4, p5, p6⟩ := (HV.out.below HB.out).at hsl
        obtain ⟨y, hy⟩ : ∃ y, l.getD s zVw = y := ⟨_, rfl⟩
        rw [hy] at p0 p1 p2 p3 p4 p5 p6
        have HY := Lib.hid hy
        clear hy
        have C := Lib.hid (fun W => varo1_any y id W)
        obtain ⟨z, hz⟩ : ∃ z, cmpI y.1 id = z := ⟨_, rfl⟩
        have hzi : (z == 0) = fndB l id s := by
          rw [← hz]
          unfold fndB
          rw [HY.out]
          by_cases h : y.1 = id
          · rw [cmpI_eq h, decide_eq_true ⟨hsl, h⟩]; rfl
          · rw [decide_eq_false (fun h2 => h h2.2)]
            simpa using fun h2 => h (cmpI_zero.1 h2)
        rw [hz] at C
        have HZI := Lib.hid hzi
        clear hz hltz hlt hzi
        go_wp2_with fail
        refine (C.out _).mono ?_
        rintro e w1 ⟨rfl, hb⟩
        have HB1 := Lib.hid (HB.out.trans (hb.mono HB.out.size))
        clear hb p0 p1 p2 p3 p4 p5 p6 hB HB
        go_wp2_with fail
        exact bodyPost_ret (v := .tuple #[.int .i64 s, .bool (z == 0)]) (by simp [results, Try.results52, go_sem]) rfl ⟨s, by rw [HZI.out], HPL.out, HB1.out⟩
      · have hsz : ¬ (s : Int) < (l.length : Int) := by omega
        have hsn : fndB l id s = false := decide_eq_false fun h => hsl h.1
        have HSN := Lib.hid hsn
        clear hltz hlt hsn
        go_wp2_with fail
        exact bodyPost_ret (v := .tuple #[.int .i64 s, .bool false]) (by simp [results, Try.results52, go_sem]) rfl ⟨s, by rw [HSN.out], HPL.out, HB.out⟩
end Go.Proofs.Ytahhhegknmiinaa
