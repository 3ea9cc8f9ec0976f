/- The program's views: where an Id's place is. Conditions on lengths, and that the views are right. The program's views: what is ahead of an Id's place, and behind it. Conditions on lengths, and that the views are right. slices.Grow of none, slices.Concat of rows of views. Conditions on lengths. The program's views: Set, Drop. Conditions on lengths. The program's views: Check, Set of views of any length. -/
import Derived.Test.YtmimgpnogjgliaaPb
import Derived.Test.YtmimgpnogjgliaaVb
import Derived.Test.YtmimgpnogjgliaaSk4
import Derived.BigQuiet
import Derived.Lib.AppendZerosOnto
namespace Go.Proofs.Ytmimgpnogjgliaa
set_option maxRecDepth 100000
open Go.RowKit

theorem varo1_any (y : Vw) (id : Int) (w : World) : Calls Try.prog 65 #[vwV y, .int .i64 id] w fun e w' => e = .returned (.int .i64 (cmpI y.1 id)) ∧ Below w.heap.size w w' := by
  obtain ⟨V, hV⟩ : ∃ V, w.alloc (.cells #[.int .i64 y.1, .bool y.2.1, .int .i64 y.2.2.1, .int .i64 y.2.2.2.1, .int .i64 y.2.2.2.2.1, .int .i64 y.2.2.2.2.2.1, .int .i64 y.2.2.2.2.2.2] 43) = V := ⟨_, rfl⟩
  have hb0 : Below w.heap.size w V := hV ▸ (Below.refl _ w).alloc (Nat.le_refl _) _
  have d0 : V.cell? ⟨w.heap.size, 0, none⟩ = some (.int .i64 y.1) := by rw [← hV]; simp
  have HB := Lib.hid hb0
  have HV := Lib.hid hV
  have C := Lib.hid (fun W => compare_any y.1 id W)
  clear hb0 hV
  go_enter Try.func65, Try.ntmps65
  go_upto_region 1 with (fail)
  rw [HV.out]
  go_wp2_with fail
  refine (C.out _).mono ?_
  rintro e w1 ⟨rfl, rfl⟩
  go_wp2_with fail
  go_ret
  exact ⟨rfl, HB.out⟩
theorem cmpI_ge {x y : Int} (h : ¬ x < y) : ¬ cmpI x y < 0 := by
  unfold cmpI
  rw [if_neg h]
  split <;> omega
theorem cmpI_zero {x y : Int} : cmpI x y = 0 ↔ x = y := by
  unfold cmpI
  by_cases h : x < y
  · rw [if_pos h]; constructor <;> intro h2 <;> omega
  · rw [if_neg h]
    by_cases h3 : y < x
    · rw [if_pos h3]; constructor <;> intro h2 <;> omega
    · rw [if_neg h3]; constructor <;> intro h2 <;> omega
/-- Where an Id's place is: the Ids ahead of it are less, those from it on are not. -/
def PlaceAt (l : List Vw) (id : Int) (p : Nat) : Prop := p ≤ l.length ∧ (∀ i, i < p → (l.getD i zVw).1 < id) ∧ ∀ i, p ≤ i → i < l.length → id ≤ (l.getD i zVw).1
def fndB (l : List Vw) (id : Int) (p : Nat) : Bool := decide (p < l.length ∧ (l.getD p zVw).1 = id)
theorem rise_at {l : List Vw} (h : Rise l) {i j : Nat} (hij : i < j) (hj : j < l.length) : (l.getD i zVw).1 < (l.getD j zVw).1 := by
  have := List.pairwise_iff_getElem.1 h i j (by omega) hj hij
  simpa [List.getD, hj, show i < l.length by omega] using this
set_option maxHeartbeats 8000000 in
theorem bsf_any (v : Value) (l : List Vw) (id : Int) (w : World) (h : Vs w v l) (hr : Rise l) (hl : l.length ≤ 1000) :
    Calls Try.prog 64 #[v, .int .i64 id, .func (.func 65) #[] #[]] w fun e w' => ∃ p : Nat, e = .returned (.tuple #[.int .i64 p, .bool (fndB l id p)]) ∧ PlaceAt l id p ∧ Below w.heap.size w w' := by
  obtain ⟨a, c, rfl⟩ := h.form
  have HV := Lib.hid h
  have HR := Lib.hid hr
  clear h hr
  go_enter Try.func64, Try.ntmps64
  go_wp2_with fail
  go_loopw [9, 10] (fun i j wr => ∃ s t : Nat, i = .int .i64 s ∧ j = .int .i64 t ∧ s ≤ t ∧ t ≤ l.length ∧ Hid (∀ i, i < s → (l.getD i zVw).1 < id) ∧ Hid (∀ i, t ≤ i → i < l.length → id ≤ (l.getD i zVw).1) ∧ Hid (Below w.heap.size w wr)) (fun i j _ => (intOf j).toNat - (intOf i).toNat)
  case atStart => exact ⟨0, l.length, rfl, rfl, Nat.zero_le _, Nat.le_refl _, fun i h => absurd h (Nat.not_lt_zero _), fun i h1 h2 => by omega, Below.refl _ _⟩
  case round =>
    obtain ⟨s, t, rfl, rfl, hst, ht, H1, H2, HB⟩ := hrel
    by_cases hlt : s < t
    · have hltz : (s : Int) < (t : Int) := by omega
      obtain ⟨hh0, hh⟩ : ∃ hh0, hh0 = (s + t) / 2 := ⟨_, rfl⟩
      have rA : IntKind.i64.wrap ((s : Int) + (t : Int)) = (s : Int) + (t : Int) := by rw [IntKind.wrap_i64]; omega
      have rB : IntKind.u64.wrap ((s : Int) + (t : Int)) = (s : Int) + (t : Int) := by exact wrap_u (s + t) (by omega)
      have rC : IntKind.i64.wrap (((s : Int) + (t : Int)) / 2) = (hh0 : Int) := by rw [IntKind.wrap_i64]; omega
      have r1 : IntKind.i64.wrap ((hh0 : Int) + 1) = (hh0 : Int) + 1 := by rw [IntKind.wrap_i64]; omega
      have h3 : s ≤ hh0 ∧ hh0 < t := by omega
      have hhl : hh0 < l.length := by omega
      obtain ⟨b2, off, rfl, hB, p0, p1, p2, p3, p4, p5, p6⟩ := (HV.out.below HB.out).at hhl
      obtain ⟨y, hy⟩ : ∃ y, l.getD hh0 zVw = y := ⟨_, rfl⟩
      rw [hy] at p0 p1 p2 p3 p4 p5 p6
      have HY := Lib.hid hy
      have H3 := Lib.hid h3
      clear hy h3 hh
      have C := Lib.hid (fun W => varo1_any y id W)
      by_cases hv : y.1 < id
      · rw [cmpI_lt hv] at C
        have HVV := Lib.hid hv
        clear hv
        go_wp2_with fail
        refine (C.out _).mono ?_
        rintro e w1 ⟨rfl, hb⟩
        have HB1 := Lib.hid (HB.out.trans (hb.mono HB.out.size))
        clear hb p0 p1 p2 p3 p4 p5 p6 hB HB
        go_wp2_with fail
        go_roundw
        case rel =>
          refine ⟨hh0 + 1, t, by go_num, rfl, by have := H3.out; omega, ht, ?_, H2, HB1⟩
          intro i hi
          by_cases e : i = hh0
          · subst e; rw [HY.out]; exact HVV.out
          · exact Int.lt_trans (rise_at HR.out (show i < hh0 by omega) hhl) (by rw [HY.out]; exact HVV.out)
        case measure => have := H3.out; simp [intOf]; omega
      · obtain ⟨z, hz⟩ : ∃ z, cmpI y.1 id = z := ⟨_, rfl⟩
        have hz0 : ¬ z < 0 := hz ▸ cmpI_ge hv
        rw [hz] at C
        have HVV := Lib.hid hv
        clear hv hz
        go_wp2_with fail
        refine (C.out _).mono ?_
        rintro e w1 ⟨rfl, hb⟩
        have HB1 := Lib.hid (HB.out.trans (hb.mono HB.out.size))
        clear hb p0 p1 p2 p3 p4 p5 p6 hB HB
        go_wp2_with fail
        go_roundw
        case rel =>
          refine ⟨s, hh0, rfl, rfl, by have := H3.out; omega, by omega, H1, ?_, HB1⟩
          intro i hi hil
          have h9 : id ≤ (l.getD hh0 zVw).1 := by rw [HY.out]; have := HVV.out; omega
          by_cases e : i = hh0
          · subst e; exact h9
          · exact Int.le_trans h9 (Int.le_of_lt (rise_at HR.out (show hh0 < i by omega) hil))
        case measure => have := H3.out; simp [intOf]; omega
    · obtain rfl : s = t := by omega
      have hltz : ¬ (s : Int) < (s : Int) := by omega
      have HPL : Hid (PlaceAt l id s) := ⟨ht, H1.out, H2.out⟩
      by_cases hsl : s < l.length
      · have hsz : (s : Int) < (l.length : Int) := by omega
        obtain ⟨b2, off, rfl, hB, p0, p1, p2, p3, p4, p5, p6⟩ := (HV.out.below HB.out).at hsl
        obtain ⟨y, hy⟩ : ∃ y, l.getD s zVw = y := ⟨_, rfl⟩
        rw [hy] at p0 p1 p2 p3 p4 p5 p6
        have HY := Lib.hid hy
        clear hy
        have C := Lib.hid (fun W => varo1_any y id W)
        obtain ⟨z, hz⟩ : ∃ z, cmpI y.1 id = z := ⟨_, rfl⟩
        have hzi : (z == 0) = fndB l id s := by
          rw [← hz]
          unfold fndB
          rw [HY.out]
          by_cases h : y.1 = id
          · rw [cmpI_eq h, decide_eq_true ⟨hsl, h⟩]; rfl
          · rw [decide_eq_false (fun h2 => h h2.2)]
            simpa using fun h2 => h (cmpI_zero.1 h2)
        rw [hz] at C
        have HZI := Lib.hid hzi
        clear hz hltz hlt hzi
        go_wp2_with fail
        refine (C.out _).mono ?_
        rintro e w1 ⟨rfl, hb⟩
        have HB1 := Lib.hid (HB.out.trans (hb.mono HB.out.size))
        clear hb p0 p1 p2 p3 p4 p5 p6 hB HB
        go_wp2_with fail
        exact bodyPost_ret (v := .tuple #[.int .i64 s, .bool (z == 0)]) (by simp [results, Try.results64, go_sem]) rfl ⟨s, by rw [HZI.out], HPL.out, HB1.out⟩
      · have hsz : ¬ (s : Int) < (l.length : Int) := by omega
        have hsn : fndB l id s = false := decide_eq_false fun h => hsl h.1
        have HSN := Lib.hid hsn
        clear hltz hlt hsn
        go_wp2_with fail
        exact bodyPost_ret (v := .tuple #[.int .i64 s, .bool false]) (by simp [results, Try.results64, go_sem]) rfl ⟨s, by rw [HSN.out], HPL.out, HB.out⟩
end Go.Proofs.Ytmimgpnogjgliaa

namespace Go.Proofs.Ytmimgpnogjgliaa
set_option maxRecDepth 100000
open Go.RowKit

/-- The views of lesser Ids; of greater ones. -/
def lowP (l : List Vw) (id : Int) : List Vw := l.filter (fun y => decide (y.1 < id))
def highP (l : List Vw) (id : Int) : List Vw := l.filter (fun y => decide (id < y.1))
theorem take_at {l : List Vw} {p : Nat} {y : Vw} (h : y ∈ l.take p) : ∃ i, i < p ∧ i < l.length ∧ l.getD i zVw = y := by
  obtain ⟨i, hi, rfl⟩ := List.mem_iff_getElem.1 h
  rw [List.length_take] at hi
  exact ⟨i, by omega, by omega, by simp [List.getD, show i < l.length by omega]⟩
theorem drop_at {l : List Vw} {p : Nat} {y : Vw} (h : y ∈ l.drop p) : ∃ i, p ≤ i ∧ i < l.length ∧ l.getD i zVw = y := by
  obtain ⟨i, hi, rfl⟩ := List.mem_iff_getElem.1 h
  rw [List.length_drop] at hi
  exact ⟨p + i, by omega, by omega, by simp [List.getD, show p + i < l.length by omega]⟩
theorem place_low {l : List Vw} {id : Int} {p : Nat} (h : PlaceAt l id p) : l.take p = lowP l id := by
  have e : lowP l id = lowP (l.take p) id ++ lowP (l.drop p) id := by unfold lowP; rw [← List.filter_append, List.take_append_drop]
  have e1 : lowP (l.take p) id = l.take p := List.filter_eq_self.2 fun y hy => by
    obtain ⟨i, h1, h2, rfl⟩ := take_at hy
    exact decide_eq_true (h.2.1 i h1)
  have e2 : lowP (l.drop p) id = [] := List.filter_eq_nil_iff.2 fun y hy => by
    obtain ⟨i, h1, h2, rfl⟩ := drop_at hy
    have := h.2.2 i h1 h2
    exact fun h => absurd (of_decide_eq_true h) (by omega)
  rw [e, e1, e2, List.append_nil]
theorem place_high_no {l : List Vw} {id : Int} {p : Nat} (hr : Rise l) (h : PlaceAt l id p) (hf : fndB l id p = false) : l.drop p = highP l id := by
  have e : highP l id = highP (l.take p) id ++ highP (l.drop p) id := by unfold highP; rw [← List.filter_append, List.take_append_drop]
  have e1 : highP (l.take p) id = [] := List.filter_eq_nil_iff.2 fun y hy => by
    obtain ⟨i, h1, h2, rfl⟩ := take_at hy
    have := h.2.1 i h1
    exact fun h => absurd (of_decide_eq_true h) (by omega)
  have e2 : highP (l.drop p) id = l.drop p := List.filter_eq_self.2 fun y hy => by
    obtain ⟨i, h1, h2, rfl⟩ := drop_at hy
    refine decide_eq_true ?_
    have h3 := h.2.2 i h1 h2
    have h4 : ¬ (p < l.length ∧ (l.getD p zVw).1 = id) := of_decide_eq_false hf
    by_cases e : i = p
    · subst e
      have : ¬ (l.getD i zVw).1 = id := fun h5 => h4 ⟨h2, h5⟩
      omega
    · have h5 := rise_at hr (show p < i by omega) h2
      have h6 := h.2.2 p (Nat.le_refl _) (by omega)
      omega
  rw [e, e1, e2, List.nil_append]
theorem place_high_yes {l : List Vw} {id : Int} {p : Nat} (hr : Rise l) (h : PlaceAt l id p) (hf : fndB l id p = true) : l.drop (p + 1) = highP l id := by
  obtain ⟨hp, hy⟩ : p < l.length ∧ (l.getD p zVw).1 = id := of_decide_eq_true hf
  have e : highP l id = highP (l.take (p + 1)) id ++ highP (l.drop (p + 1)) id := by unfold highP; rw [← List.filter_append, List.take_append_drop]
  have e1 : highP (l.take (p + 1)) id = [] := List.filter_eq_nil_iff.2 fun y hy2 => by
    obtain ⟨i, h1, h2, rfl⟩ := take_at hy2
    by_cases e : i = p
    · subst e
      exact fun h => absurd (of_decide_eq_true h) (by omega)
    · have := h.2.1 i (by omega)
      exact fun h => absurd (of_decide_eq_true h) (by omega)
  have e2 : highP (l.drop (p + 1)) id = l.drop (p + 1) := List.filter_eq_self.2 fun y hy2 => by
    obtain ⟨i, h1, h2, rfl⟩ := drop_at hy2
    have := rise_at hr (show p < i by omega) h2
    refine decide_eq_true ?_
    omega
  rw [e, e1, e2, List.nil_append]
theorem Vs.cap {w : World} {a : Option Addr} {c : Nat} {l : List Vw} (h : Vs w (.slice a l.length c) l) : l.length ≤ c := by
  rcases h with ⟨a', cap, h1, h2, rfl⟩ | ⟨b, off, cap, h1, h2, h3, h4⟩
  · exact Nat.zero_le _
  · simp only [Value.slice.injEq] at h1
    omega
theorem Vs.non {w : World} {c : Nat} {l : List Vw} (h : Vs w (.slice none l.length c) l) : l = [] ∧ c = 0 := by
  rcases h with ⟨a', cap, h1, h2, h3⟩ | ⟨b, off, cap, h1, h2, h3, h4⟩
  · simp only [Value.slice.injEq] at h1
    exact ⟨h3, by rw [h1.2.2]; exact h2 h1.1.symm⟩
  · simp only [Value.slice.injEq] at h1
    exact absurd h1.1 (by simp)
section
variable {R : RowT}
theorem gs_take {w : World} {ad : Addr} {c : Nat} {l : List R.α} (h : Gs R w (.slice (some ad) l.length c) l) {p : Nat} (hp : p ≤ l.length) : Gs R w (.slice (some ad) p c) (l.take p) := by
  rcases h with ⟨a', cap, h1, h2, rfl⟩ | ⟨b, off, cap, h1, h2, h3, h4⟩
  · obtain rfl : p = 0 := Nat.le_zero.1 hp
    exact .inl ⟨some ad, c, rfl, ⟨fun h => (by cases h), rfl⟩⟩
  · simp only [Value.slice.injEq] at h1
    obtain ⟨e1, _, e2⟩ := h1
    have hl : (l.take p).length = p := by rw [List.length_take]; omega
    refine .inr ⟨b, off, c, by rw [e1, hl], by rw [hl]; omega, h3, fun i hi => ?_⟩
    rw [hl] at hi
    have := h4 i (by omega)
    rwa [show (l.take p).getD i R.d = l.getD i R.d by simp [List.getD, hi]]
theorem gs_drop {w : World} {ad : Addr} {c : Nat} {l : List R.α} (h : Gs R w (.slice (some ad) l.length c) l) {q : Nat} (hq : q ≤ l.length) : Gs R w (.slice (if c = q then some ad else some (ad.add (q * R.K))) (l.length - q) (c - q)) (l.drop q) := by
  by_cases e : q = l.length
  · have hd : l.drop q = [] := List.drop_eq_nil_of_le (by omega)
    rw [hd]
    refine .inl ⟨_, c - q, by rw [show l.length - q = 0 by omega], fun h => ?_, rfl⟩
    split at h <;> cases h
  · rcases h with ⟨a', cap, h1, h2, rfl⟩ | ⟨b, off, cap, h1, h2, h3, h4⟩
    · simp at hq; simp at e; omega
    · simp only [Value.slice.injEq, Option.some.injEq] at h1
      obtain ⟨rfl, _, e2⟩ := h1
      rw [if_neg (by omega)]
      have hl : (l.drop q).length = l.length - q := List.length_drop
      refine .inr ⟨b, off + q * R.K, c - q, by rw [hl, add_spot'], by rw [hl]; omega, h3, fun i hi => ?_⟩
      rw [hl] at hi
      have h5 := h4 (q + i) (by omega)
      have e3 : (l.drop q).getD i R.d = l.getD (q + i) R.d := by simp [List.getD]
      have e4 : off + q * R.K + i * R.K = off + (q + i) * R.K := by rw [Nat.add_mul]; omega
      rw [e3, e4]
      exact h5
end
theorem vs_take {w : World} {ad : Addr} {c : Nat} {l : List Vw} (h : Vs w (.slice (some ad) l.length c) l) {p : Nat} (hp : p ≤ l.length) : Vs w (.slice (some ad) p c) (l.take p) := gs_take (R := RV) h hp
theorem vs_drop {w : World} {ad : Addr} {c : Nat} {l : List Vw} (h : Vs w (.slice (some ad) l.length c) l) {q : Nat} (hq : q ≤ l.length) : Vs w (.slice (if c = q then some ad else some (ad.add (q * 7))) (l.length - q) (c - q)) (l.drop q) := gs_drop (R := RV) h hq
set_option maxHeartbeats 8000000 in
theorem varo_any (v : Value) (l : List Vw) (id : Int) (w : World) (h : Vs w v l) (hr : Rise l) (hl : l.length ≤ 1000) :
    Calls Try.prog 52 #[v, .int .i64 id] w fun e w' => ∃ r1 r2, e = .returned (.tuple #[r1, r2]) ∧ Vs w' r1 (lowP l id) ∧ Vs w' r2 (highP l id) ∧ Below w.heap.size w w' := by
  have mixed : Try.prog.follows .mixedOrders = true := by kernel_rfl
  have C := Lib.hid (bsf_any _ l id w h hr hl)
  obtain ⟨a, c, rfl⟩ := h.form
  have hcap := h.cap
  cases a with
  | none =>
    obtain ⟨rfl, rfl⟩ := h.non
    have HZ : Hid (lowP [] id = [] ∧ highP [] id = []) := ⟨rfl, rfl⟩
    clear h hr hl hcap
    show Calls Try.prog 52 #[.slice none 0 0, .int .i64 id] w _
    go_enter Try.func52, Try.ntmps52
    go_wp2_with fail
    refine C.out.mono ?_
    rintro e w1 ⟨p, rfl, hp, hb⟩
    obtain rfl : p = 0 := by simpa using hp.1
    have hf : fndB [] id 0 = false := decide_eq_false (by simp)
    have HB := Lib.hid hb
    have HP := Lib.hid hp
    clear hp hb C
    cases hg : fndB [] id 0 with
    | true => rw [hf] at hg; cases hg
    | false =>
      clear hf hg
      go_upto_region 4 with (fail)
      go_quiet (fail)
      have HB2 := Lib.hid (bel_drewN HB.out nq)
      go_wp2_with fail
      refine bodyPost_ret (v := .tuple #[.slice none 0 0, .slice none 0 0]) (by simp [results, Try.results52, go_sem]) rfl ⟨_, _, rfl, ?_, ?_, HB2.out⟩
      · rw [HZ.out.1]; exact Vs_nil _
      · rw [HZ.out.2]; exact Vs_nil _
  | some ad =>
    have HV := Lib.hid h
    have HR := Lib.hid hr
    clear h hr
    go_enter Try.func52, Try.ntmps52
    go_wp2_with fail
    refine C.out.mono ?_
    rintro e w1 ⟨p, rfl, hp, hb⟩
    have HB := Lib.hid hb
    have HP := Lib.hid hp
    have hp1 := hp.1
    clear hp hb C
    have hpz : (p : Int) ≤ (c : Int) := by omega
    have hpl : (p : Int) ≤ (l.length : Int) := by omega
    have hpc : p ≤ c := by omega
    have hpz0 : (0 : Int) ≤ (p : Int) := by omega
    cases hf : fndB l id p with
    | true =>
      have hpl2 : p < l.length := (of_decide_eq_true hf).1
      have w1_ : (p : Int) + 1 ≤ (l.length : Int) := by omega
      have w2_ : (p : Int) + 1 ≤ (c : Int) := by omega
      have w3_ : (0 : Int) ≤ (p : Int) + 1 := by omega
      have w4_ : ((p : Int) + 1).toNat = p + 1 := by omega
      have w5_ : p + 1 ≤ l.length := by omega
      have w6_ : p + 1 ≤ c := by omega
      have r1 : IntKind.i64.wrap ((p : Int) + 1) = (p : Int) + 1 := by rw [IntKind.wrap_i64]; omega
      have HF := Lib.hid hf
      clear hf
      go_upto_region 3 with (fail)
      go_quiet (fail)
      have HB2 := Lib.hid (bel_drewN HB.out nq)
      have e1 := vs_take HV.out (p := p) (by omega)
      have e2 := vs_drop HV.out (q := p + 1) w5_
      rw [place_low HP.out] at e1
      rw [place_high_yes HR.out HP.out HF.out] at e2
      have E1 := Lib.hid (Vs.below e1 HB2.out)
      have E2 := Lib.hid (Vs.below e2 HB2.out)
      clear e1 e2
      generalize (if c = p + 1 then some ad else some (ad.add ((p + 1) * 7))) = ad2 at E2 ⊢
      go_wp2_with fail
      exact bodyPost_ret (v := .tuple #[.slice (some ad) p c, .slice ad2 (l.length - (p + 1)) (c - (p + 1))]) (by simp [results, Try.results52, go_sem]) rfl ⟨_, _, rfl, E1.out, E2.out, HB2.out⟩
    | false =>
      have HF := Lib.hid hf
      clear hf
      go_upto_region 4 with (fail)
      go_quiet (fail)
      have HB2 := Lib.hid (bel_drewN HB.out nq)
      have e1 := vs_take HV.out (p := p) (by omega)
      have e2 := vs_drop HV.out (q := p) hp1
      rw [place_low HP.out] at e1
      rw [place_high_no HR.out HP.out HF.out] at e2
      have E1 := Lib.hid (Vs.below e1 HB2.out)
      have E2 := Lib.hid (Vs.below e2 HB2.out)
      clear e1 e2
      generalize (if c = p then some ad else some (ad.add (p * 7))) = ad2 at E2 ⊢
      go_wp2_with fail
      exact bodyPost_ret (v := .tuple #[.slice (some ad) p c, .slice ad2 (l.length - p) (c - p)]) (by simp [results, Try.results52, go_sem]) rfl ⟨_, _, rfl, E1.out, E2.out, HB2.out⟩
end Go.Proofs.Ytmimgpnogjgliaa

namespace Go.Proofs.Ytmimgpnogjgliaa
set_option maxRecDepth 100000
open Go.RowKit

theorem app_go2 {ops : Array Oper} {rest : List Oper} {o : Oper} {a : Act} {Q : Exit → Act → World → Prop} {w : World} (hg : o.guard = none) (s x : Operand) (t t' : TypeId)
    (hop : o.op = Op.call { callee := Callee.builtin Builtin.append, args := #[s, x], argTypes := #[t, t'] }) (v u r : Value) (w' : World) (hs : a.eval s = v) (hx : a.eval x = u)
    (hr : (Builtin.append_ #[t, t'] o.type #[v, u]).run Try.prog w = .ok r w') (h : wpList Try.prog ops Q rest (a.put o.dst r) w') : wpList Try.prog ops Q (o :: rest) a w := by
  refine wpList_plain hg fun K hK => ?_
  unfold Oper.wp
  have he : (execOp a.eval o).run Try.prog w = .ok (.value r) w' := by
    unfold execOp
    simp only [hop, resolve, invoke, builtin, Sem.run_bind, Sem.run_pure, Result.andThen_ok, List.map_toArray, List.map_cons, List.map_nil, hs, hx, hr]
  rw [he]
  exact hK _ _ h
theorem underTI : Try.prog.underlying 3 = some (.int .i64) := by kernel_rfl
theorem grow_any (n : Nat) (w : World) (hn : n ≤ 3000) : Calls Try.prog 66 #[.slice none 0 0, .int .i64 n] w fun e w' => (∃ a c, e = .returned (.slice a 0 c) ∧ OwV w' w.heap.size (.slice a 0 c) []) ∧ Below w.heap.size w w' := by
  rcases Nat.eq_zero_or_pos n with rfl | h0
  · go_enter Try.func66, Try.ntmps66
    go_wp2_with fail
    go_ret
    exact ⟨⟨none, 0, rfl, OwV_nil w _⟩, Below.refl _ _⟩
  · obtain ⟨i0, hi, hz0, hz1, hz2⟩ := info_parts RV.hinfo
    have hby : n * i0.bytes ≤ 281474976710656 := by
      rw [hz2]
      exact Nat.le_trans (Nat.mul_le_mul_right 56 hn) (by decide)
    have hr : (Builtin.append_ #[22, 3] 22 #[.slice none 0 0, .int .i64 n]).run Try.prog w = _ := Lib.run_append_grow_zeros (P := Try.prog) w 22 3 22 43 i0 RV.zero .i64 .i64 RV.hSL underTI hi hz0 none 0 0 [] (run_firstCells_none w.drew i0.size 0 0 0) n h0 (by rw [hz1]; decide) (by omega) (by omega) hby (by rw [Nat.zero_add, nextslicecap_zero h0]; exact hby)
    obtain ⟨cap, hcap⟩ : ∃ cap, grownCap w (0 + n) 0 43 = cap := ⟨_, rfl⟩
    have hge := grownCap_ge w (0 + n) 0 43
    have hle := grownCap_le_maxLen w (0 + n) 0 43 (by unfold maxLen; omega)
    rw [hcap] at hr hge hle
    have hz : (RV.zero).cells.size = 7 := RV.hz
    obtain ⟨cs, hcs⟩ : ∃ cs, ((([] : List Value).toArray ++ Builtin.zeroCells RV.zero.cells n ++ Builtin.zeroCells RV.zero.cells (cap - (0 + n))) : Array Value) = cs := ⟨_, rfl⟩
    have hsz : cs.size = cap * 7 := by
      rw [← hcs]
      simp only [Array.size_append, List.size_toArray, List.length_nil, size_zeroCells, hz]
      omega
    rw [hcs] at hr
    obtain ⟨V, hV⟩ : ∃ V, w.drew.alloc (.cells cs 43) = V := ⟨_, rfl⟩
    have ho : OwV V w.heap.size (.slice (some ⟨w.heap.size, 0, none⟩) 0 cap) [] := hV ▸ World.ownsRow_made (e := 43) (size := 7) w.drew cs cap (Nat.le_refl _) hle hsz
    have hb : Below w.heap.size w V := hV ▸ ((Below.refl _ w).drew).alloc (Nat.le_refl _) _
    rw [hV, Nat.zero_add] at hr
    have HO := Lib.hid ho
    have HB := Lib.hid hb
    have hn0 : (0 : Int) < (n : Int) := by omega
    have w1_ : IntKind.i64.wrap (n : Int) = (n : Int) := by rw [IntKind.wrap_i64]; omega
    clear hV ho hb hcs hsz hcap hge hle hby hi hz0 hz1 hz2
    go_enter Try.func66, Try.ntmps66
    go_wp2_with (at_builtin; refine app_go2 rfl (.tmp 20) (.tmp 21) 22 3 rfl _ _ _ _ rfl rfl hr ?_)
    go_ret
    exact ⟨⟨_, cap, rfl, HO.out⟩, HB.out⟩
/-- Rows of views, one behind the other. -/
def flatP (ps : List (Value × List Vw)) : List Vw := (ps.map (·.2)).flatten
def dP : Value × List Vw := (.slice none 0 0, [])
theorem flat_step (ps : List (Value × List Vw)) (k : Nat) (h : k < ps.length) : flatP (ps.take (k + 1)) = flatP (ps.take k) ++ (ps.getD k dP).2 := by
  have e : (ps.getD k dP).2 = ps[k].2 := by simp [List.getD, h]
  rw [List.take_add_one, List.getElem?_eq_getElem h, e]
  unfold flatP
  rw [List.map_append, List.flatten_append]
  simp
theorem flat_le (ps : List (Value × List Vw)) (k : Nat) : (flatP (ps.take k)).length ≤ (flatP ps).length := by
  have e : flatP ps = flatP (ps.take k) ++ flatP (ps.drop k) := by unfold flatP; rw [← List.flatten_append, ← List.map_append, List.take_append_drop]
  rw [e, List.length_append]
  omega
/-- A row of such rows. -/
def Pcs (w : World) (g : Nat) (ps : List (Value × List Vw)) : Prop := g < w.heap.size ∧ ∀ i, i < ps.length → w.cell? ⟨g, i, none⟩ = some (ps.getD i dP).1 ∧ Vs w (ps.getD i dP).1 (ps.getD i dP).2
theorem Pcs.below {w w' : World} {g : Nat} {ps : List (Value × List Vw)} (h : Pcs w g ps) (hb : Below w.heap.size w w') : Pcs w' g ps :=
  ⟨Nat.lt_of_lt_of_le h.1 hb.size, fun i hi => ⟨(hb.cell (p := ⟨g, i, none⟩) h.1).trans (h.2 i hi).1, (h.2 i hi).2.below hb⟩⟩
set_option maxHeartbeats 8000000 in
theorem conc_any (g c : Nat) (ps : List (Value × List Vw)) (w : World) (h : Pcs w g ps) (hn : ps.length ≤ 100) (hl : (flatP ps).length ≤ 3000) :
    Calls Try.prog 53 #[.slice (some ⟨g, 0, none⟩) ps.length c] w fun e w' => (∃ r, e = .returned r ∧ OwV w' w.heap.size r (flatP ps)) ∧ Below w.heap.size w w' := by
  have H := Lib.hid h
  clear h
  go_enter Try.func53, Try.ntmps53
  go_wp2_with fail
  go_loopw [3, 11] (fun sv i wr => ∃ k : Nat, k ≤ ps.length ∧ i = .int .i64 k ∧ sv = .int .i64 (flatP (ps.take k)).length ∧ w = wr) (fun _ i _ => ps.length - (intOf i).toNat)
  case atStart => exact ⟨0, Nat.zero_le _, rfl, rfl, rfl⟩
  case round =>
    obtain ⟨k, hk, rfl, rfl, rfl⟩ := hrel
    by_cases hlt : k < ps.length
    · obtain ⟨c0, hv⟩ := H.out.2 k hlt
      have hst := flat_step ps k hlt
      have hfl := flat_le ps (k + 1)
      have hfl0 := flat_le ps k
      obtain ⟨u, hu⟩ : ∃ u, (ps.getD k dP).1 = u := ⟨_, rfl⟩
      obtain ⟨ys, hys⟩ : ∃ ys, (ps.getD k dP).2 = ys := ⟨_, rfl⟩
      rw [hu] at c0 hv
      rw [hys] at hv hst
      clear hu hys
      obtain ⟨a1, c1, rfl⟩ := hv.form
      rw [hst, List.length_append] at hfl
      obtain ⟨m, hm⟩ : ∃ m, (flatP (ps.take k)).length = m := ⟨_, rfl⟩
      have hm2 : (flatP (ps.take (k + 1))).length = m + ys.length := by rw [hst, List.length_append, hm]
      rw [hm] at hfl hfl0 ⊢
      have HM := Lib.hid hm2
      have r1 : IntKind.i64.wrap ((m : Int) + (ys.length : Int)) = (m : Int) + (ys.length : Int) := by rw [IntKind.wrap_i64]; omega
      have r2 : ¬ (m : Int) + (ys.length : Int) < 0 := by omega
      clear hst hm hm2 hv
      go_wp2_with fail
      go_roundw
      case rel => exact ⟨k + 1, by omega, by go_num, by rw [HM.out]; simp, by first | rfl | trivial⟩
      case measure => simp [intOf]; omega
    · obtain rfl : k = ps.length := by omega
      rw [List.take_length]
      obtain ⟨m, hm⟩ : ∃ m, (flatP ps).length = m := ⟨_, rfl⟩
      rw [hm] at hl
      rw [hm]
      have HM := Lib.hid hm
      have G := Lib.hid (grow_any m w hl)
      clear hm
      go_wp2_with fail
      refine G.out.mono ?_
      rintro e w1 ⟨⟨a1, c1, rfl, ho⟩, hb⟩
      have HO1 := Lib.hid ho
      have HB1 := Lib.hid hb
      clear ho hb G
      go_wp2_with fail
      go_loopw [6, 27] (fun rv i wr => ∃ (k : Nat) (ax : Option Addr) (cx : Nat) (xs : List Vw), k ≤ ps.length ∧ i = .int .i64 k ∧ rv = .slice ax xs.length cx ∧ Hid (flatP (ps.take k) = xs) ∧ Hid (OwV wr w.heap.size (.slice ax xs.length cx) xs) ∧ Hid (Below w.heap.size w wr)) (fun _ i _ => ps.length - (intOf i).toNat)
      case atStart => exact ⟨0, a1, c1, [], Nat.zero_le _, rfl, rfl, rfl, HO1.out, HB1.out⟩
      case round =>
        obtain ⟨k, ax, cx, xs, hk, rfl, rfl, HF, HO, HB⟩ := hrel
        clear HO1 HB1
        by_cases hlt : k < ps.length
        · obtain ⟨c0, hv⟩ := (H.out.below HB.out).2 k hlt
          have hst := flat_step ps k hlt
          have hfl := flat_le ps (k + 1)
          rw [HF.out] at hst
          obtain ⟨u, hu⟩ : ∃ u, (ps.getD k dP).1 = u := ⟨_, rfl⟩
          obtain ⟨ys, hys⟩ : ∃ ys, (ps.getD k dP).2 = ys := ⟨_, rfl⟩
          rw [hu] at c0 hv
          rw [hys] at hv hst
          clear hu hys
          rw [hst, List.length_append, HM.out] at hfl
          obtain ⟨r, w2, hr, ho, hg, _⟩ := run_gappv wr 22 w.heap.size _ xs HO.out u ys hv (by omega) HB.out.size
          have hb2 : Below w.heap.size w w2 := HB.out.grown hg HB.out.size (fun k hk => (World.ownsRow.lt HO.out k hk).1)
          obtain ⟨a2, c2, rfl⟩ := ho.form
          have HO2 := Lib.hid ho
          have HB2 := Lib.hid hb2
          have HST := Lib.hid hst
          clear ho hb2 hg hst hv hfl
          go_wp2_with (at_builtin; refine app_go rfl (.tmp 31) (.tmp 32) 22 rfl _ _ _ _ rfl rfl hr ?_)
          go_roundw
          case rel => exact ⟨k + 1, a2, c2, xs ++ ys, by omega, by go_num, by rw [List.length_append], HST.out, HO2.out, HB2.out⟩
          case measure => simp [intOf]; omega
        · obtain rfl : k = ps.length := by omega
          rw [List.take_length] at HF
          go_wp2_with fail
          go_ret
          exact ⟨⟨_, rfl, by rw [HF.out]; exact HO.out⟩, HB.out⟩
end Go.Proofs.Ytmimgpnogjgliaa

namespace Go.Proofs.Ytmimgpnogjgliaa
set_option maxRecDepth 100000
open Go.RowKit

theorem low_nil {l : List Vw} {id : Int} (h : ∀ y ∈ l, id ≤ y.1) : lowP l id = [] := List.filter_eq_nil_iff.2 fun y hy => by
  have := h y hy
  exact fun h => absurd (of_decide_eq_true h) (by omega)
theorem drop_high {l : List Vw} {id : Int} (h : ∀ y ∈ l, id ≤ y.1) : dropF l id = highP l id := by
  unfold dropF highP
  refine List.filter_congr fun y hy => ?_
  have := h y hy
  unfold isId
  by_cases e : y.1 = id
  · rw [e]; simp
  · rw [decide_eq_true (by omega)]; simpa using e
theorem drop_split {l : List Vw} (hr : Rise l) (id : Int) : dropF l id = lowP l id ++ highP l id := by
  induction l with
  | nil => rfl
  | cons y r ih =>
    obtain ⟨h1, h2⟩ := List.pairwise_cons.1 hr
    by_cases hp : id ≤ y.1
    · have ha : ∀ z ∈ y :: r, id ≤ z.1 := fun z hz => by
        rcases List.mem_cons.1 hz with rfl | hz
        · exact hp
        · have := h1 z hz; omega
      rw [low_nil ha, drop_high ha, List.nil_append]
    · have e1 : dropF (y :: r) id = y :: dropF r id := by unfold dropF; rw [List.filter_cons_of_pos (by simp [isId]; omega)]
      have e2 : lowP (y :: r) id = y :: lowP r id := by unfold lowP; rw [List.filter_cons_of_pos (by simp; omega)]
      have e3 : highP (y :: r) id = highP r id := by unfold highP; rw [List.filter_cons_of_neg (by simp; omega)]
      rw [e1, e2, e3, ih h2, List.cons_append]
theorem setq_split {l : List Vw} (hr : Rise l) (id : Int) (x : Hx) : setQ id x l = lowP l id ++ (id, x) :: highP l id := by
  induction l with
  | nil => rfl
  | cons y r ih =>
    obtain ⟨h1, h2⟩ := List.pairwise_cons.1 hr
    show (if id ≤ y.1 then (id, x) :: dropF (y :: r) id else y :: setQ id x r) = _
    by_cases hp : id ≤ y.1
    · have ha : ∀ z ∈ y :: r, id ≤ z.1 := fun z hz => by
        rcases List.mem_cons.1 hz with rfl | hz
        · exact hp
        · have := h1 z hz; omega
      rw [if_pos hp, low_nil ha, drop_high ha, List.nil_append]
    · have e2 : lowP (y :: r) id = y :: lowP r id := by unfold lowP; rw [List.filter_cons_of_pos (by simp; omega)]
      have e3 : highP (y :: r) id = highP r id := by unfold highP; rw [List.filter_cons_of_neg (by simp; omega)]
      rw [if_neg hp, e2, e3, ih h2, List.cons_append]
theorem vok_single (y : Vw) : VOk [y] ↔ vOk1 y := by
  rw [vok_iff]
  constructor
  · exact fun h => h.2 y (by simp)
  · exact fun h => ⟨List.pairwise_singleton _ _, fun z hz => by rw [List.mem_singleton.1 hz]; exact h⟩
theorem set_yes {l : List Vw} {id : Int} {h : Hx} (h1 : VOk l) (h2 : VOk [(id, h)]) : setE l id h = 0 ∧ setL l id h = lowP l id ++ (id, h) :: highP l id := by
  have hr := ((vok_iff l).1 h1).1
  have h3 : VOk l ∧ VOk (rawS id h l) := ⟨h1, (raw_ok h1).2 ((vok_single _).1 h2)⟩
  unfold setE setL
  rw [if_pos h3, if_pos h3, raw_eq, setq_split hr]
  exact ⟨rfl, rfl⟩
theorem set_no {l : List Vw} {id : Int} {h : Hx} (hn : ¬ (VOk l ∧ VOk [(id, h)])) : setE l id h = 1 ∧ setL l id h = [] := by
  have h3 : ¬ (VOk l ∧ VOk (rawS id h l)) := fun h4 => hn ⟨h4.1, (vok_single _).2 ((raw_ok h4.1).1 h4.2)⟩
  unfold setE setL
  rw [if_neg h3, if_neg h3]
  exact ⟨rfl, rfl⟩
theorem low_high_len {l : List Vw} (hr : Rise l) (id : Int) : (lowP l id).length + (highP l id).length ≤ l.length := by
  rw [← List.length_append, ← drop_split hr]
  exact dropF_le l id
theorem vs_one (w : World) (y : Vw) (T : TypeId) : Vs (w.alloc (.cells #[.int .i64 y.1, .bool y.2.1, .int .i64 y.2.2.1, .int .i64 y.2.2.2.1, .int .i64 y.2.2.2.2.1, .int .i64 y.2.2.2.2.2.1, .int .i64 y.2.2.2.2.2.2] T)) (.slice (some ⟨w.heap.size, 0, none⟩) 1 1) [y] := by
  refine Or.inr ⟨w.heap.size, 0, 1, rfl, Nat.le_refl _, by simp, fun i hi => ?_⟩
  obtain rfl : i = 0 := by
    have h9 : i < 1 := hi
    omega
  exact seven_gc (by refine ⟨?_, ?_, ?_, ?_, ?_, ?_, ?_⟩ <;> simp <;> rfl)
set_option maxHeartbeats 8000000 in
theorem vset_any (v : Value) (l : List Vw) (id : Int) (h : Hx) (w : World) (hv : Vs w v l) (hl : l.length ≤ 1000) :
    Calls Try.prog 32 #[v, .int .i64 id, hxV h] w fun e w' => ∃ r, e = .returned (.tuple #[r, .int .i64 (setE l id h)]) ∧ Vs w' r (setL l id h) ∧ Below w.heap.size w w' := by
  obtain ⟨Va, hVa⟩ : ∃ Va, w.alloc (.cells #[.bool h.1, .int .i64 h.2.1, .int .i64 h.2.2.1, .int .i64 h.2.2.2.1, .int .i64 h.2.2.2.2.1, .int .i64 h.2.2.2.2.2] 24) = Va := ⟨_, rfl⟩
  have hba : Below w.heap.size w Va := hVa ▸ (Below.refl _ w).alloc (Nat.le_refl _) _
  have oh := hVa ▸ own6_alloc w h.1 h.2.1 h.2.2.1 h.2.2.2.1 h.2.2.2.2.1 h.2.2.2.2.2 24 w.heap.size rfl
  obtain ⟨V, hV⟩ : ∃ V, Va.alloc (.cells #[.int .i64 id, .bool h.1, .int .i64 h.2.1, .int .i64 h.2.2.1, .int .i64 h.2.2.2.1, .int .i64 h.2.2.2.2.1, .int .i64 h.2.2.2.2.2] 43) = V := ⟨_, rfl⟩
  have hbb : Below Va.heap.size Va V := hV ▸ (Below.refl _ Va).alloc (Nat.le_refl _) _
  have hbv : Below w.heap.size w V := hba.trans (hbb.mono hba.size)
  have hvn : Vs V (.slice (some ⟨Va.heap.size, 0, none⟩) 1 1) [(id, h)] := hV ▸ vs_one Va (id, h) 43
  obtain ⟨gN, hgN⟩ : ∃ gN, Va.heap.size = gN := ⟨_, rfl⟩
  rw [hgN] at hvn
  have HVA := Lib.hid hVa
  have HVV := Lib.hid hV
  have HGN := Lib.hid hgN
  have HBV := Lib.hid hbv
  have HL := Lib.hid (hv.below hbv)
  have HVN := Lib.hid hvn
  obtain ⟨⟨a0, a1, a2, a3, a4, a5⟩, _⟩ := oh
  have c1 := Lib.hid (fun W (hb : Below V.heap.size V W) => vchk_any v l W (HL.out.below hb) hl)
  have c2 := Lib.hid (fun W (hb : Below V.heap.size V W) => vchk_any (.slice (some ⟨gN, 0, none⟩) 1 1) [(id, h)] W (HVN.out.below hb) (by simp))
  obtain ⟨z, hz⟩ : ∃ z, setE l id h = z := ⟨_, rfl⟩
  obtain ⟨zl, hzl⟩ : ∃ zl, setL l id h = zl := ⟨_, rfl⟩
  rw [hz, hzl]
  have HZ := Lib.hid (And.intro hz hzl)
  clear hba hbb hbv hvn hVa hV hgN hv hz hzl
  go_enter Try.func32, Try.ntmps32
  go_upto_region 1 with (fail)
  rw [HVA.out]
  go_upto_region 2 with (fail)
  rw [HVV.out, HGN.out]
  clear a0 a1 a2 a3 a4 a5
  by_cases h1 : VOk l
  · rw [show chkV l = 0 by unfold chkV; rw [if_pos h1]] at c1
    by_cases h2 : VOk [(id, h)]
    · rw [show chkV [(id, h)] = 0 by unfold chkV; rw [if_pos h2]] at c2
      obtain ⟨e1, e2⟩ := set_yes h1 h2
      have HE := Lib.hid (And.intro e1 e2)
      have hr := ((vok_iff l).1 h1).1
      have HR := Lib.hid hr
      clear e1 e2 h1 h2 hr
      go_wp2_with fail
      refine (c1.out _ (Below.refl _ _)).mono ?_
      rintro e w1 ⟨rfl, hb1⟩
      have HB1 := Lib.hid hb1
      clear hb1
      go_wp2_with fail
      refine (c2.out _ HB1.out).mono ?_
      rintro e w2 ⟨rfl, hb2⟩
      have HB2 := Lib.hid (HB1.out.trans (hb2.mono HB1.out.size))
      have HAR := Lib.hid (varo_any v l id w2 (HL.out.below HB2.out) HR.out hl)
      clear hb2
      go_wp2_with fail
      refine HAR.out.mono ?_
      rintro e w3 ⟨r1, r2, rfl, hr1, hr2, hb3⟩
      have HB3 := Lib.hid (HB2.out.trans (hb3.mono HB2.out.size))
      have hr3 := HVN.out.below HB3.out
      obtain ⟨a1, k1, rfl⟩ := hr1.form
      obtain ⟨a2, k2, rfl⟩ := hr2.form
      obtain ⟨n1, hn1⟩ : ∃ n1, (lowP l id).length = n1 := ⟨_, rfl⟩
      obtain ⟨n2, hn2⟩ : ∃ n2, (highP l id).length = n2 := ⟨_, rfl⟩
      have hll := low_high_len HR.out id
      rw [hn1] at hr1 hll ⊢
      rw [hn2] at hr2 hll ⊢
      obtain ⟨W, hW⟩ : ∃ W, w3.alloc (.cells #[.slice a1 n1 k1, .slice (some ⟨gN, 0, none⟩) 1 1, .slice a2 n2 k2] 22) = W := ⟨_, rfl⟩
      have hbw : Below w3.heap.size w3 W := hW ▸ (Below.refl _ w3).alloc (Nat.le_refl _) _
      have hP : Pcs W w3.heap.size [(.slice a1 n1 k1, lowP l id), (.slice (some ⟨gN, 0, none⟩) 1 1, [(id, h)]), (.slice a2 n2 k2, highP l id)] := by
        refine ⟨by rw [← hW]; simp, fun i hi => ?_⟩
        match i, hi with
        | 0, _ => exact ⟨by rw [← hW]; simp, hr1.below hbw⟩
        | 1, _ => exact ⟨by rw [← hW]; simp, hr3.below hbw⟩
        | 2, _ => exact ⟨by rw [← hW]; simp, hr2.below hbw⟩
      have hfl : flatP [(.slice a1 n1 k1, lowP l id), (.slice (some ⟨gN, 0, none⟩) 1 1, [(id, h)]), (.slice a2 n2 k2, highP l id)] = lowP l id ++ (id, h) :: highP l id := by simp [flatP]
      have hcc := conc_any w3.heap.size 3 _ W hP (by simp) (by rw [hfl, List.length_append, List.length_cons, hn1, hn2]; omega)
      rw [hfl] at hcc
      have HCC : Hid (Calls Try.prog 53 #[.slice (some ⟨w3.heap.size, 0, none⟩) 3 3] W _) := hcc
      have HW := Lib.hid hW
      have HBW := Lib.hid (HB3.out.trans (hbw.mono HB3.out.size))
      clear hb3 hr1 hr2 hr3 hP hfl hcc hW hbw hll hn1 hn2
      go_wp2_with fail
      rw [HW.out]
      refine HCC.out.mono ?_
      rintro e w4 ⟨⟨r, rfl, hrr⟩, hb4⟩
      have HBF := Lib.hid (HBV.out.trans ((HBW.out.trans (hb4.mono HBW.out.size)).mono HBV.out.size))
      have HRR := Lib.hid hrr.vs
      clear hrr hb4
      go_wp2_with fail
      refine bodyPost_ret (v := .tuple #[r, .int .i64 0]) (by simp [results, Try.results32, go_sem]) rfl ⟨r, ?_, ?_, HBF.out⟩
      · rw [← HZ.out.1, HE.out.1]
      · rw [← HZ.out.2, HE.out.2]; exact HRR.out
    · rw [show chkV [(id, h)] = 1 by unfold chkV; rw [if_neg h2]] at c2
      have HE := Lib.hid (set_no (l := l) (id := id) (h := h) (fun h3 => h2 h3.2))
      clear h1 h2
      go_wp2_with fail
      refine (c1.out _ (Below.refl _ _)).mono ?_
      rintro e w1 ⟨rfl, hb1⟩
      have HB1 := Lib.hid hb1
      clear hb1
      go_wp2_with fail
      refine (c2.out _ HB1.out).mono ?_
      rintro e w2 ⟨rfl, hb2⟩
      have HB2 := Lib.hid (HBV.out.trans ((HB1.out.trans (hb2.mono HB1.out.size)).mono HBV.out.size))
      clear hb2
      go_wp2_with fail
      refine bodyPost_ret (v := .tuple #[.slice none 0 0, .int .i64 1]) (by simp [results, Try.results32, go_sem]) rfl ⟨.slice none 0 0, ?_, ?_, HB2.out⟩
      · rw [← HZ.out.1, HE.out.1]
      · rw [← HZ.out.2, HE.out.2]; exact Vs_nil _
  · rw [show chkV l = 1 by unfold chkV; rw [if_neg h1]] at c1
    have HE := Lib.hid (set_no (l := l) (id := id) (h := h) (fun h3 => h1 h3.1))
    clear h1
    go_wp2_with fail
    refine (c1.out _ (Below.refl _ _)).mono ?_
    rintro e w1 ⟨rfl, hb1⟩
    have HB1 := Lib.hid (HBV.out.trans (hb1.mono HBV.out.size))
    clear hb1
    go_wp2_with fail
    refine bodyPost_ret (v := .tuple #[.slice none 0 0, .int .i64 1]) (by simp [results, Try.results32, go_sem]) rfl ⟨.slice none 0 0, ?_, ?_, HB1.out⟩
    · rw [← HZ.out.1, HE.out.1]
    · rw [← HZ.out.2, HE.out.2]; exact Vs_nil _
end Go.Proofs.Ytmimgpnogjgliaa

namespace Go.Proofs.Ytmimgpnogjgliaa
set_option maxRecDepth 100000
open Go.RowKit

theorem vk_ge {l : List Vw} (h : VOk l) : ∀ i, i < l.length → (i : Int) ≤ (l.getD i zVw).1
  | 0, hi => (h 0 hi).1.1
  | i + 1, hi => by
    have h1 := vk_ge h i (by omega)
    have h2 := (h (i + 1) hi).2.1 (Nat.succ_pos _)
    rw [Nat.add_sub_cancel] at h2
    omega
theorem vk_len {l : List Vw} (h : VOk l) : l.length ≤ 64 := by
  refine Classical.byContradiction fun hn => ?_
  have h1 := vk_ge h 64 (by omega)
  have h2 := (h 64 (by omega)).1.2
  omega
set_option maxHeartbeats 16000000 in
theorem vchk_big (v : Value) (l : List Vw) (w : World) (h : Vs w v l) (hlx : l.length ≤ maxLen) :
    Calls Try.prog 25 #[v] w fun e w' => e = .returned (.int .i64 (chkV l)) ∧ Below w.heap.size w w' := by
  obtain ⟨a, c, rfl⟩ := h.form
  have hl : l.length ≤ 9223372036854775807 := Nat.le_trans hlx (by decide)
  obtain ⟨z0, hz0⟩ : ∃ z0, chkV l = z0 := ⟨_, rfl⟩
  rw [hz0]
  have HV := Lib.hid h
  have HZ0 := Lib.hid hz0
  clear h hz0
  go_enter Try.func25, Try.ntmps25
  go_wp2_with fail
  go_loopw [7] (fun i wr => ∃ k : Nat, k ≤ l.length ∧ i = .int .i64 k ∧ Hid (∀ i, i < k → VwAt l i) ∧ Hid (Below w.heap.size w wr)) (fun i _ => l.length - (intOf i).toNat)
  case atStart => exact ⟨0, Nat.zero_le _, rfl, fun i h => absurd h (Nat.not_lt_zero _), Below.refl _ _⟩
  case round =>
    obtain ⟨k, hk, rfl, HO, HW⟩ := hrel
    by_cases hlt : k < l.length
    · have hv := HV.out.below HW.out
      obtain ⟨b, off, rfl, hB, p0, p1, p2, p3, p4, p5, p6⟩ := hv.at hlt
      have hprev : 0 < k → wr.cell? ⟨b, off + (k - 1) * 7, none⟩ = some (.int .i64 (l.getD (k - 1) zVw).1) := fun h0 => (hv.all (i := k - 1) (by omega)).2.1
      obtain ⟨y, hy⟩ : ∃ y, l.getD k zVw = y := ⟨_, rfl⟩
      obtain ⟨z, hz⟩ : ∃ z, (l.getD (k - 1) zVw).1 = z := ⟨_, rfl⟩
      rw [hz] at hprev
      rw [hy] at p0 p1 p2 p3 p4 p5 p6
      have HAT : Hid (VwAt l k ↔ NodeOk y.1 ∧ (0 < k → z < y.1) ∧ hOk y.2 ∧ y.2.2.2.2.2.2 = y.1) := by
        show _ ↔ _
        unfold VwAt
        rw [hy, hz]
      clear hy hz hv
      obtain ⟨V, hV⟩ : ∃ V, wr.alloc (.cells #[.int .i64 y.1, .bool y.2.1, .int .i64 y.2.2.1, .int .i64 y.2.2.2.1, .int .i64 y.2.2.2.2.1, .int .i64 y.2.2.2.2.2.1, .int .i64 y.2.2.2.2.2.2] 43) = V := ⟨_, rfl⟩
      have hb1 : Below wr.heap.size wr V := hV ▸ (Below.refl _ wr).alloc (Nat.le_refl _) _
      have OY := Lib.hid (hV ▸ ownV_alloc wr y wr.heap.size rfl 43 : OwnV V wr.heap.size y)
      obtain ⟨⟨d0, d1, d2, d3, d4, d5, d6⟩, df⟩ := OY.out
      simp only [Nat.zero_add] at d1 d2 d3 d4 d5 d6
      have HPV : Hid (0 < k → V.cell? ⟨b, off + (k - 1) * 7, none⟩ = some (.int .i64 z) ∧ b < V.heap.size) := fun h0 => ⟨(hb1.cell (p := ⟨b, off + (k - 1) * 7, none⟩) hB).trans (hprev h0), Nat.lt_of_lt_of_le hB hb1.size⟩
      have HBV := Lib.hid (HW.out.trans (hb1.mono HW.out.size))
      have HN : Hid (¬ VwAt l k → (1 : Int) = z0) := fun h => by rw [← HZ0.out]; unfold chkV; rw [if_neg (fun h2 => h (h2 k hlt))]
      go_upto_region 4 with (fail)
      clear p0 p1 p2 p3 p4 p5 p6 hV hprev hb1 hB
      by_cases g5 : y.2.2.2.2.2.2 = y.1
      · have hq : (y.1 != y.2.2.2.2.2.2) = false := by rw [g5]; simp
        have hq2 : (!(y.1 == y.2.2.2.2.2.2)) = false := by rw [g5]; simp
        have G5 := Lib.hid g5
        clear g5
        by_cases g4 : hOk y.2
        · have cE := Lib.hid (fun W => check_any y.2.1 y.2.2.1 y.2.2.2.1 y.2.2.2.2.1 y.2.2.2.2.2.1 y.2.2.2.2.2.2 W)
          rw [chk_ok (show HtOk y.2.1 y.2.2.1 y.2.2.2.1 y.2.2.2.2.1 y.2.2.2.2.2.1 y.2.2.2.2.2.2 from g4)] at cE
          have G4 := Lib.hid g4
          clear g4
          go_wp2_with fail
          refine (cE.out _).mono ?_
          rintro e Va ⟨rfl, hb⟩
          have HBA := Lib.hid (HBV.out.trans (hb.mono HBV.out.size))
          have OYA := Lib.hid (OY.out.below hb)
          have HPA : Hid (0 < k → Va.cell? ⟨b, off + (k - 1) * 7, none⟩ = some (.int .i64 z) ∧ b < Va.heap.size) := fun h0 => ⟨(hb.cell (p := ⟨b, off + (k - 1) * 7, none⟩) (HPV.out h0).2).trans (HPV.out h0).1, Nat.lt_of_lt_of_le (HPV.out h0).2 hb.size⟩
          clear hb HBV OY HPV d0 d1 d2 d3 d4 d5 d6 df hq hq2
          obtain ⟨⟨d0, d1, d2, d3, d4, d5, d6⟩, df⟩ := OYA.out
          simp only [Nat.zero_add] at d1 d2 d3 d4 d5 d6
          have hgv : wr.heap.size < Va.heap.size := World.block_lt_of_cell? Va _ d0
          have g4 := G4.out
          have g5 := G5.out
          go_upto_region 6 with (fail)
          rcases Nat.eq_zero_or_pos k with h0 | h0
          · have kc : ∀ w', Below Va.heap.size Va w' → w'.cell? ⟨wr.heap.size, 0, none⟩ = some (.int .i64 y.1) ∧ w'.cell? ⟨wr.heap.size, 1, none⟩ = some (.bool y.2.1) ∧ w'.cell? ⟨wr.heap.size, 2, none⟩ = some (.int .i64 y.2.2.1) ∧ w'.cell? ⟨wr.heap.size, 3, none⟩ = some (.int .i64 y.2.2.2.1) ∧ w'.cell? ⟨wr.heap.size, 4, none⟩ = some (.int .i64 y.2.2.2.2.1) ∧ w'.cell? ⟨wr.heap.size, 5, none⟩ = some (.int .i64 y.2.2.2.2.2.1) ∧ w'.cell? ⟨wr.heap.size, 6, none⟩ = some (.int .i64 y.2.2.2.2.2.2) := fun w' hb => ⟨(hb.cell (p := ⟨wr.heap.size, 0, none⟩) hgv).trans d0, (hb.cell (p := ⟨wr.heap.size, 1, none⟩) hgv).trans d1, (hb.cell (p := ⟨wr.heap.size, 2, none⟩) hgv).trans d2, (hb.cell (p := ⟨wr.heap.size, 3, none⟩) hgv).trans d3, (hb.cell (p := ⟨wr.heap.size, 4, none⟩) hgv).trans d4, (hb.cell (p := ⟨wr.heap.size, 5, none⟩) hgv).trans d5, (hb.cell (p := ⟨wr.heap.size, 6, none⟩) hgv).trans d6⟩
            have HG := Lib.hid (And.intro g4 (And.intro g5 (show 0 < k → z < y.1 from (fun h => absurd h (by omega)))))
            clear g4
            go_upto_region 6 with (fail)
            refine wp_region_typed (C := fun w' => Below Va.heap.size Va w') (X := fun w w' => Below w.heap.size w w') (n := 38) (by kernel_rfl) (by kernel_rfl) rfl (fun w => Below.refl _ w) (Below.refl _ _).drew ?_
            refine w_is (fun w => Below.refl _ w) _ (.inl rfl) (fun ρ w hC hc hfn hf => by have e3 : ρ (.tmp 3) = _ := hf 3 (by decide); (conv => lhs; simp [execOp, go_sem, hc, e3])) ?_
            refine w_is (fun w => Below.refl _ w) _ (.inl rfl) (fun ρ w hC hc hfn hf => by have e24 : ρ (.tmp 24) = _ := hf 24 (by decide); (conv => lhs; simp [execOp, go_sem, hc, e24, h0])) ?_
            refine w_is (fun w => Below.refl _ w) _ (.inl rfl) (fun ρ w hC hc hfn hf => by have e25 : ρ (.tmp 25) = _ := hf 25 (by decide); (conv => lhs; simp [execOp, go_sem, hc, e25])) ?_
            refine w_skip rfl rfl (known_is rfl) ?_
            refine w_skip rfl rfl (known_is rfl) ?_
            refine w_skip rfl rfl (known_is rfl) ?_
            refine w_skip rfl rfl (known_is rfl) ?_
            refine w_skip rfl rfl (known_is rfl) ?_
            refine w_skip rfl rfl (known_is rfl) ?_
            refine w_skip rfl rfl (known_is rfl) ?_
            refine w_skip rfl rfl (known_is rfl) ?_
            refine w_skip rfl rfl (known_is rfl) ?_
            refine w_is (fun w => Below.refl _ w) _ (.inl rfl) (fun ρ w hC hc hfn hf => by have e26 : ρ (.tmp 26) = _ := hf 26 (by decide); have e35 : ρ (.tmp 35) = _ := hf 35 (by decide); (conv => lhs; simp [execOp, go_sem, hc, e26, e35])) ?_
            intro A V5 hC hn hd hf
            have y0 : A.eval (.tmp 0) = _ := Eq.trans (hf 0) (by conv => lhs; simp [go_sem])
            have y1 : A.eval (.tmp 1) = _ := Eq.trans (hf 1) (by conv => lhs; simp [go_sem])
            have y2 : A.eval (.tmp 2) = _ := Eq.trans (hf 2) (by conv => lhs; simp [go_sem])
            have y3 : A.eval (.tmp 3) = _ := Eq.trans (hf 3) (by conv => lhs; simp [go_sem])
            have y4 : A.eval (.tmp 4) = _ := Eq.trans (hf 4) (by conv => lhs; simp [go_sem])
            have y5 : A.eval (.tmp 5) = _ := Eq.trans (hf 5) (by conv => lhs; simp [go_sem])
            have y6 : A.eval (.tmp 6) = _ := Eq.trans (hf 6) (by conv => lhs; simp [go_sem])
            have y7 : A.eval (.tmp 7) = _ := Eq.trans (hf 7) (by conv => lhs; simp [go_sem])
            have y8 : A.eval (.tmp 8) = _ := Eq.trans (hf 8) (by conv => lhs; simp [go_sem])
            have y9 : A.eval (.tmp 9) = _ := Eq.trans (hf 9) (by conv => lhs; simp [go_sem])
            have y10 : A.eval (.tmp 10) = _ := Eq.trans (hf 10) (by conv => lhs; simp [go_sem])
            have y11 : A.eval (.tmp 11) = _ := Eq.trans (hf 11) (by conv => lhs; simp [go_sem])
            have y12 : A.eval (.tmp 12) = _ := Eq.trans (hf 12) (by conv => lhs; simp [go_sem])
            have y13 : A.eval (.tmp 13) = _ := Eq.trans (hf 13) (by conv => lhs; simp [go_sem])
            have y14 : A.eval (.tmp 14) = _ := Eq.trans (hf 14) (by conv => lhs; simp [go_sem])
            have y15 : A.eval (.tmp 15) = _ := Eq.trans (hf 15) (by conv => lhs; simp [go_sem])
            have y16 : A.eval (.tmp 16) = _ := Eq.trans (hf 16) (by conv => lhs; simp [go_sem])
            have y17 : A.eval (.tmp 17) = _ := Eq.trans (hf 17) (by conv => lhs; simp [go_sem])
            have y18 : A.eval (.tmp 18) = _ := Eq.trans (hf 18) (by conv => lhs; simp [go_sem])
            have y19 : A.eval (.tmp 19) = _ := Eq.trans (hf 19) (by conv => lhs; simp [go_sem])
            have y20 : A.eval (.tmp 20) = _ := Eq.trans (hf 20) (by conv => lhs; simp [go_sem])
            have y21 : A.eval (.tmp 21) = _ := Eq.trans (hf 21) (by conv => lhs; simp [go_sem])
            have y22 : A.eval (.tmp 22) = _ := Eq.trans (hf 22) (by conv => lhs; simp [go_sem])
            have y23 : A.eval (.tmp 23) = _ := Eq.trans (hf 23) (by conv => lhs; simp [go_sem])
            have y24 : A.eval (.tmp 24) = _ := hf 24
            have y25 : A.eval (.tmp 25) = _ := hf 25
            have y26 : A.eval (.tmp 26) = _ := hf 26
            have y27 : A.eval (.tmp 27) = _ := hf 27
            have y28 : A.eval (.tmp 28) = _ := hf 28
            have y29 : A.eval (.tmp 29) = _ := hf 29
            have y30 : A.eval (.tmp 30) = _ := hf 30
            have y31 : A.eval (.tmp 31) = _ := hf 31
            have y32 : A.eval (.tmp 32) = _ := hf 32
            have y33 : A.eval (.tmp 33) = _ := hf 33
            have y34 : A.eval (.tmp 34) = _ := hf 34
            have y35 : A.eval (.tmp 35) = _ := hf 35
            have y36 : A.eval (.tmp 36) = _ := hf 36
            have y37 : A.eval (.tmp 37) = _ := Eq.trans (hf 37) (by conv => lhs; simp [go_sem])
            clear hf
            have hA := frame_eq hn
            rw [show List.range 38 = [0, 1, 2, 3, 4, 5, 6, 7, 8, 9, 10, 11, 12, 13, 14, 15, 16, 17, 18, 19, 20, 21, 22, 23, 24, 25, 26, 27, 28, 29, 30, 31, 32, 33, 34, 35, 36, 37] from rfl, hd] at hA
            simp only [List.map_cons, List.map_nil, y0, y1, y2, y3, y4, y5, y6, y7, y8, y9, y10, y11, y12, y13, y14, y15, y16, y17, y18, y19, y20, y21, y22, y23, y24, y25, y26, y27, y28, y29, y30, y31, y32, y33, y34, y35, y36, y37] at hA
            clear y0 y1 y2 y3 y4 y5 y6 y7 y8 y9 y10 y11 y12 y13 y14 y15 y16 y17 y18 y19 y20 y21 y22 y23 y24 y25 y26 y27 y28 y29 y30 y31 y32 y33 y34 y35 y36 y37
            clear hn hd
            subst hA
            go_wp2_with fail
            go_roundw
            case rel =>
              refine ⟨k + 1, by omega, by go_num, ?_, HBA.out.trans (hC.mono HBA.out.size)⟩
              intro i hi
              by_cases h : i < k
              · exact HO.out i h
              · obtain rfl : i = k := by omega
                exact HAT.out.2 ⟨by have h1 := HG.out.1; rw [← HG.out.2.1]; exact h1.1, HG.out.2.2, HG.out.1, HG.out.2.1⟩
            case measure => simp [intOf]; omega
          · obtain ⟨dp, hbv⟩ := HPA.out h0
            have kc : ∀ w', Below Va.heap.size Va w' → w'.cell? ⟨wr.heap.size, 0, none⟩ = some (.int .i64 y.1) ∧ w'.cell? ⟨wr.heap.size, 1, none⟩ = some (.bool y.2.1) ∧ w'.cell? ⟨wr.heap.size, 2, none⟩ = some (.int .i64 y.2.2.1) ∧ w'.cell? ⟨wr.heap.size, 3, none⟩ = some (.int .i64 y.2.2.2.1) ∧ w'.cell? ⟨wr.heap.size, 4, none⟩ = some (.int .i64 y.2.2.2.2.1) ∧ w'.cell? ⟨wr.heap.size, 5, none⟩ = some (.int .i64 y.2.2.2.2.2.1) ∧ w'.cell? ⟨wr.heap.size, 6, none⟩ = some (.int .i64 y.2.2.2.2.2.2) ∧ w'.cell? ⟨b, off + (k - 1) * 7, none⟩ = some (.int .i64 z) := fun w' hb => ⟨(hb.cell (p := ⟨wr.heap.size, 0, none⟩) hgv).trans d0, (hb.cell (p := ⟨wr.heap.size, 1, none⟩) hgv).trans d1, (hb.cell (p := ⟨wr.heap.size, 2, none⟩) hgv).trans d2, (hb.cell (p := ⟨wr.heap.size, 3, none⟩) hgv).trans d3, (hb.cell (p := ⟨wr.heap.size, 4, none⟩) hgv).trans d4, (hb.cell (p := ⟨wr.heap.size, 5, none⟩) hgv).trans d5, (hb.cell (p := ⟨wr.heap.size, 6, none⟩) hgv).trans d6, (hb.cell (p := ⟨b, off + (k - 1) * 7, none⟩) hbv).trans dp⟩
            clear dp
            have w1_ : IntKind.i64.wrap ((k : Int) - 1) = (k : Int) - 1 := by rw [IntKind.wrap_i64]; omega
            have w2_ : (1 : Int) ≤ (k : Int) := by omega
            have w3_ : ((k : Int) - 1).toNat = k - 1 := by omega
            have w4_ : (k : Int) - 1 < (l.length : Int) := by omega
            have w5_ : k - 1 < l.length := by omega
            have w6_ : (0 : Int) ≤ (k : Int) - 1 := by omega
            by_cases g3 : y.1 ≤ z
            · have HG := Lib.hid g3
              have g3' := g3
              clear g4 g5
              go_upto_region 6 with (fail)
              refine wp_region_typed (C := fun w' => Below Va.heap.size Va w') (X := fun w w' => Below w.heap.size w w') (n := 38) (by kernel_rfl) (by kernel_rfl) rfl (fun w => Below.refl _ w) (Below.refl _ _).drew ?_
              refine w_is (fun w => Below.refl _ w) _ (.inl rfl) (fun ρ w hC hc hfn hf => by have e3 : ρ (.tmp 3) = _ := hf 3 (by decide); (conv => lhs; simp [execOp, go_sem, hc, e3])) ?_
              refine w_is (fun w => Below.refl _ w) _ (.inl rfl) (fun ρ w hC hc hfn hf => by have e24 : ρ (.tmp 24) = _ := hf 24 (by decide); (conv => lhs; simp [execOp, go_sem, hc, e24, h0])) ?_
              refine w_is (fun w => Below.refl _ w) _ (.inl rfl) (fun ρ w hC hc hfn hf => by have e25 : ρ (.tmp 25) = _ := hf 25 (by decide); (conv => lhs; simp [execOp, go_sem, hc, e25])) ?_
              refine w_is (fun w => Below.refl _ w) _ (.inr ⟨2, 26, true, rfl, rfl, known_is rfl⟩) (fun ρ w hC hc hfn hf => by have e4 : ρ (.tmp 4) = _ := hf 4 (by decide); (conv => lhs; simp [execOp, go_sem, hc, e4])) ?_
              refine w_is (fun w => Below.refl _ w) _ (.inr ⟨2, 26, true, rfl, rfl, known_is rfl⟩) (fun ρ w hC hc hfn hf => by have e27 : ρ (.tmp 27) = _ := hf 27 (by decide); (conv => lhs; simp [execOp, go_sem, hc, e27, kc w hC])) ?_
              refine w_is (fun w => Below.refl _ w) _ (.inr ⟨2, 26, true, rfl, rfl, known_is rfl⟩) (fun ρ w hC hc hfn hf => by have e0 : ρ (.tmp 0) = _ := hf 0 (by decide); (conv => lhs; simp [execOp, go_sem, hc, e0])) ?_
              refine w_is (fun w => Below.refl _ w) _ (.inr ⟨2, 26, true, rfl, rfl, known_is rfl⟩) (fun ρ w hC hc hfn hf => by have e3 : ρ (.tmp 3) = _ := hf 3 (by decide); (conv => lhs; simp [execOp, go_sem, hc, e3])) ?_
              refine w_is (fun w => Below.refl _ w) _ (.inr ⟨2, 26, true, rfl, rfl, known_is rfl⟩) (fun ρ w hC hc hfn hf => by have e30 : ρ (.tmp 30) = _ := hf 30 (by decide); (conv => lhs; simp [execOp, go_sem, hc, e30, w1_])) ?_
              refine w_is (fun w => Below.refl _ w) _ (.inr ⟨2, 26, true, rfl, rfl, known_is rfl⟩) (fun ρ w hC hc hfn hf => by have e29 : ρ (.tmp 29) = _ := hf 29 (by decide); have e31 : ρ (.tmp 31) = _ := hf 31 (by decide); (conv => lhs; simp [execOp, go_sem, hc, e29, e31, w1_, w2_, w3_, w4_, w5_, w6_])) ?_
              refine w_is (fun w => Below.refl _ w) _ (.inr ⟨2, 26, true, rfl, rfl, known_is rfl⟩) (fun ρ w hC hc hfn hf => by have e32 : ρ (.tmp 32) = _ := hf 32 (by decide); (conv => lhs; simp [execOp, go_sem, hc, e32])) ?_
              refine w_is (fun w => Below.refl _ w) _ (.inr ⟨2, 26, true, rfl, rfl, known_is rfl⟩) (fun ρ w hC hc hfn hf => by have e33 : ρ (.tmp 33) = _ := hf 33 (by decide); (conv => lhs; simp [execOp, go_sem, hc, e33, kc w hC])) ?_
              refine w_is (fun w => Below.refl _ w) _ (.inr ⟨2, 26, true, rfl, rfl, known_is rfl⟩) (fun ρ w hC hc hfn hf => by have e28 : ρ (.tmp 28) = _ := hf 28 (by decide); have e34 : ρ (.tmp 34) = _ := hf 34 (by decide); (conv => lhs; simp [execOp, go_sem, hc, e28, e34, g3])) ?_
              refine w_is (fun w => Below.refl _ w) _ (.inl rfl) (fun ρ w hC hc hfn hf => by have e26 : ρ (.tmp 26) = _ := hf 26 (by decide); have e35 : ρ (.tmp 35) = _ := hf 35 (by decide); (conv => lhs; simp [execOp, go_sem, hc, e26, e35])) ?_
              intro A V5 hC hn hd hf
              have y0 : A.eval (.tmp 0) = _ := Eq.trans (hf 0) (by conv => lhs; simp [go_sem])
              have y1 : A.eval (.tmp 1) = _ := Eq.trans (hf 1) (by conv => lhs; simp [go_sem])
              have y2 : A.eval (.tmp 2) = _ := Eq.trans (hf 2) (by conv => lhs; simp [go_sem])
              have y3 : A.eval (.tmp 3) = _ := Eq.trans (hf 3) (by conv => lhs; simp [go_sem])
              have y4 : A.eval (.tmp 4) = _ := Eq.trans (hf 4) (by conv => lhs; simp [go_sem])
              have y5 : A.eval (.tmp 5) = _ := Eq.trans (hf 5) (by conv => lhs; simp [go_sem])
              have y6 : A.eval (.tmp 6) = _ := Eq.trans (hf 6) (by conv => lhs; simp [go_sem])
              have y7 : A.eval (.tmp 7) = _ := Eq.trans (hf 7) (by conv => lhs; simp [go_sem])
              have y8 : A.eval (.tmp 8) = _ := Eq.trans (hf 8) (by conv => lhs; simp [go_sem])
              have y9 : A.eval (.tmp 9) = _ := Eq.trans (hf 9) (by conv => lhs; simp [go_sem])
              have y10 : A.eval (.tmp 10) = _ := Eq.trans (hf 10) (by conv => lhs; simp [go_sem])
              have y11 : A.eval (.tmp 11) = _ := Eq.trans (hf 11) (by conv => lhs; simp [go_sem])
              have y12 : A.eval (.tmp 12) = _ := Eq.trans (hf 12) (by conv => lhs; simp [go_sem])
              have y13 : A.eval (.tmp 13) = _ := Eq.trans (hf 13) (by conv => lhs; simp [go_sem])
              have y14 : A.eval (.tmp 14) = _ := Eq.trans (hf 14) (by conv => lhs; simp [go_sem])
              have y15 : A.eval (.tmp 15) = _ := Eq.trans (hf 15) (by conv => lhs; simp [go_sem])
              have y16 : A.eval (.tmp 16) = _ := Eq.trans (hf 16) (by conv => lhs; simp [go_sem])
              have y17 : A.eval (.tmp 17) = _ := Eq.trans (hf 17) (by conv => lhs; simp [go_sem])
              have y18 : A.eval (.tmp 18) = _ := Eq.trans (hf 18) (by conv => lhs; simp [go_sem])
              have y19 : A.eval (.tmp 19) = _ := Eq.trans (hf 19) (by conv => lhs; simp [go_sem])
              have y20 : A.eval (.tmp 20) = _ := Eq.trans (hf 20) (by conv => lhs; simp [go_sem])
              have y21 : A.eval (.tmp 21) = _ := Eq.trans (hf 21) (by conv => lhs; simp [go_sem])
              have y22 : A.eval (.tmp 22) = _ := Eq.trans (hf 22) (by conv => lhs; simp [go_sem])
              have y23 : A.eval (.tmp 23) = _ := Eq.trans (hf 23) (by conv => lhs; simp [go_sem])
              have y24 : A.eval (.tmp 24) = _ := hf 24
              have y25 : A.eval (.tmp 25) = _ := hf 25
              have y26 : A.eval (.tmp 26) = _ := hf 26
              have y27 : A.eval (.tmp 27) = _ := hf 27
              have y28 : A.eval (.tmp 28) = _ := hf 28
              have y29 : A.eval (.tmp 29) = _ := hf 29
              have y30 : A.eval (.tmp 30) = _ := hf 30
              have y31 : A.eval (.tmp 31) = _ := hf 31
              have y32 : A.eval (.tmp 32) = _ := hf 32
              have y33 : A.eval (.tmp 33) = _ := hf 33
              have y34 : A.eval (.tmp 34) = _ := hf 34
              have y35 : A.eval (.tmp 35) = _ := hf 35
              have y36 : A.eval (.tmp 36) = _ := hf 36
              have y37 : A.eval (.tmp 37) = _ := Eq.trans (hf 37) (by conv => lhs; simp [go_sem])
              clear hf
              have hA := frame_eq hn
              rw [show List.range 38 = [0, 1, 2, 3, 4, 5, 6, 7, 8, 9, 10, 11, 12, 13, 14, 15, 16, 17, 18, 19, 20, 21, 22, 23, 24, 25, 26, 27, 28, 29, 30, 31, 32, 33, 34, 35, 36, 37] from rfl, hd] at hA
              simp only [List.map_cons, List.map_nil, y0, y1, y2, y3, y4, y5, y6, y7, y8, y9, y10, y11, y12, y13, y14, y15, y16, y17, y18, y19, y20, y21, y22, y23, y24, y25, y26, y27, y28, y29, y30, y31, y32, y33, y34, y35, y36, y37] at hA
              clear y0 y1 y2 y3 y4 y5 y6 y7 y8 y9 y10 y11 y12 y13 y14 y15 y16 y17 y18 y19 y20 y21 y22 y23 y24 y25 y26 y27 y28 y29 y30 y31 y32 y33 y34 y35 y36 y37
              clear hn hd
              subst hA
              go_wp2_with fail
              go_ret
              rw [HN.out (fun h => by have := (HAT.out.1 h).2.1 h0; have := HG.out; omega)]
              exact ⟨rfl, HBA.out.trans (hC.mono HBA.out.size)⟩
            · have g3n : z < y.1 := by omega
              have HG := Lib.hid (And.intro g4 (And.intro g5 (show 0 < k → z < y.1 from (fun _ => g3n))))
              clear g4
              go_upto_region 6 with (fail)
              refine wp_region_typed (C := fun w' => Below Va.heap.size Va w') (X := fun w w' => Below w.heap.size w w') (n := 38) (by kernel_rfl) (by kernel_rfl) rfl (fun w => Below.refl _ w) (Below.refl _ _).drew ?_
              refine w_is (fun w => Below.refl _ w) _ (.inl rfl) (fun ρ w hC hc hfn hf => by have e3 : ρ (.tmp 3) = _ := hf 3 (by decide); (conv => lhs; simp [execOp, go_sem, hc, e3])) ?_
              refine w_is (fun w => Below.refl _ w) _ (.inl rfl) (fun ρ w hC hc hfn hf => by have e24 : ρ (.tmp 24) = _ := hf 24 (by decide); (conv => lhs; simp [execOp, go_sem, hc, e24, h0])) ?_
              refine w_is (fun w => Below.refl _ w) _ (.inl rfl) (fun ρ w hC hc hfn hf => by have e25 : ρ (.tmp 25) = _ := hf 25 (by decide); (conv => lhs; simp [execOp, go_sem, hc, e25])) ?_
              refine w_is (fun w => Below.refl _ w) _ (.inr ⟨2, 26, true, rfl, rfl, known_is rfl⟩) (fun ρ w hC hc hfn hf => by have e4 : ρ (.tmp 4) = _ := hf 4 (by decide); (conv => lhs; simp [execOp, go_sem, hc, e4])) ?_
              refine w_is (fun w => Below.refl _ w) _ (.inr ⟨2, 26, true, rfl, rfl, known_is rfl⟩) (fun ρ w hC hc hfn hf => by have e27 : ρ (.tmp 27) = _ := hf 27 (by decide); (conv => lhs; simp [execOp, go_sem, hc, e27, kc w hC])) ?_
              refine w_is (fun w => Below.refl _ w) _ (.inr ⟨2, 26, true, rfl, rfl, known_is rfl⟩) (fun ρ w hC hc hfn hf => by have e0 : ρ (.tmp 0) = _ := hf 0 (by decide); (conv => lhs; simp [execOp, go_sem, hc, e0])) ?_
              refine w_is (fun w => Below.refl _ w) _ (.inr ⟨2, 26, true, rfl, rfl, known_is rfl⟩) (fun ρ w hC hc hfn hf => by have e3 : ρ (.tmp 3) = _ := hf 3 (by decide); (conv => lhs; simp [execOp, go_sem, hc, e3])) ?_
              refine w_is (fun w => Below.refl _ w) _ (.inr ⟨2, 26, true, rfl, rfl, known_is rfl⟩) (fun ρ w hC hc hfn hf => by have e30 : ρ (.tmp 30) = _ := hf 30 (by decide); (conv => lhs; simp [execOp, go_sem, hc, e30, w1_])) ?_
              refine w_is (fun w => Below.refl _ w) _ (.inr ⟨2, 26, true, rfl, rfl, known_is rfl⟩) (fun ρ w hC hc hfn hf => by have e29 : ρ (.tmp 29) = _ := hf 29 (by decide); have e31 : ρ (.tmp 31) = _ := hf 31 (by decide); (conv => lhs; simp [execOp, go_sem, hc, e29, e31, w1_, w2_, w3_, w4_, w5_, w6_])) ?_
              refine w_is (fun w => Below.refl _ w) _ (.inr ⟨2, 26, true, rfl, rfl, known_is rfl⟩) (fun ρ w hC hc hfn hf => by have e32 : ρ (.tmp 32) = _ := hf 32 (by decide); (conv => lhs; simp [execOp, go_sem, hc, e32])) ?_
              refine w_is (fun w => Below.refl _ w) _ (.inr ⟨2, 26, true, rfl, rfl, known_is rfl⟩) (fun ρ w hC hc hfn hf => by have e33 : ρ (.tmp 33) = _ := hf 33 (by decide); (conv => lhs; simp [execOp, go_sem, hc, e33, kc w hC])) ?_
              refine w_is (fun w => Below.refl _ w) _ (.inr ⟨2, 26, true, rfl, rfl, known_is rfl⟩) (fun ρ w hC hc hfn hf => by have e28 : ρ (.tmp 28) = _ := hf 28 (by decide); have e34 : ρ (.tmp 34) = _ := hf 34 (by decide); (conv => lhs; simp [execOp, go_sem, hc, e28, e34, g3])) ?_
              refine w_is (fun w => Below.refl _ w) _ (.inl rfl) (fun ρ w hC hc hfn hf => by have e26 : ρ (.tmp 26) = _ := hf 26 (by decide); have e35 : ρ (.tmp 35) = _ := hf 35 (by decide); (conv => lhs; simp [execOp, go_sem, hc, e26, e35])) ?_
              intro A V5 hC hn hd hf
              have y0 : A.eval (.tmp 0) = _ := Eq.trans (hf 0) (by conv => lhs; simp [go_sem])
              have y1 : A.eval (.tmp 1) = _ := Eq.trans (hf 1) (by conv => lhs; simp [go_sem])
              have y2 : A.eval (.tmp 2) = _ := Eq.trans (hf 2) (by conv => lhs; simp [go_sem])
              have y3 : A.eval (.tmp 3) = _ := Eq.trans (hf 3) (by conv => lhs; simp [go_sem])
              have y4 : A.eval (.tmp 4) = _ := Eq.trans (hf 4) (by conv => lhs; simp [go_sem])
              have y5 : A.eval (.tmp 5) = _ := Eq.trans (hf 5) (by conv => lhs; simp [go_sem])
              have y6 : A.eval (.tmp 6) = _ := Eq.trans (hf 6) (by conv => lhs; simp [go_sem])
              have y7 : A.eval (.tmp 7) = _ := Eq.trans (hf 7) (by conv => lhs; simp [go_sem])
              have y8 : A.eval (.tmp 8) = _ := Eq.trans (hf 8) (by conv => lhs; simp [go_sem])
              have y9 : A.eval (.tmp 9) = _ := Eq.trans (hf 9) (by conv => lhs; simp [go_sem])
              have y10 : A.eval (.tmp 10) = _ := Eq.trans (hf 10) (by conv => lhs; simp [go_sem])
              have y11 : A.eval (.tmp 11) = _ := Eq.trans (hf 11) (by conv => lhs; simp [go_sem])
              have y12 : A.eval (.tmp 12) = _ := Eq.trans (hf 12) (by conv => lhs; simp [go_sem])
              have y13 : A.eval (.tmp 13) = _ := Eq.trans (hf 13) (by conv => lhs; simp [go_sem])
              have y14 : A.eval (.tmp 14) = _ := Eq.trans (hf 14) (by conv => lhs; simp [go_sem])
              have y15 : A.eval (.tmp 15) = _ := Eq.trans (hf 15) (by conv => lhs; simp [go_sem])
              have y16 : A.eval (.tmp 16) = _ := Eq.trans (hf 16) (by conv => lhs; simp [go_sem])
              have y17 : A.eval (.tmp 17) = _ := Eq.trans (hf 17) (by conv => lhs; simp [go_sem])
              have y18 : A.eval (.tmp 18) = _ := Eq.trans (hf 18) (by conv => lhs; simp [go_sem])
              have y19 : A.eval (.tmp 19) = _ := Eq.trans (hf 19) (by conv => lhs; simp [go_sem])
              have y20 : A.eval (.tmp 20) = _ := Eq.trans (hf 20) (by conv => lhs; simp [go_sem])
              have y21 : A.eval (.tmp 21) = _ := Eq.trans (hf 21) (by conv => lhs; simp [go_sem])
              have y22 : A.eval (.tmp 22) = _ := Eq.trans (hf 22) (by conv => lhs; simp [go_sem])
              have y23 : A.eval (.tmp 23) = _ := Eq.trans (hf 23) (by conv => lhs; simp [go_sem])
              have y24 : A.eval (.tmp 24) = _ := hf 24
              have y25 : A.eval (.tmp 25) = _ := hf 25
              have y26 : A.eval (.tmp 26) = _ := hf 26
              have y27 : A.eval (.tmp 27) = _ := hf 27
              have y28 : A.eval (.tmp 28) = _ := hf 28
              have y29 : A.eval (.tmp 29) = _ := hf 29
              have y30 : A.eval (.tmp 30) = _ := hf 30
              have y31 : A.eval (.tmp 31) = _ := hf 31
              have y32 : A.eval (.tmp 32) = _ := hf 32
              have y33 : A.eval (.tmp 33) = _ := hf 33
              have y34 : A.eval (.tmp 34) = _ := hf 34
              have y35 : A.eval (.tmp 35) = _ := hf 35
              have y36 : A.eval (.tmp 36) = _ := hf 36
              have y37 : A.eval (.tmp 37) = _ := Eq.trans (hf 37) (by conv => lhs; simp [go_sem])
              clear hf
              have hA := frame_eq hn
              rw [show List.range 38 = [0, 1, 2, 3, 4, 5, 6, 7, 8, 9, 10, 11, 12, 13, 14, 15, 16, 17, 18, 19, 20, 21, 22, 23, 24, 25, 26, 27, 28, 29, 30, 31, 32, 33, 34, 35, 36, 37] from rfl, hd] at hA
              simp only [List.map_cons, List.map_nil, y0, y1, y2, y3, y4, y5, y6, y7, y8, y9, y10, y11, y12, y13, y14, y15, y16, y17, y18, y19, y20, y21, y22, y23, y24, y25, y26, y27, y28, y29, y30, y31, y32, y33, y34, y35, y36, y37] at hA
              clear y0 y1 y2 y3 y4 y5 y6 y7 y8 y9 y10 y11 y12 y13 y14 y15 y16 y17 y18 y19 y20 y21 y22 y23 y24 y25 y26 y27 y28 y29 y30 y31 y32 y33 y34 y35 y36 y37
              clear hn hd
              subst hA
              go_wp2_with fail
              go_roundw
              case rel =>
                refine ⟨k + 1, by omega, by go_num, ?_, HBA.out.trans (hC.mono HBA.out.size)⟩
                intro i hi
                by_cases h : i < k
                · exact HO.out i h
                · obtain rfl : i = k := by omega
                  exact HAT.out.2 ⟨by have h1 := HG.out.1; rw [← HG.out.2.1]; exact h1.1, HG.out.2.2, HG.out.1, HG.out.2.1⟩
              case measure => simp [intOf]; omega
        · have cE := Lib.hid (fun W => check_any y.2.1 y.2.2.1 y.2.2.2.1 y.2.2.2.2.1 y.2.2.2.2.2.1 y.2.2.2.2.2.2 W)
          rw [chk_no (show ¬ HtOk y.2.1 y.2.2.1 y.2.2.2.1 y.2.2.2.2.1 y.2.2.2.2.2.1 y.2.2.2.2.2.2 from g4)] at cE
          have G4 := Lib.hid g4
          clear g4
          go_wp2_with fail
          refine (cE.out _).mono ?_
          rintro e Va ⟨rfl, hb⟩
          have HBA := Lib.hid (HBV.out.trans (hb.mono HBV.out.size))
          clear hb HBV OY HPV d0 d1 d2 d3 d4 d5 d6 df hq hq2
          go_wp2_with fail
          go_ret
          rw [HN.out (fun h => G4.out (HAT.out.1 h).2.2.1)]
          exact ⟨rfl, HBA.out⟩
      · have hq : (y.1 != y.2.2.2.2.2.2) = true := by simpa using fun h => g5 h.symm
        have hq2 : (!(y.1 == y.2.2.2.2.2.2)) = true := by simpa using fun h => g5 h.symm
        have G5 := Lib.hid g5
        clear g5
        go_wp2_with fail
        go_ret
        rw [HN.out (fun h => G5.out (HAT.out.1 h).2.2.2)]
        exact ⟨rfl, HBV.out⟩
    · obtain rfl : k = l.length := by omega
      go_wp2_with fail
      go_ret
      rw [← HZ0.out]
      unfold chkV
      rw [if_pos (show VOk l from HO.out)]
      exact ⟨rfl, HW.out⟩
set_option maxHeartbeats 8000000 in
theorem vset_big (v : Value) (l : List Vw) (id : Int) (h : Hx) (w : World) (hv : Vs w v l) (hlx : l.length ≤ maxLen) :
    Calls Try.prog 32 #[v, .int .i64 id, hxV h] w fun e w' => ∃ r, e = .returned (.tuple #[r, .int .i64 (setE l id h)]) ∧ Vs w' r (setL l id h) ∧ Below w.heap.size w w' := by
  obtain ⟨Va, hVa⟩ : ∃ Va, w.alloc (.cells #[.bool h.1, .int .i64 h.2.1, .int .i64 h.2.2.1, .int .i64 h.2.2.2.1, .int .i64 h.2.2.2.2.1, .int .i64 h.2.2.2.2.2] 24) = Va := ⟨_, rfl⟩
  have hba : Below w.heap.size w Va := hVa ▸ (Below.refl _ w).alloc (Nat.le_refl _) _
  have oh := hVa ▸ own6_alloc w h.1 h.2.1 h.2.2.1 h.2.2.2.1 h.2.2.2.2.1 h.2.2.2.2.2 24 w.heap.size rfl
  obtain ⟨V, hV⟩ : ∃ V, Va.alloc (.cells #[.int .i64 id, .bool h.1, .int .i64 h.2.1, .int .i64 h.2.2.1, .int .i64 h.2.2.2.1, .int .i64 h.2.2.2.2.1, .int .i64 h.2.2.2.2.2] 43) = V := ⟨_, rfl⟩
  have hbb : Below Va.heap.size Va V := hV ▸ (Below.refl _ Va).alloc (Nat.le_refl _) _
  have hbv : Below w.heap.size w V := hba.trans (hbb.mono hba.size)
  have hvn : Vs V (.slice (some ⟨Va.heap.size, 0, none⟩) 1 1) [(id, h)] := hV ▸ vs_one Va (id, h) 43
  obtain ⟨gN, hgN⟩ : ∃ gN, Va.heap.size = gN := ⟨_, rfl⟩
  rw [hgN] at hvn
  have HVA := Lib.hid hVa
  have HVV := Lib.hid hV
  have HGN := Lib.hid hgN
  have HBV := Lib.hid hbv
  have HL := Lib.hid (hv.below hbv)
  have HVN := Lib.hid hvn
  obtain ⟨⟨a0, a1, a2, a3, a4, a5⟩, _⟩ := oh
  have c1 := Lib.hid (fun W (hb : Below V.heap.size V W) => vchk_big v l W (HL.out.below hb) hlx)
  have c2 := Lib.hid (fun W (hb : Below V.heap.size V W) => vchk_any (.slice (some ⟨gN, 0, none⟩) 1 1) [(id, h)] W (HVN.out.below hb) (by simp))
  obtain ⟨z, hz⟩ : ∃ z, setE l id h = z := ⟨_, rfl⟩
  obtain ⟨zl, hzl⟩ : ∃ zl, setL l id h = zl := ⟨_, rfl⟩
  rw [hz, hzl]
  have HZ := Lib.hid (And.intro hz hzl)
  clear hba hbb hbv hvn hVa hV hgN hv hz hzl
  go_enter Try.func32, Try.ntmps32
  go_upto_region 1 with (fail)
  rw [HVA.out]
  go_upto_region 2 with (fail)
  rw [HVV.out, HGN.out]
  clear a0 a1 a2 a3 a4 a5
  by_cases h1 : VOk l
  · have hl : l.length ≤ 1000 := Nat.le_trans (vk_len h1) (by decide)
    rw [show chkV l = 0 by unfold chkV; rw [if_pos h1]] at c1
    by_cases h2 : VOk [(id, h)]
    · rw [show chkV [(id, h)] = 0 by unfold chkV; rw [if_pos h2]] at c2
      obtain ⟨e1, e2⟩ := set_yes h1 h2
      have HE := Lib.hid (And.intro e1 e2)
      have hr := ((vok_iff l).1 h1).1
      have HR := Lib.hid hr
      clear e1 e2 h1 h2 hr
      go_wp2_with fail
      refine (c1.out _ (Below.refl _ _)).mono ?_
      rintro e w1 ⟨rfl, hb1⟩
      have HB1 := Lib.hid hb1
      clear hb1
      go_wp2_with fail
      refine (c2.out _ HB1.out).mono ?_
      rintro e w2 ⟨rfl, hb2⟩
      have HB2 := Lib.hid (HB1.out.trans (hb2.mono HB1.out.size))
      have HAR := Lib.hid (varo_any v l id w2 (HL.out.below HB2.out) HR.out hl)
      clear hb2
      go_wp2_with fail
      refine HAR.out.mono ?_
      rintro e w3 ⟨r1, r2, rfl, hr1, hr2, hb3⟩
      have HB3 := Lib.hid (HB2.out.trans (hb3.mono HB2.out.size))
      have hr3 := HVN.out.below HB3.out
      obtain ⟨a1, k1, rfl⟩ := hr1.form
      obtain ⟨a2, k2, rfl⟩ := hr2.form
      obtain ⟨n1, hn1⟩ : ∃ n1, (lowP l id).length = n1 := ⟨_, rfl⟩
      obtain ⟨n2, hn2⟩ : ∃ n2, (highP l id).length = n2 := ⟨_, rfl⟩
      have hll := low_high_len HR.out id
      rw [hn1] at hr1 hll ⊢
      rw [hn2] at hr2 hll ⊢
      obtain ⟨W, hW⟩ : ∃ W, w3.alloc (.cells #[.slice a1 n1 k1, .slice (some ⟨gN, 0, none⟩) 1 1, .slice a2 n2 k2] 22) = W := ⟨_, rfl⟩
      have hbw : Below w3.heap.size w3 W := hW ▸ (Below.refl _ w3).alloc (Nat.le_refl _) _
      have hP : Pcs W w3.heap.size [(.slice a1 n1 k1, lowP l id), (.slice (some ⟨gN, 0, none⟩) 1 1, [(id, h)]), (.slice a2 n2 k2, highP l id)] := by
        refine ⟨by rw [← hW]; simp, fun i hi => ?_⟩
        match i, hi with
        | 0, _ => exact ⟨by rw [← hW]; simp, hr1.below hbw⟩
        | 1, _ => exact ⟨by rw [← hW]; simp, hr3.below hbw⟩
        | 2, _ => exact ⟨by rw [← hW]; simp, hr2.below hbw⟩
      have hfl : flatP [(.slice a1 n1 k1, lowP l id), (.slice (some ⟨gN, 0, none⟩) 1 1, [(id, h)]), (.slice a2 n2 k2, highP l id)] = lowP l id ++ (id, h) :: highP l id := by simp [flatP]
      have hcc := conc_any w3.heap.size 3 _ W hP (by simp) (by rw [hfl, List.length_append, List.length_cons, hn1, hn2]; omega)
      rw [hfl] at hcc
      have HCC : Hid (Calls Try.prog 53 #[.slice (some ⟨w3.heap.size, 0, none⟩) 3 3] W _) := hcc
      have HW := Lib.hid hW
      have HBW := Lib.hid (HB3.out.trans (hbw.mono HB3.out.size))
      clear hb3 hr1 hr2 hr3 hP hfl hcc hW hbw hll hn1 hn2
      go_wp2_with fail
      rw [HW.out]
      refine HCC.out.mono ?_
      rintro e w4 ⟨⟨r, rfl, hrr⟩, hb4⟩
      have HBF := Lib.hid (HBV.out.trans ((HBW.out.trans (hb4.mono HBW.out.size)).mono HBV.out.size))
      have HRR := Lib.hid hrr.vs
      clear hrr hb4
      go_wp2_with fail
      refine bodyPost_ret (v := .tuple #[r, .int .i64 0]) (by simp [results, Try.results32, go_sem]) rfl ⟨r, ?_, ?_, HBF.out⟩
      · rw [← HZ.out.1, HE.out.1]
      · rw [← HZ.out.2, HE.out.2]; exact HRR.out
    · rw [show chkV [(id, h)] = 1 by unfold chkV; rw [if_neg h2]] at c2
      have HE := Lib.hid (set_no (l := l) (id := id) (h := h) (fun h3 => h2 h3.2))
      clear h1 h2
      go_wp2_with fail
      refine (c1.out _ (Below.refl _ _)).mono ?_
      rintro e w1 ⟨rfl, hb1⟩
      have HB1 := Lib.hid hb1
      clear hb1
      go_wp2_with fail
      refine (c2.out _ HB1.out).mono ?_
      rintro e w2 ⟨rfl, hb2⟩
      have HB2 := Lib.hid (HBV.out.trans ((HB1.out.trans (hb2.mono HB1.out.size)).mono HBV.out.size))
      clear hb2
      go_wp2_with fail
      refine bodyPost_ret (v := .tuple #[.slice none 0 0, .int .i64 1]) (by simp [results, Try.results32, go_sem]) rfl ⟨.slice none 0 0, ?_, ?_, HB2.out⟩
      · rw [← HZ.out.1, HE.out.1]
      · rw [← HZ.out.2, HE.out.2]; exact Vs_nil _
  · rw [show chkV l = 1 by unfold chkV; rw [if_neg h1]] at c1
    have HE := Lib.hid (set_no (l := l) (id := id) (h := h) (fun h3 => h1 h3.1))
    clear h1
    go_wp2_with fail
    refine (c1.out _ (Below.refl _ _)).mono ?_
    rintro e w1 ⟨rfl, hb1⟩
    have HB1 := Lib.hid (HBV.out.trans (hb1.mono HBV.out.size))
    clear hb1
    go_wp2_with fail
    refine bodyPost_ret (v := .tuple #[.slice none 0 0, .int .i64 1]) (by simp [results, Try.results32, go_sem]) rfl ⟨.slice none 0 0, ?_, ?_, HB1.out⟩
    · rw [← HZ.out.1, HE.out.1]
    · rw [← HZ.out.2, HE.out.2]; exact Vs_nil _
end Go.Proofs.Ytmimgpnogjgliaa
