/- The program's views: what is ahead of an Id's place, and behind it. Conditions on lengths, and that the views are right. -/
import Derived.Test.YtahhhegknmiinaaPa4
import Derived.BigQuiet
namespace Go.Proofs.Ytahhhegknmiinaa
set_option maxRecDepth 100000
open Go.RowKit

/-- The views of lesser Ids; of greater ones. -/
def lowP (l : List Vw) (id : Int) : List Vw := l.filter (fun y => decide (y.1 < id))
def highP (l : List Vw) (id : Int) : List Vw := l.filter (fun y => decide (id < y.1))
theorem take_at {l : List Vw} {p : Nat} {y : Vw} (h : y ∈ l.take p) : ∃ i, i < p ∧ i < l.length ∧ l.getD i zVw = y := by
  obtain ⟨i, hi, rfl⟩ := List.mem_iff_getElem.1 h
  rw [List.length_take] at hi
  exact ⟨i, by omega, by omega, by simp [List.getD, show i < l.length by omega]⟩
theorem drop_at {l : List Vw} {p : Nat} {y : Vw} (h : y ∈ l.drop p) : ∃ i, p ≤ i ∧ i < l.length ∧ l.getD i zVw = y := by
  obtain ⟨i, hi, rfl⟩ := List.mem_iff_getElem.1 h
  rw [List.length_drop] at hi
  exact ⟨p + i, by omega, by omega, by simp [List.getD, show p + i < l.length by omega]⟩
theorem place_low {l : List Vw} {id : Int} {p : Nat} (h : PlaceAt l id p) : l.take p = lowP l id := by
  have e : lowP l id = lowP (l.take p) id ++ lowP (l.drop p) id := by unfold lowP; rw [← List.filter_append, List.take_append_drop]
  have e1 : lowP (l.take p) id = l.take p := List.filter_eq_self.2 fun y hy => by
    obtain ⟨i, h1, h2, rfl⟩ := take_at hy
    exact decide_eq_true (h.2.1 i h1)
  have e2 : lowP (l.drop p) id = [] := List.filter_eq_nil_iff.2 fun y hy => by
    obtain ⟨i, h1, h2, rfl⟩ := drop_at hy
    have := h.2.2 i h1 h2
    exact fun h => absurd (of_decide_eq_true h) (by omega)
  rw [e, e1, e2, List.append_nil]
theorem place_high_no {l : List Vw} {id : Int} {p : Nat} (hr : Rise l) (h : PlaceAt l id p) (hf : fndB l id p = false) : l.drop p = highP l id := by
  have e : highP l id = highP (l.take p) id ++ highP (l.drop p) id := by unfold highP; rw [← List.filter_append, List.take_append_drop]
  have e1 : highP (l.take p) id = [] := List.filter_eq_nil_iff.2 fun y hy => by
    obtain ⟨i, h1, h2, rfl⟩ := take_at hy
    have := h.2.1 i h1
    exact fun h => absurd (of_decide_eq_true h) (by omega)
  have e2 : highP (l.drop p) id = l.drop p := List.filter_eq_self.2 fun y hy => by
    obtain ⟨i, h1, h2, rfl⟩ := drop_at hy
    refine decide_eq_true ?_
    have h3 := h.2.2 i h1 h2
    have h4 : ¬ (p < l.length ∧ (l.getD p zVw).1 = id) := of_decide_eq_false hf
    by_cases e : i = p
    · subst e
      have : ¬ (l.getD i zVw).1 = id := fun h5 => h4 ⟨h2, h5⟩
      omega
    · have h5 := rise_at hr (show p < i by omega) h2
      have h6 := h.2.2 p (Nat.le_refl _) (by omega)
      omega
  rw [e, e1, e2, List.nil_append]
theorem place_high_yes {l : List Vw} {id : Int} {p : Nat} (hr : Rise l) (h : PlaceAt l id p) (hf : fndB l id p = true) : l.drop (p + 1) = highP l id := by
  obtain ⟨hp, hy⟩ : p < l.length ∧ (l.getD p zVw).1 = id := of_decide_eq_true hf
  have e : highP l id = highP (l.take (p + 1)) id ++ highP (l.drop (p + 1)) id := by unfold highP; rw [← List.filter_append, List.take_append_drop]
  have e1 : highP (l.take (p + 1)) id = [] := List.filter_eq_nil_iff.2 fun y hy2 => by
    obtain ⟨i, h1, h2, rfl⟩ := take_at hy2
    by_cases e : i = p
    · subst e
      exact fun h => absurd (of_decide_eq_true h) (by omega)
    · have := h.2.1 i (by omega)
      exact fun h => absurd (of_decide_eq_true h) (by omega)
  have e2 : highP (l.drop (p + 1)) id = l.drop (p + 1) := List.filter_eq_self.2 fun y hy2 => by
    obtain ⟨i, h1, h2, rfl⟩ := drop_at hy2
    have := rise_at hr (show p < i by omega) h2
    refine decide_eq_true ?_
    omega
  rw [e, e1, e2, List.nil_append]
theorem Vs.cap {w : World} {a : Option Addr} {c : Nat} {l : List Vw} (h : Vs w (.slice a l.length c) l) : l.length ≤ c := by
  rcases h with ⟨a', cap, h1, h2, rfl⟩ | ⟨b, off, cap, h1, h2, h3, h4⟩
  · exact Nat.zero_le _
  · simp only [Value.slice.injEq] at h1
    omega
theorem Vs.non {w : World} {c : Nat} {l : List Vw} (h : Vs w (.slice none l.length c) l) : l = [] ∧ c = 0 := by
  rcases h with ⟨a', cap, h1, h2, h3⟩ | ⟨b, off, cap, h1, h2, h3, h4⟩
  · simp only [Value.slice.injEq] at h1
    exact ⟨h3, by rw [h1.2.2]; exact h2 h1.1.symm⟩
  · simp only [Value.slice.injEq] at h1
    exact absurd h1.1 (by simp)
section
variable {R : RowT}
theorem gs_take {w : World} {ad : Addr} {c : Nat} {l : List R.α} (h : Gs R w (.slice (some ad) l.length c) l) {p : Nat} (hp : p ≤ l.length) : Gs R w (.slice (some ad) p c) (l.take p) := by
  rcases h with ⟨a', cap, h1, h2, rfl⟩ | ⟨b, off, cap, h1, h2, h3, h4⟩
  · obtain rfl : p = 0 := Nat.le_zero.1 hp
    exact .inl ⟨some ad, c, rfl, ⟨fun h => (by cases h), rfl⟩⟩
  · simp only [Value.slice.injEq] at h1
    obtain ⟨e1, _, e2⟩ := h1
    have hl : (l.take p).length = p := by rw [List.length_take]; omega
    refine .inr ⟨b, off, c, by rw [e1, hl], by rw [hl]; omega, h3, fun i hi => ?_⟩
    rw [hl] at hi
    have := h4 i (by omega)
    rwa [show (l.take p).getD i R.d = l.getD i R.d by simp [List.getD, hi]]
theorem gs_drop {w : World} {ad : Addr} {c : Nat} {l : List R.α} (h : Gs R w (.slice (some ad) l.length c) l) {q : Nat} (hq : q ≤ l.length) : Gs R w (.slice (if c = q then some ad else some (ad.add (q * R.K))) (l.length - q) (c - q)) (l.drop q) := by
  by_cases e : q = l.length
  · have hd : l.drop q = [] := List.drop_eq_nil_of_le (by omega)
    rw [hd]
    refine .inl ⟨_, c - q, by rw [show l.length - q = 0 by omega], fun h => ?_, rfl⟩
    split at h <;> cases h
  · rcases h with ⟨a', cap, h1, h2, rfl⟩ | ⟨b, off, cap, h1, h2, h3, h4⟩
    · simp at hq; simp at e; omega
    · simp only [Value.slice.injEq, Option.some.injEq] at h1
      obtain ⟨rfl, _, e2⟩ := h1
      rw [if_neg (by omega)]
      have hl : (l.drop q).length = l.length - q := List.length_drop
      refine .inr ⟨b, off + q * R.K, c - q, by rw [hl, add_spot'], by rw [hl]; omega, h3, fun i hi => ?_⟩
      rw [hl] at hi
      have h5 := h4 (q + i) (by omega)
      have e3 : (l.drop q).getD i R.d = l.getD (q + i) R.d := by simp [List.getD]
      have e4 : off + q * R.K + i * R.K = off + (q + i) * R.K := by rw [Nat.add_mul]; omega
      rw [e3, e4]
      exact h5
end
theorem vs_take {w : World} {ad : Addr} {c : Nat} {l : List Vw} (h : Vs w (.slice (some ad) l.length c) l) {p : Nat} (hp : p ≤ l.length) : Vs w (.slice (some ad) p c) (l.take p) := gs_take (R := RV) h hp
theorem vs_drop {w : World} {ad : Addr} {c : Nat} {l : List Vw} (h : Vs w (.slice (some ad) l.length c) l) {q : Nat} (hq : q ≤ l.length) : Vs w (.slice (if c = q then some ad else some (ad.add (q * 7))) (l.length - q) (c - q)) (l.drop q) := gs_drop (R := RV) h hq
set_option maxHeartbeats 8000000 in
theorem varo_any (v : Value) (l : List Vw) (id : Int) (w : World) (h : Vs w v l) (hr : Rise l) (hl : l.length ≤ 1000) :
    Calls Try.prog 34 #[v, .int .i64 id] w fun e w' => ∃ r1 r2, e = .returned (.tuple #[r1, r2]) ∧ Vs w' r1 (lowP l id) ∧ Vs w' r2 (highP l id) ∧ Below w.heap.size w w' := by
  have mixed : Try.prog.follows .mixedOrders = true := by kernel_rfl
  have C := Lib.hid (bsf_any _ l id w h hr hl)
  obtain ⟨a, c, rfl⟩ := h.form
  have hcap := h.cap
  cases a with
  | none =>
    obtain ⟨rfl, rfl⟩ := h.non
    have HZ : Hid (lowP [] id = [] ∧ highP [] id = []) := ⟨rfl, rfl⟩
    clear h hr hl hcap
    show Calls Try.prog 34 #[.slice none 0 0, .int .i64 id] w _
    go_enter Try.func34, Try.ntmps34
    go_wp2_with fail
    refine C.out.mono ?_
    rintro e w1 ⟨p, rfl, hp, hb⟩
    obtain rfl : p = 0 := by simpa using hp.1
    have hf : fndB [] id 0 = false := decide_eq_false (by simp)
    have HB := Lib.hid hb
    have HP := Lib.hid hp
    clear hp hb C
    cases hg : fndB [] id 0 with
    | true => rw [hf] at hg; cases hg
    | false =>
      clear hf hg
      go_upto_region 4 with (fail)
      go_quiet (fail)
      have HB2 := Lib.hid (bel_drewN HB.out nq)
      go_wp2_with fail
      refine bodyPost_ret (v := .tuple #[.slice none 0 0, .slice none 0 0]) (by simp [results, Try.results34, go_sem]) rfl ⟨_, _, rfl, ?_, ?_, HB2.out⟩
      · rw [HZ.out.1]; exact Vs_nil _
      · rw [HZ.out.2]; exact Vs_nil _
  | some ad =>
    have HV := Lib.hid h
    have HR := Lib.hid hr
    clear h hr
    go_enter Try.func34, Try.ntmps34
    go_wp2_with fail
    refine C.out.mono ?_
    rintro e w1 ⟨p, rfl, hp, hb⟩
    have HB := Lib.hid hb
    have HP := Lib.hid hp
    have hp1 := hp.1
    clear hp hb C
    have hpz : (p : Int) ≤ (c : Int) := by omega
    have hpl : (p : Int) ≤ (l.length : Int) := by omega
    have hpc : p ≤ c := by omega
    have hpz0 : (0 : Int) ≤ (p : Int) := by omega
    cases hf : fndB l id p with
    | true =>
      have hpl2 : p < l.length := (of_decide_eq_true hf).1
      have w1_ : (p : Int) + 1 ≤ (l.length : Int) := by omega
      have w2_ : (p : Int) + 1 ≤ (c : Int) := by omega
      have w3_ : (0 : Int) ≤ (p : Int) + 1 := by omega
      have w4_ : ((p : Int) + 1).toNat = p + 1 := by omega
      have w5_ : p + 1 ≤ l.length := by omega
      have w6_ : p + 1 ≤ c := by omega
      have r1 : IntKind.i64.wrap ((p : Int) + 1) = (p : Int) + 1 := by rw [IntKind.wrap_i64]; omega
      have HF := Lib.hid hf
      clear hf
      go_upto_region 3 with (fail)
      go_quiet (fail)
      have HB2 := Lib.hid (bel_drewN HB.out nq)
      have e1 := vs_take HV.out (p := p) (by omega)
      have e2 := vs_drop HV.out (q := p + 1) w5_
      rw [place_low HP.out] at e1
      rw [place_high_yes HR.out HP.out HF.out] at e2
      have E1 := Lib.hid (Vs.below e1 HB2.out)
      have E2 := Lib.hid (Vs.below e2 HB2.out)
      clear e1 e2
      generalize (if c = p + 1 then some ad else some (ad.add ((p + 1) * 7))) = ad2 at E2 ⊢
      go_wp2_with fail
      exact bodyPost_ret (v := .tuple #[.slice (some ad) p c, .slice ad2 (l.length - (p + 1)) (c - (p + 1))]) (by simp [results, Try.results34, go_sem]) rfl ⟨_, _, rfl, E1.out, E2.out, HB2.out⟩
    | false =>
      have HF := Lib.hid hf
      clear hf
      go_upto_region 4 with (fail)
      go_quiet (fail)
      have HB2 := Lib.hid (bel_drewN HB.out nq)
      have e1 := vs_take HV.out (p := p) (by omega)
      have e2 := vs_drop HV.out (q := p) hp1
      rw [place_low HP.out] at e1
      rw [place_high_no HR.out HP.out HF.out] at e2
      have E1 := Lib.hid (Vs.below e1 HB2.out)
      have E2 := Lib.hid (Vs.below e2 HB2.out)
      clear e1 e2
      generalize (if c = p then some ad else some (ad.add (p * 7))) = ad2 at E2 ⊢
      go_wp2_with fail
      exact bodyPost_ret (v := .tuple #[.slice (some ad) p c, .slice ad2 (l.length - p) (c - p)]) (by simp [results, Try.results34, go_sem]) rfl ⟨_, _, rfl, E1.out, E2.out, HB2.out⟩
end Go.Proofs.Ytahhhegknmiinaa
