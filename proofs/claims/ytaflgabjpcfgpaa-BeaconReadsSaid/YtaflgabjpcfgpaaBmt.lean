/- Mathematics of beacons: right ones are sorted; With and Without as filters. No conditions. -/
import Derived.Test.YtaflgabjpcfgpaaBeq
namespace Go.Proofs.Ytaflgabjpcfgpaa

/-- An echo whose number and epoch are in their bounds. -/
def EcIn (y : Int × Int) : Prop := (0 ≤ y.1 ∧ y.1 < 64) ∧ EpOk y.2
theorem ec_get {ys : List (Int × Int)} {i : Nat} (h : i < ys.length) : ys.getD i (0, 0) = ys[i] := by simp [List.getD, h]
theorem BeOk.mono {M : Int} {ys : List (Int × Int)} (h : BeOk M ys) {i j : Nat} (hij : i < j) (hj : j < ys.length) : (ys.getD i (0, 0)).1 < (ys.getD j (0, 0)).1 := by
  induction j with
  | zero => omega
  | succ j ih =>
    have h2 := (h.1 (j + 1) hj).2.1 (by omega)
    rw [Nat.add_sub_cancel] at h2
    by_cases e : i = j
    · subst e; exact h2
    · exact Int.lt_trans (ih (by omega) (by omega)) h2
/-- A right beacon: sorted, each echo in its bounds. -/
theorem beok_iff {M : Int} {ys : List (Int × Int)} : BeOk M ys ↔ ys.Pairwise (fun a b => a.1 < b.1) ∧ (∀ y ∈ ys, EcIn y) ∧ EpOk M := by
  constructor
  · intro h
    refine ⟨List.pairwise_iff_getElem.2 fun i j hi hj hij => ?_, fun y hy => ?_, h.2⟩
    · have := h.mono hij hj
      rwa [ec_get hi, ec_get hj] at this
    · obtain ⟨i, hi, rfl⟩ := List.mem_iff_getElem.1 hy
      have := h.1 i hi
      unfold EcAt at this
      rw [ec_get hi] at this
      exact ⟨this.1, this.2.2⟩
  · rintro ⟨h1, h2, h3⟩
    refine ⟨fun i hi => ?_, h3⟩
    have h4 := h2 _ (List.getElem_mem hi)
    unfold EcAt
    rw [ec_get hi]
    refine ⟨h4.1, fun hp => ?_, h4.2⟩
    rw [ec_get (show i - 1 < ys.length by omega)]
    exact List.pairwise_iff_getElem.1 h1 (i - 1) i (by omega) hi (by omega)
/-- Without an echo it is right still. -/
theorem wout_ok {M : Int} {ys : List (Int × Int)} (h : BeOk M ys) (id : Int) : BeOk M (wout ys id) := by
  obtain ⟨h1, h2, h3⟩ := beok_iff.1 h
  exact beok_iff.2 ⟨h1.sublist List.filter_sublist, fun y hy => h2 y (List.mem_filter.1 hy).1, h3⟩
/-- What is below an id; what is above it. -/
def loE (ys : List (Int × Int)) (id : Int) : List (Int × Int) := ys.filter fun y => decide (y.1 < id)
def hiE (ys : List (Int × Int)) (id : Int) : List (Int × Int) := ys.filter fun y => decide (id < y.1)
theorem hiE_nil {ys : List (Int × Int)} {id : Int} {k : Nat} (hk : k ≤ ys.length) (h : ∀ i, i < k → (ys.getD i (0, 0)).1 < id) : hiE (ys.take k) id = [] := by
  unfold hiE
  rw [List.filter_eq_nil_iff]
  intro y hy
  obtain ⟨i, hi, rfl⟩ := List.mem_iff_getElem.1 hy
  have hi' : i < k := by simp at hi; omega
  have := h i hi'
  rw [ec_get (show i < ys.length by omega)] at this
  rw [List.getElem_take]
  simp
  omega
theorem wkF_eq {M : Int} {ys : List (Int × Int)} (h : BeOk M ys) (id ep : Int) : ∀ k, k ≤ ys.length →
    ((wkF ys id ep k).2 = false → ∀ i, i < k → (ys.getD i (0, 0)).1 < id) ∧ ((wkF ys id ep k).2 = true → ∃ i, i < k ∧ id ≤ (ys.getD i (0, 0)).1) ∧
    (wkF ys id ep k).1 = loE (ys.take k) id ++ (if (wkF ys id ep k).2 then [(id, ep)] else []) ++ hiE (ys.take k) id := by
  intro k
  induction k with
  | zero => intro _; exact ⟨fun _ i hi => by omega, fun h => by simp [wkF] at h, by simp [wkF, loE, hiE]⟩
  | succ k ih =>
    intro hk
    obtain ⟨i1, i2, i3⟩ := ih (by omega)
    have hlo : loE (ys.take (k + 1)) id = loE (ys.take k) id ++ (if (ys.getD k (0, 0)).1 < id then [ys.getD k (0, 0)] else []) := by
      unfold loE; rw [take_snoc (show k < ys.length by omega), List.filter_append]; congr 1
      by_cases hc : (ys.getD k (0, 0)).1 < id
      · rw [if_pos hc, List.filter_cons_of_pos (by simpa using hc)]; rfl
      · rw [if_neg hc, List.filter_cons_of_neg (by simpa using hc)]; rfl
    have hhi : hiE (ys.take (k + 1)) id = hiE (ys.take k) id ++ (if id < (ys.getD k (0, 0)).1 then [ys.getD k (0, 0)] else []) := by
      unfold hiE; rw [take_snoc (show k < ys.length by omega), List.filter_append]; congr 1
      by_cases hc : id < (ys.getD k (0, 0)).1
      · rw [if_pos hc, List.filter_cons_of_pos (by simpa using hc)]; rfl
      · rw [if_neg hc, List.filter_cons_of_neg (by simpa using hc)]; rfl
    cases hd : (wkF ys id ep k).2 with
    | true =>
      obtain ⟨j, hj, hj2⟩ := i2 hd
      have h1 := h.mono hj (show k < ys.length by omega)
      have he : (ys.getD k (0, 0)).1 ≠ id := by omega
      have a1 : ¬ (ys.getD k (0, 0)).1 < id := by omega
      have a2 : id < (ys.getD k (0, 0)).1 := by omega
      rw [wk_neD he hd, hlo, hhi, if_neg a1, if_pos a2, i3, hd]
      refine ⟨fun h => (by cases h), fun _ => ⟨j, by omega, hj2⟩, ?_⟩
      simp only [if_true, List.append_nil, List.append_assoc]
    | false =>
      have hn := hiE_nil (by omega) (i1 hd)
      rw [hn, hd] at i3
      by_cases hc : id ≤ (ys.getD k (0, 0)).1
      · by_cases he : (ys.getD k (0, 0)).1 = id
        · have a1 : ¬ (ys.getD k (0, 0)).1 < id := by omega
          have a2 : ¬ id < (ys.getD k (0, 0)).1 := by omega
          rw [wk_eqH he hd hc, hlo, hhi, if_neg a1, if_neg a2, i3, hn]
          refine ⟨fun h => (by cases h), fun _ => ⟨k, by omega, hc⟩, ?_⟩
          simp only [Bool.false_eq_true, if_false, if_true, List.append_nil]
        · have a1 : ¬ (ys.getD k (0, 0)).1 < id := by omega
          have a2 : id < (ys.getD k (0, 0)).1 := by omega
          rw [wk_neH he hd hc, hlo, hhi, if_neg a1, if_pos a2, i3, hn]
          refine ⟨fun h => (by cases h), fun _ => ⟨k, by omega, hc⟩, ?_⟩
          simp only [Bool.false_eq_true, if_false, if_true, List.append_nil, List.append_assoc, List.nil_append]
      · have a1 : (ys.getD k (0, 0)).1 < id := by omega
        have a2 : ¬ id < (ys.getD k (0, 0)).1 := by omega
        have he : (ys.getD k (0, 0)).1 ≠ id := by omega
        rw [wk_neF he hd hc, hlo, hhi, if_pos a1, if_neg a2, i3, hn]
        refine ⟨fun _ i hi => ?_, fun h => (by cases h), ?_⟩
        · by_cases e : i = k
          · subst e; omega
          · exact i1 hd i (by omega)
        · simp only [Bool.false_eq_true, if_false, List.append_nil]
/-- With an echo: those below, the new one, those above. -/
theorem winF_eq {M : Int} {ys : List (Int × Int)} (h : BeOk M ys) (id ep : Int) : winF ys id ep = loE ys id ++ [(id, ep)] ++ hiE ys id := by
  obtain ⟨i1, _, i3⟩ := wkF_eq h id ep ys.length (Nat.le_refl _)
  unfold winF
  cases hd : (wkF ys id ep ys.length).2 with
  | true => rw [i3, hd, List.take_length]; simp
  | false =>
    have hn := hiE_nil (Nat.le_refl _) (i1 hd)
    rw [i3, hd, hn]
    rw [List.take_length] at *
    simp [hn]
/-- With an echo in its bounds it is right still; with another one it is not. -/
theorem winF_ok {M : Int} {ys : List (Int × Int)} (h : BeOk M ys) (id ep : Int) : BeOk M (winF ys id ep) ↔ EcIn (id, ep) := by
  rw [winF_eq h]
  obtain ⟨h1, h2, h3⟩ := beok_iff.1 h
  rw [beok_iff]
  constructor
  · rintro ⟨_, k2, _⟩
    exact k2 _ (by simp)
  · intro he
    refine ⟨?_, fun y hy => ?_, h3⟩
    · rw [List.append_assoc, List.pairwise_append]
      refine ⟨h1.sublist List.filter_sublist, ?_, ?_⟩
      · rw [List.singleton_append, List.pairwise_cons]
        refine ⟨fun y hy => ?_, h1.sublist List.filter_sublist⟩
        have := (List.mem_filter.1 hy).2
        simpa using this
      · intro a ha b hb
        have h4 := (List.mem_filter.1 ha).2
        simp at h4
        rw [List.singleton_append, List.mem_cons] at hb
        rcases hb with rfl | hb
        · exact h4
        · have h5 := (List.mem_filter.1 hb).2
          simp at h5
          omega
    · rw [List.mem_append, List.mem_append] at hy
      rcases hy with (hy | hy) | hy
      · exact h2 y (List.mem_filter.1 hy).1
      · simp at hy; rw [hy]; exact he
      · exact h2 y (List.mem_filter.1 hy).1
#print axioms winF_ok
end Go.Proofs.Ytaflgabjpcfgpaa
