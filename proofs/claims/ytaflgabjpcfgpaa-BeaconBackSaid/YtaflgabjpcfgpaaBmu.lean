/- Mathematics of beacons: members; what is heard; the order of putting. No conditions. -/
import Derived.Test.YtaflgabjpcfgpaaBmt
namespace Go.Proofs.Ytaflgabjpcfgpaa

theorem sorted_ext : ∀ {xs ys : List (Int × Int)}, xs.Pairwise (fun a b => a.1 < b.1) → ys.Pairwise (fun a b => a.1 < b.1) → (∀ y, y ∈ xs ↔ y ∈ ys) → xs = ys
  | [], [], _, _, _ => rfl
  | [], y :: ys, _, _, h => absurd ((h y).2 (List.mem_cons_self)) (List.not_mem_nil)
  | x :: xs, [], _, _, h => absurd ((h x).1 (List.mem_cons_self)) (List.not_mem_nil)
  | x :: xs, y :: ys, h1, h2, h => by
    obtain ⟨a1, b1⟩ := List.pairwise_cons.1 h1
    obtain ⟨a2, b2⟩ := List.pairwise_cons.1 h2
    have e : x = y := by
      rcases List.mem_cons.1 ((h x).1 List.mem_cons_self) with e | hx
      · exact e
      · rcases List.mem_cons.1 ((h y).2 List.mem_cons_self) with e | hy
        · exact e.symm
        · have := a1 y hy
          have := a2 x hx
          omega
    subst e
    congr 1
    refine sorted_ext b1 b2 fun z => ⟨fun hz => ?_, fun hz => ?_⟩
    · rcases List.mem_cons.1 ((h z).1 (List.mem_cons_of_mem _ hz)) with e | hz2
      · subst e; have := a1 z hz; omega
      · exact hz2
    · rcases List.mem_cons.1 ((h z).2 (List.mem_cons_of_mem _ hz)) with e | hz2
      · subst e; have := a2 z hz; omega
      · exact hz2
theorem beok_ext {M : Int} {xs ys : List (Int × Int)} (h1 : BeOk M xs) (h2 : BeOk M ys) (h : ∀ y, y ∈ xs ↔ y ∈ ys) : xs = ys := sorted_ext (beok_iff.1 h1).1 (beok_iff.1 h2).1 h
theorem mem_wout {ys : List (Int × Int)} {id : Int} {y : Int × Int} : y ∈ wout ys id ↔ y ∈ ys ∧ y.1 ≠ id := by
  unfold wout
  rw [List.mem_filter]
  simp
theorem mem_winF {M : Int} {ys : List (Int × Int)} (h : BeOk M ys) {id ep : Int} {y : Int × Int} : y ∈ winF ys id ep ↔ y = (id, ep) ∨ (y ∈ ys ∧ y.1 ≠ id) := by
  rw [winF_eq h, List.mem_append, List.mem_append, List.mem_singleton]
  unfold loE hiE
  rw [List.mem_filter, List.mem_filter, decide_eq_true_iff, decide_eq_true_iff]
  constructor
  · rintro ((⟨h1, h2⟩ | h1) | ⟨h1, h2⟩)
    · exact .inr ⟨h1, by omega⟩
    · exact .inl h1
    · exact .inr ⟨h1, by omega⟩
  · rintro (h1 | ⟨h1, h2⟩)
    · exact .inl (.inr h1)
    · by_cases hc : y.1 < id
      · exact .inl (.inl ⟨h1, hc⟩)
      · exact .inr ⟨h1, by omega⟩
/-- What is heard of a right beacon. -/
theorem hear_iff {M : Int} {ys : List (Int × Int)} (h : BeOk M ys) {id e : Int} : hear ys id = some e ↔ (id, e) ∈ ys := by
  have h1 := (beok_iff.1 h).1
  clear h
  induction ys with
  | nil => simp [hear]
  | cons y ys ih =>
    obtain ⟨a1, b1⟩ := List.pairwise_cons.1 h1
    have ih2 : hear ys id = some e ↔ (id, e) ∈ ys := ih b1
    by_cases hy : y.1 = id
    · have hh : hear (y :: ys) id = some y.2 := by simp [hear, hy]
      rw [hh, List.mem_cons]
      constructor
      · intro e1
        cases e1
        exact .inl (by rw [← hy])
      · rintro (e1 | e1)
        · rw [← e1]
        · have := a1 _ e1
          simp only at this
          omega
    · have hy' : (y.1 == id) = false := by simpa using hy
      have hh : hear (y :: ys) id = hear ys id := by simp [hear, hy']
      rw [hh, ih2, List.mem_cons]
      constructor
      · exact .inr
      · rintro (e1 | e1)
        · exact absurd (by rw [← e1]) hy
        · exact e1
theorem hear_ext {M : Int} {xs ys : List (Int × Int)} (h1 : BeOk M xs) (h2 : BeOk M ys) {id : Int} (h : ∀ e, (id, e) ∈ xs ↔ (id, e) ∈ ys) : hear xs id = hear ys id := by
  cases hx : hear xs id with
  | some e => exact ((hear_iff h2).2 ((h e).1 ((hear_iff h1).1 hx))).symm
  | none =>
    cases hy : hear ys id with
    | none => rfl
    | some e =>
      have := (hear_iff h1).2 ((h e).2 ((hear_iff h2).1 hy))
      rw [hx] at this
      cases this
theorem hear_win {M : Int} {ys : List (Int × Int)} (h : BeOk M ys) {id ep : Int} (he : EcIn (id, ep)) : hear (winF ys id ep) id = some ep := (hear_iff ((winF_ok h id ep).2 he)).2 ((mem_winF h).2 (.inl rfl))
theorem hear_win_ne {M : Int} {ys : List (Int × Int)} (h : BeOk M ys) {id ep x : Int} (he : EcIn (id, ep)) (hx : x ≠ id) : hear (winF ys id ep) x = hear ys x := by
  refine hear_ext ((winF_ok h id ep).2 he) h fun e => ?_
  rw [mem_winF h]
  constructor
  · rintro (e1 | e1)
    · exact absurd (congrArg Prod.fst e1) hx
    · exact e1.1
  · exact fun e1 => .inr ⟨e1, hx⟩
theorem hear_wout {ys : List (Int × Int)} {id : Int} : hear (wout ys id) id = none := by
  cases h : hear (wout ys id) id with
  | none => rfl
  | some e =>
    unfold hear at h
    rw [Option.map_eq_some_iff] at h
    obtain ⟨y, hy, _⟩ := h
    have h1 := List.find?_some hy
    have h2 := List.mem_of_find?_eq_some hy
    exact absurd (by simpa using h1) (mem_wout.1 h2).2
theorem wout_win {M : Int} {ys : List (Int × Int)} (h : BeOk M ys) {id ep : Int} (he : EcIn (id, ep)) : wout (winF ys id ep) id = wout ys id := by
  refine beok_ext (wout_ok ((winF_ok h id ep).2 he) id) (wout_ok h id) fun y => ?_
  rw [mem_wout, mem_wout, mem_winF h]
  constructor
  · rintro ⟨e1 | e1, e2⟩
    · exact absurd (congrArg Prod.fst e1) e2
    · exact e1
  · exact fun e1 => ⟨.inr e1, e1.2⟩
theorem wout_self {ys : List (Int × Int)} {id : Int} (h : hear ys id = none) : wout ys id = ys := by
  have := (woutlen ys id).2 h
  unfold wout at *
  exact List.filter_eq_self.2 (List.length_filter_eq_length_iff.1 this)
/-- Which of two is put first plays no part. -/
theorem win_comm {M : Int} {ys : List (Int × Int)} (h : BeOk M ys) {a b p q : Int} (hab : a ≠ b) (ha : EcIn (a, p)) (hb : EcIn (b, q)) : winF (winF ys a p) b q = winF (winF ys b q) a p := by
  have h1 := (winF_ok h a p).2 ha
  have h2 := (winF_ok h b q).2 hb
  refine beok_ext ((winF_ok h1 b q).2 hb) ((winF_ok h2 a p).2 ha) fun y => ?_
  rw [mem_winF h1, mem_winF h2, mem_winF h, mem_winF h]
  constructor
  · rintro (e | ⟨e | e, e2⟩)
    · exact .inr ⟨.inl e, by rw [e]; exact fun e3 => hab e3.symm⟩
    · exact .inl e
    · exact .inr ⟨.inr ⟨e.1, e2⟩, e.2⟩
  · rintro (e | ⟨e | e, e2⟩)
    · exact .inr ⟨.inl e, by rw [e]; exact hab⟩
    · exact .inl e
    · exact .inr ⟨.inr ⟨e.1, e2⟩, e.2⟩
/-- One that stands so already. -/
theorem win_same {M : Int} {ys : List (Int × Int)} (h : BeOk M ys) {a p : Int} (hm : (a, p) ∈ ys) : winF ys a p = ys := by
  have he : EcIn (a, p) := (beok_iff.1 h).2.1 _ hm
  refine beok_ext ((winF_ok h a p).2 he) h fun y => ?_
  rw [mem_winF h]
  constructor
  · rintro (e | e)
    · rw [e]; exact hm
    · exact e.1
  · intro hy
    by_cases hc : y.1 = a
    · have h1 := (hear_iff h).2 hm
      have h2 := (hear_iff h (id := y.1) (e := y.2)).2 hy
      rw [hc, h1] at h2
      cases h2
      exact .inl (by rw [← hc])
    · exact .inr ⟨hy, hc⟩
#print axioms win_same
end Go.Proofs.Ytaflgabjpcfgpaa
