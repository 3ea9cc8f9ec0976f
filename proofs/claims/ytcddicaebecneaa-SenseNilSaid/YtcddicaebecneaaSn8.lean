/- Mathematics of sensors: what stays right, what is said, what is there. No walks. -/
import Derived.Test.YtcddicaebecneaaSn6
import Derived.Test.YtcddicaebecneaaSn7
namespace Go.Proofs.Ytcddicaebecneaa
set_option maxRecDepth 100000

/-- What is remembered of a node may be. -/
def HdOk (now : Int) (h : Hd) : Prop := (h.1 = false → h = zHd) ∧ (h.1 = true → EpOk h.2.1 ∧ 0 ≤ h.2.2.1 ∧ h.2.2.1 ≤ now)
/-- A sensor that may be. -/
structure SnOk (s : Sn) : Prop where
  len : s.L.length = 64
  id0 : 0 ≤ s.id
  id1 : s.id < 64
  ep : EpOk s.ep
  hold : 1 ≤ s.hold
  now0 : 0 ≤ s.now
  now1 : s.now ≤ 1000000000000
  at_ : ∀ i, i < 64 → HdOk s.now (s.L.getD i zHd)
  self : s.L.getD s.id.toNat zHd = zHd
theorem hdok_zero (now : Int) : HdOk now zHd := ⟨fun _ => rfl, fun h => by cases h⟩
theorem HdOk.mono {now now' : Int} {h : Hd} (hh : HdOk now h) (hn : now ≤ now') : HdOk now' h := ⟨hh.1, fun h1 => ⟨(hh.2 h1).1, (hh.2 h1).2.1, Int.le_trans (hh.2 h1).2.2 hn⟩⟩
theorem snok_new {id ep hold : Int} (h : newOk id ep hold) : SnOk (sn0 id ep hold) :=
  ⟨List.length_replicate, h.1, h.2.1, h.2.2.1, h.2.2.2.1, Int.le_refl _, by show (0 : Int) ≤ _; decide, fun i _ => by rw [show (sn0 id ep hold).L.getD i zHd = zHd from rep_at 64 i]; exact hdok_zero _, rep_at 64 _⟩
theorem SnOk.at {s : Sn} (h : SnOk s) : AtOk s := by
  refine ⟨fun i hi => ?_, h.now0⟩
  obtain ⟨h1, h2⟩ := h.at_ i hi
  cases e : (s.L.getD i zHd).1 with
  | false => rw [h1 e]; exact ⟨Int.le_refl _, by show (0 : Int) ≤ _; decide⟩
  | true => exact ⟨(h2 e).2.1, Int.le_trans (h2 e).2.2 h.now1⟩
theorem tm_le {s : Sn} {now : Int} (h : tmB s now = true) : s.now ≤ now ∧ now ≤ 1000000000000 := by
  unfold tmB at h
  rw [Bool.and_eq_true, decide_eq_true_iff, decide_eq_true_iff] at h
  exact h
theorem tkL_get (now hold : Int) (L : List Hd) (hL : L.length = 64) (i : Nat) (hi : i < 64) : (tkL now hold L 64).getD i zHd = frg now hold (L.getD i zHd) := by
  unfold tkL
  rw [List.take_of_length_le (by omega), List.drop_eq_nil_of_le (by omega), List.append_nil]
  simp [List.getD, hL, hi]
theorem snok_tick {s : Sn} (h : SnOk s) (now : Int) : SnOk (tickS s now) := by
  unfold tickS
  cases ht : tmB s now with
  | false => exact h
  | true =>
    obtain ⟨h1, h2⟩ := tm_le ht
    have hlen : (tkL now s.hold s.L 64).length = 64 := by
      unfold tkL
      rw [List.length_append, List.length_map, List.length_take, List.length_drop, h.len]
      rfl
    refine ⟨hlen, h.id0, h.id1, h.ep, h.hold, Int.le_trans h.now0 h1, h2, fun i hi => ?_, ?_⟩
    · show HdOk now ((tkL now s.hold s.L 64).getD i zHd)
      rw [tkL_get _ _ _ h.len i hi]
      unfold frg
      split
      · exact hdok_zero _
      · exact (h.at_ i hi).mono h1
    · show (tkL now s.hold s.L 64).getD s.id.toNat zHd = zHd
      rw [tkL_get _ _ _ h.len _ (by have := h.id0; have := h.id1; omega), h.self]
      unfold frg
      split <;> rfl
theorem hearR_cases (s : Sn) (now fr M : Int) (ys : List (Int × Int)) : (hearR s now fr M ys = ([], 1, s)) ∨ (hearR s now fr M ys = ([], 10, s)) ∨
    (okH s now fr M ys ∧ old1 (hdAt s fr) M = false ∧ hearR s now fr M ys = (out1 (hdAt s fr) fr M ++ out2 fr M (seesB s ys) (th1 (hdAt s fr) M), 0, { s with now := now, L := s.L.set fr.toNat (true, M, now, seesB s ys) })) := by
  by_cases h : okH s now fr M ys
  · cases h2 : old1 (hdAt s fr) M with
    | true => exact .inr (.inl (hear_old h h2))
    | false => exact .inr (.inr ⟨h, rfl, by unfold hearR; rw [if_pos h, if_neg (by rw [h2]; decide)]⟩)
  · exact .inl (hear_bad h)
theorem snok_hear {s : Sn} (h : SnOk s) (now fr M : Int) (ys : List (Int × Int)) : SnOk (hearR s now fr M ys).2.2 := by
  rcases hearR_cases s now fr M ys with e | e | ⟨ho, _, e⟩
  · rw [e]; exact h
  · rw [e]; exact h
  · rw [e]
    obtain ⟨o1, o2, o3, o4, o5⟩ := ho
    obtain ⟨h1, h2⟩ := tm_le o1
    refine ⟨by show (s.L.set _ _).length = 64; rw [List.length_set]; exact h.len, h.id0, h.id1, h.ep, h.hold, Int.le_trans h.now0 h1, h2, fun i hi => ?_, ?_⟩
    · show HdOk now ((s.L.set fr.toNat (true, M, now, seesB s ys)).getD i zHd)
      by_cases e : fr.toNat = i
      · have e2 : (s.L.set fr.toNat (true, M, now, seesB s ys)).getD i zHd = (true, M, now, seesB s ys) := by simp [List.getD, e, h.len, hi]
        rw [e2]
        exact ⟨fun h => (by cases h), fun _ => ⟨o5.2, Int.le_trans h.now0 h1, Int.le_refl _⟩⟩
      · have e2 : (s.L.set fr.toNat (true, M, now, seesB s ys)).getD i zHd = s.L.getD i zHd := by simp [List.getD, e]
        rw [e2]
        exact (h.at_ i hi).mono h1
    · show (s.L.set fr.toNat (true, M, now, seesB s ys)).getD s.id.toNat zHd = zHd
      have e2 : (s.L.set fr.toNat (true, M, now, seesB s ys)).getD s.id.toNat zHd = s.L.getD s.id.toNat zHd := by
        have : ¬ fr.toNat = s.id.toNat := fun e => o4 (by have := h.id0; omega)
        simp [List.getD, this]
      rw [e2]
      exact h.self
/-- What is among the echoes. -/
theorem ech_mem (f : Hd → Bool) (L : List Hd) (k : Nat) (y : Int × Int) : y ∈ echF f L k ↔ ∃ i, i < k ∧ f (L.getD i zHd) = true ∧ y = ((i : Int), (L.getD i zHd).2.1) := by
  induction k with
  | zero => exact ⟨fun h => (by cases h), fun ⟨i, h, _⟩ => absurd h (Nat.not_lt_zero _)⟩
  | succ k ih =>
    show y ∈ echF f L k ++ (if f (L.getD k zHd) = true then [((k : Int), (L.getD k zHd).2.1)] else []) ↔ _
    rw [List.mem_append, ih]
    constructor
    · rintro (⟨i, h1, h2, h3⟩ | h)
      · exact ⟨i, by omega, h2, h3⟩
      · by_cases hf : f (L.getD k zHd) = true
        · rw [if_pos hf, List.mem_singleton] at h
          exact ⟨k, by omega, hf, h⟩
        · rw [if_neg hf] at h
          cases h
    · rintro ⟨i, h1, h2, h3⟩
      by_cases e : i = k
      · subst e
        exact .inr (by rw [if_pos h2, List.mem_singleton]; exact h3)
      · exact .inl ⟨i, by omega, h2, h3⟩
theorem ech_rise (f : Hd → Bool) (L : List Hd) (k : Nat) : (echF f L k).Pairwise (fun a b => a.1 < b.1) := by
  induction k with
  | zero => exact List.Pairwise.nil
  | succ k ih =>
    show (echF f L k ++ (if f (L.getD k zHd) = true then [((k : Int), (L.getD k zHd).2.1)] else [])).Pairwise _
    refine List.pairwise_append.2 ⟨ih, ?_, fun a ha b hb => ?_⟩
    · split
      · exact List.pairwise_singleton _ _
      · exact List.Pairwise.nil
    · obtain ⟨i, h1, _, rfl⟩ := (ech_mem f L k a).1 ha
      split at hb
      · rw [List.mem_singleton.1 hb]
        show (i : Int) < (k : Int)
        omega
      · cases hb
theorem ech_mono (f f' : Hd → Bool) (hf : ∀ h, f h = true → f' h = true) (L : List Hd) (k : Nat) : (echF f L k).length ≤ (echF f' L k).length := by
  induction k with
  | zero => exact Nat.le_refl _
  | succ k ih =>
    show (echF f L k ++ (if f (L.getD k zHd) = true then [((k : Int), (L.getD k zHd).2.1)] else [])).length ≤ (echF f' L k ++ (if f' (L.getD k zHd) = true then [((k : Int), (L.getD k zHd).2.1)] else [])).length
    rw [List.length_append, List.length_append]
    by_cases h1 : f (L.getD k zHd) = true
    · rw [if_pos h1, if_pos (hf _ h1)]
      simp only [List.length_cons, List.length_nil]; omega
    · rw [if_neg h1]
      simp only [List.length_nil]; omega
/-- Rows that rise: what is heard in them. -/
theorem hear_mem {ys : List (Int × Int)} (hr : ys.Pairwise (fun a b => a.1 < b.1)) (id n : Int) : hear ys id = some n ↔ (id, n) ∈ ys := by
  unfold hear
  induction ys with
  | nil => simp
  | cons y r ih =>
    obtain ⟨h1, h2⟩ := List.pairwise_cons.1 hr
    rw [List.find?_cons]
    by_cases e : y.1 = id
    · have e' : (y.1 == id) = true := by simpa using e
      rw [e']
      simp only [Option.map_some, Option.some.injEq, List.mem_cons]
      constructor
      · intro h; exact .inl (Prod.ext e.symm h.symm)
      · rintro (h | h)
        · rw [← h]
        · have := h1 _ h
          simp only at this
          omega
    · have e' : (y.1 == id) = false := by simpa using e
      rw [e']
      simp only [List.mem_cons]
      rw [ih h2]
      constructor
      · exact .inr
      · rintro (h | h)
        · exact absurd (by rw [← h]) e
        · exact h
/-- A beacon of rows that rise is right. -/
theorem beok_of {M : Int} {ys : List (Int × Int)} (hr : ys.Pairwise (fun a b => a.1 < b.1)) (hm : ∀ y ∈ ys, 0 ≤ y.1 ∧ y.1 < 64 ∧ EpOk y.2) (hM : EpOk M) : BeOk M ys := by
  refine ⟨fun i hi => ?_, hM⟩
  have e : ys.getD i (0, 0) = ys[i] := by simp [List.getD, hi]
  obtain ⟨m1, m2, m3⟩ := hm ys[i] (List.getElem_mem hi)
  unfold EcAt
  rw [e]
  refine ⟨⟨m1, m2⟩, fun h0 => ?_, m3⟩
  have e2 : ys.getD (i - 1) (0, 0) = ys[i - 1] := by simp [List.getD, show i - 1 < ys.length by omega]
  rw [e2]
  exact List.pairwise_iff_getElem.1 hr (i - 1) i (by omega) hi (by omega)
/-- What a sensor says: right, of all links, not of itself. -/
theorem says {s : Sn} (h : SnOk s) : BeOk s.ep (beaL s) ∧ hear (beaL s) s.id = none ∧ (lnkL s).length ≤ (beaL s).length ∧ ∀ y ∈ lnkL s, hear (beaL s) y.1 = some y.2 := by
  have hth : ∀ i, i < 64 → (s.L.getD i zHd).2.2.2 = true → (s.L.getD i zHd).1 = true := fun i hi ht => by
    cases e : (s.L.getD i zHd).1 with
    | true => rfl
    | false => rw [(h.at_ i hi).1 e] at ht; cases ht
  have hmem : ∀ y ∈ lnkL s, y ∈ beaL s := fun y hy => by
    obtain ⟨i, h1, h2, h3⟩ := (ech_mem _ _ _ y).1 hy
    exact (ech_mem _ _ _ y).2 ⟨i, h1, hth i h1 h2, h3⟩
  refine ⟨beok_of (ech_rise _ _ _) (fun y hy => ?_) h.ep, ?_, ?_, fun y hy => (hear_mem (ech_rise _ _ _) y.1 y.2).2 (hmem y hy)⟩
  · obtain ⟨i, h1, h2, rfl⟩ := (ech_mem _ _ _ y).1 hy
    exact ⟨by show (0 : Int) ≤ (i : Int); omega, by show (i : Int) < 64; omega, ((h.at_ i h1).2 h2).1⟩
  · cases e : hear (beaL s) s.id with
    | none => rfl
    | some n =>
      obtain ⟨i, h1, h2, h3⟩ := (ech_mem _ _ _ _).1 ((hear_mem (ech_rise _ _ _) s.id n).1 e)
      have e1 : s.id = (i : Int) := congrArg Prod.fst h3
      have e2 : s.id.toNat = i := by omega
      rw [← e2, h.self] at h2
      cases h2
  · unfold lnkL beaL
    have key : ∀ k, k ≤ 64 → (echF (fun h => h.2.2.2) s.L k).length ≤ (echF (fun h => h.1) s.L k).length := by
      intro k
      induction k with
      | zero => intro _; exact Nat.le_refl _
      | succ k ih =>
        intro hk
        show (echF (fun h => h.2.2.2) s.L k ++ (if (s.L.getD k zHd).2.2.2 = true then [((k : Int), (s.L.getD k zHd).2.1)] else [])).length ≤ (echF (fun h => h.1) s.L k ++ (if (s.L.getD k zHd).1 = true then [((k : Int), (s.L.getD k zHd).2.1)] else [])).length
        rw [List.length_append, List.length_append]
        have := ih (by omega)
        by_cases h1 : (s.L.getD k zHd).2.2.2 = true
        · rw [if_pos h1, if_pos (hth k (by omega) h1)]
          simp only [List.length_cons, List.length_nil]; omega
        · rw [if_neg h1]
          simp only [List.length_nil]; omega
    exact key 64 (Nat.le_refl _)
end Go.Proofs.Ytcddicaebecneaa
