/- Mathematics of timers: a new one lies among the others, each once. No walks. -/
import Derived.Test.YtmgipedpggpkoaaWaw
namespace Go.Proofs.Ytmgipedpggpkoaa
set_option maxRecDepth 100000

theorem insF_perm (key at_ : Int) (l : List Tm) : ((insF key at_ l).2 = true ∧ (insF key at_ l).1.Perm ((at_, key) :: l)) ∨ ((insF key at_ l).2 = false ∧ (insF key at_ l).1 = l ∧ ∀ y ∈ l, ¬ later key at_ y) := by
  have h : ∀ (l : List Tm) (s : List Tm × Bool), (s.2 = true → (l.foldl (insS key at_) s).2 = true ∧ (l.foldl (insS key at_) s).1 = s.1 ++ l) ∧
      (s.2 = false → ((l.foldl (insS key at_) s).2 = true ∧ (l.foldl (insS key at_) s).1.Perm ((at_, key) :: (s.1 ++ l))) ∨ ((l.foldl (insS key at_) s).2 = false ∧ (l.foldl (insS key at_) s).1 = s.1 ++ l ∧ ∀ y ∈ l, ¬ later key at_ y)) := by
    intro l
    induction l with
    | nil => intro s; exact ⟨fun h => ⟨h, (List.append_nil _).symm⟩, fun h => .inr ⟨h, (List.append_nil _).symm, fun y hy => by cases hy⟩⟩
    | cons y r ih =>
      intro s
      rw [List.foldl_cons]
      obtain ⟨i1, i2⟩ := ih (insS key at_ s y)
      refine ⟨fun hs => ?_, fun hs => ?_⟩
      · have e : insS key at_ s y = (s.1 ++ [y], s.2) := by unfold insS; rw [if_neg (fun h => by rw [hs] at h; cases h.1)]
        rw [e] at i1 ⊢
        obtain ⟨j1, j2⟩ := i1 hs
        exact ⟨j1, by rw [j2]; simp⟩
      · by_cases hp : later key at_ y
        · have e : insS key at_ s y = (s.1 ++ [(at_, key), y], true) := by unfold insS; rw [if_pos ⟨hs, hp⟩]
          rw [e] at i1 ⊢
          obtain ⟨j1, j2⟩ := i1 rfl
          refine .inl ⟨j1, ?_⟩
          rw [j2]
          simp only [List.append_assoc, List.cons_append, List.nil_append]
          exact List.perm_middle
        · have e : insS key at_ s y = (s.1 ++ [y], s.2) := by unfold insS; rw [if_neg (fun h => hp h.2)]
          rw [e] at i2 ⊢
          rcases i2 hs with ⟨j1, j2⟩ | ⟨j1, j2, j3⟩
          · refine .inl ⟨j1, j2.trans ?_⟩
            simp
          · refine .inr ⟨j1, by rw [j2]; simp, fun z hz => ?_⟩
            rcases List.mem_cons.1 hz with rfl | hz
            · exact hp
            · exact j3 z hz
  exact (h l ([], false)).2 rfl
theorem insL_perm (l : List Tm) (key at_ : Int) : (insL l key at_).Perm ((at_, key) :: l) := by
  unfold insL
  rcases insF_perm key at_ l with ⟨h1, h2⟩ | ⟨h1, h2, _⟩
  · rw [if_pos h1]; exact h2
  · rw [if_neg (by rw [h1]; simp), h2]
    exact List.perm_append_comm
theorem stop_none (l : List Tm) (key : Int) : ∀ y ∈ stopL l key, y.2 ≠ key := by
  intro y hy
  have := (List.mem_filter.1 hy).2
  simpa [isKey] using this
theorem stop_count (l : List Tm) (key : Int) : (stopL l key).countP (isKey key) = 0 :=
  List.countP_eq_zero.2 fun y hy => by have := stop_none l key y hy; simpa [isKey] using this
theorem stop_len (l : List Tm) (key : Int) : (stopL l key).length + l.countP (isKey key) = l.length := by
  have h := List.length_eq_countP_add_countP (isKey key) (l := l)
  have h2 : (stopL l key).length = l.countP (fun y => decide ¬ isKey key y = true) := by
    unfold stopL
    rw [List.countP_eq_length_filter]
    congr 1
    refine List.filter_congr fun y _ => ?_
    cases isKey key y <;> rfl
  omega
theorem isset_count (l : List Tm) (key : Int) : issetL l key = true ↔ 0 < l.countP (isKey key) := by
  unfold issetL
  rw [List.any_eq_true, List.countP_pos_iff]
/-- What a key that has been set is. -/
theorem set_ok {l : List Tm} {key at_ : Int} (h : setE l key at_ = 0) : setL l key at_ = insL (stopL l key) key at_ ∧ (setL l key at_).countP (isKey key) = 1 ∧ (∀ y ∈ setL l key at_, y.2 = key → y.1 = at_) ∧ stopE (setL l key at_) key = 0 ∧ (stopL (setL l key at_) key).length + 1 = (setL l key at_).length ∧ stopE (stopL (setL l key at_) key) key = 7 := by
  have e : setL l key at_ = insL (stopL l key) key at_ := by
    unfold setE at h
    unfold setL
    by_cases h1 : badT key at_
    · rw [if_pos h1] at h; cases h
    · rw [if_neg h1] at h ⊢
      by_cases h2 : issetL l key = false ∧ 1024 ≤ l.length
      · rw [if_pos h2] at h; cases h
      · rw [if_neg h2]
  have hp := insL_perm (stopL l key) key at_
  have hc : (setL l key at_).countP (isKey key) = 1 := by
    rw [e, hp.countP_eq, List.countP_cons_of_pos (by simp [isKey]), stop_count]
  refine ⟨e, hc, fun y hy hk => ?_, ?_, ?_, ?_⟩
  · rw [e] at hy
    rcases List.mem_cons.1 (hp.mem_iff.1 hy) with rfl | hy
    · rfl
    · exact absurd hk (stop_none l key y hy)
  · unfold stopE
    rw [if_pos ((isset_count _ _).2 (by rw [hc]; decide))]
  · have := stop_len (setL l key at_) key
    omega
  · unfold stopE
    rw [if_neg (fun h => by have := (isset_count _ _).1 h; rw [stop_count] at this; omega)]
theorem cnt_stepM (l : List Tm) (key : Int) (k : Nat) (h : k < l.length) : (l.take (k + 1)).countP (isKey key) = (l.take k).countP (isKey key) + if (l.getD k zTm).2 = key then 1 else 0 := by
  rw [tm_take l k h, List.countP_append]
  simp [isKey, List.countP_cons]
theorem tok_next {l : List Tm} (h : TOk l) {j : Nat} (hj : j + 1 < l.length) : ltT (l.getD j zTm) (l.getD (j + 1) zTm) := by
  have := List.pairwise_iff_getElem.1 h.srt j (j + 1) (by omega) hj (by omega)
  simpa [List.getD, hj, show j < l.length by omega] using this
end Go.Proofs.Ytmgipedpggpkoaa
