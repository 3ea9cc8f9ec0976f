/- Mathematics of timers: a new one keeps their order. No walks. -/
import Derived.Test.YtmgipedpggpkoaaWmt
namespace Go.Proofs.Ytmgipedpggpkoaa
set_option maxRecDepth 100000

/-- The new timer ahead of the first one that comes behind it. -/
def insR (key at_ : Int) : List Tm → List Tm
  | [] => [(at_, key)]
  | y :: r => if later key at_ y then (at_, key) :: y :: r else y :: insR key at_ r
theorem insL_eq (key at_ : Int) (l : List Tm) : insL l key at_ = insR key at_ l := by
  have ht : ∀ (l xs : List Tm), l.foldl (insS key at_) (xs, true) = (xs ++ l, true) := by
    intro l
    induction l with
    | nil => intro xs; rw [List.append_nil]; rfl
    | cons y r ih =>
      intro xs
      have e : insS key at_ (xs, true) y = (xs ++ [y], true) := by unfold insS; rw [if_neg (fun h => by cases h.1)]
      rw [List.foldl_cons, e, ih, List.append_assoc]
      rfl
  have hf : ∀ (l xs : List Tm), (if (l.foldl (insS key at_) (xs, false)).2 then (l.foldl (insS key at_) (xs, false)).1 else (l.foldl (insS key at_) (xs, false)).1 ++ [(at_, key)]) = xs ++ insR key at_ l := by
    intro l
    induction l with
    | nil => intro xs; rfl
    | cons y r ih =>
      intro xs
      rw [List.foldl_cons]
      by_cases hp : later key at_ y
      · have e : insS key at_ (xs, false) y = (xs ++ [(at_, key), y], true) := by unfold insS; rw [if_pos ⟨rfl, hp⟩]
        rw [e, ht, if_pos rfl]
        show _ = xs ++ (if later key at_ y then (at_, key) :: y :: r else y :: insR key at_ r)
        rw [if_pos hp]
        simp
      · have e : insS key at_ (xs, false) y = (xs ++ [y], false) := by unfold insS; rw [if_neg (fun h => hp h.2)]
        rw [e, ih]
        show _ = xs ++ (if later key at_ y then (at_, key) :: y :: r else y :: insR key at_ r)
        rw [if_neg hp]
        simp
  exact hf l []
theorem insR_srt {key at_ : Int} {l : List Tm} (h : l.Pairwise ltT) (hk : ∀ y ∈ l, y.2 ≠ key) : (insR key at_ l).Pairwise ltT ∧ ∀ z ∈ insR key at_ l, z = (at_, key) ∨ z ∈ l := by
  induction l with
  | nil => exact ⟨List.pairwise_singleton _ _, fun z hz => .inl (List.mem_singleton.1 hz)⟩
  | cons y r ih =>
    obtain ⟨h1, h2⟩ := List.pairwise_cons.1 h
    obtain ⟨i1, i2⟩ := ih h2 (fun z hz => hk z (by simp [hz]))
    show (if later key at_ y then (at_, key) :: y :: r else y :: insR key at_ r).Pairwise ltT ∧ ∀ z ∈ (if later key at_ y then (at_, key) :: y :: r else y :: insR key at_ r), z = (at_, key) ∨ z ∈ y :: r
    by_cases hp : later key at_ y
    · rw [if_pos hp]
      have hy : ltT (at_, key) y := by
        rcases hp with h | h
        · exact .inl h
        · exact .inr ⟨h.1.symm, h.2⟩
      refine ⟨List.pairwise_cons.2 ⟨fun z hz => ?_, h⟩, fun z hz => ?_⟩
      · rcases List.mem_cons.1 hz with rfl | hz
        · exact hy
        · have h3 := h1 z hz
          unfold ltT at *
          simp only at *
          omega
      · rcases List.mem_cons.1 hz with rfl | hz
        · exact .inl rfl
        · exact .inr hz
    · rw [if_neg hp]
      have hne := hk y (by simp)
      have hy : ltT y (at_, key) := by
        unfold later at hp
        unfold ltT
        simp only
        omega
      refine ⟨List.pairwise_cons.2 ⟨fun z hz => ?_, i1⟩, fun z hz => ?_⟩
      · rcases i2 z hz with rfl | hz
        · exact hy
        · exact h1 z hz
      · rcases List.mem_cons.1 hz with rfl | hz
        · exact .inr (by simp)
        · exact (i2 z hz).imp (fun h => h) (fun h => by simp [h])
theorem tok_set {l : List Tm} (h : TOk l) (key at_ : Int) : TOk (setL l key at_) := by
  unfold setL
  by_cases hb : badT key at_
  · rw [if_pos hb]
    exact h
  · rw [if_neg hb]
    by_cases hf : issetL l key = false ∧ 1024 ≤ l.length
    · rw [if_pos hf]
      exact h
    · rw [if_neg hf]
      have hp := insL_perm (stopL l key) key at_
      have hs := insR_srt (at_ := at_) (h.srt.sublist (List.filter_sublist (p := fun y => !isKey key y))) (stop_none l key)
      rw [← insL_eq] at hs
      have hl := stop_len l key
      refine ⟨hs.1, ?_, fun y hy => ?_, ?_⟩
      · refine (hp.map (·.2)).nodup_iff.2 ?_
        rw [List.map_cons, List.nodup_cons]
        refine ⟨fun hm => ?_, h.nd.sublist (List.Sublist.map _ List.filter_sublist)⟩
        obtain ⟨y, hy, e⟩ := List.mem_map.1 hm
        exact stop_none l key y hy e
      · rcases hs.2 y hy with rfl | hy
        · unfold badT at hb
          show 0 ≤ at_ ∧ at_ ≤ 1000000000000 ∧ 0 ≤ key
          omega
        · exact h.rg y (List.mem_filter.1 hy).1
      · rw [hp.length_eq, List.length_cons]
        by_cases hi : issetL l key = true
        · have := (isset_count l key).1 hi
          have := h.len
          omega
        · have hi2 : issetL l key = false := by simpa using hi
          have : ¬ 1024 ≤ l.length := fun h => hf ⟨hi2, h⟩
          omega
end Go.Proofs.Ytmgipedpggpkoaa
