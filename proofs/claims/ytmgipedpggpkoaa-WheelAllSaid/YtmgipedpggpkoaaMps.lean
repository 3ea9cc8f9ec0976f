/- Mathematics of a map of times and the timers that it holds. No walks. -/
import Derived.Test.YtmgipedpggpkoaaMpw
import Derived.Test.YtmgipedpggpkoaaWmt
import Derived.Maps.Views
namespace Go.Proofs.Ytmgipedpggpkoaa
set_option maxRecDepth 100000
open Go.RowKit Go.Maps

/-- A map of times that holds just the timers of l. -/
structure Mtc (D : DataW Unit) (l : List Tm) : Prop where
  has : ∀ k : Int, Maps.has D (.int .i64 k) = issetL l k
  at_ : ∀ y ∈ l, ∀ z, D.atKey (.int .i64 y.2) z = .lit (.int .i64 y.1)
  size : Maps.size D = l.length
  tidy : Tidy D
theorem mtc_nil : Mtc (.map []) [] := ⟨fun _ => rfl, (fun _ hy => nomatch hy), rfl, tidy_empty⟩
theorem keyLit (k : Int) : WideAt.IsKeyLit (.int .i64 k) := by first | trivial | simp [WideAt.IsKeyLit] | exact rfl
theorem lit_ne {a b : Int} (h : a ≠ b) : (Lit.int .i64 a) ≠ .int .i64 b := fun e => h (by cases e; rfl)
theorem nd_count {l : List Tm} (h : (l.map (·.2)).Nodup) (key : Int) : l.countP (isKey key) = if issetL l key then 1 else 0 := by
  have h1 : l.countP (isKey key) = (l.map (·.2)).count key := by
    rw [List.count, List.countP_map]
    rfl
  have h2 := List.nodup_iff_count.1 h key
  have h3 := isset_count l key
  by_cases hs : issetL l key = true
  · rw [if_pos hs]
    have := h3.1 hs
    omega
  · rw [if_neg hs]
    rcases Nat.eq_zero_or_pos (l.countP (isKey key)) with h4 | h4
    · exact h4
    · exact absurd (h3.2 h4) hs
theorem isset_stop (l : List Tm) (key k : Int) : issetL (stopL l key) k = (issetL l k && (k != key)) := by
  unfold issetL stopL
  rw [List.any_filter]
  induction l with
  | nil => rfl
  | cons y r ih =>
    rw [List.any_cons, List.any_cons, ih]
    have : (!isKey key y && isKey k y) = (isKey k y && (k != key)) := by
      unfold isKey
      by_cases h : y.2 = k
      · subst h
        have e1 : (y.2 == y.2) = true := beq_self_eq_true y.2
        rw [e1, Bool.and_true, Bool.true_and]
        rfl
      · have e1 : (y.2 == k) = false := by simpa using h
        rw [e1, Bool.and_false, Bool.false_and]
    rw [this]
    cases isKey k y <;> cases List.any r (isKey k) <;> cases (k != key) <;> rfl
theorem Mtc.put {D : DataW Unit} {l : List Tm} (h : Mtc D l) (nd : (l.map (·.2)).Nodup) (key at_ : Int) {l' : List Tm} (hp : l'.Perm ((at_, key) :: stopL l key)) : Mtc (D.put (.int .i64 key) (.lit (.int .i64 at_))) l' := by
  refine ⟨fun k => ?_, fun y hy z => ?_, ?_, h.tidy.put (keyLit key) _⟩
  · have e : issetL l' k = issetL ((at_, key) :: stopL l key) k := by
      unfold issetL
      exact hp.any_eq
    rw [e]
    by_cases hk : k = key
    · subst hk
      rw [has_put_same h.tidy.isMap (keyLit k)]
      unfold issetL
      rw [List.any_cons]
      simp [isKey]
    · rw [has_put_other (lit_ne hk), h.has]
      have : issetL ((at_, key) :: stopL l key) k = issetL (stopL l key) k := by
        unfold issetL
        rw [List.any_cons]
        have hn : isKey k (at_, key) = false := by simpa [isKey] using fun e => hk e.symm
        rw [hn, Bool.false_or]
      rw [this, isset_stop]
      have hn : (k != key) = true := by simpa using hk
      rw [hn, Bool.and_true]
  · rcases List.mem_cons.1 (hp.mem_iff.1 hy) with rfl | hy
    · exact atKey_put_same h.tidy.isMap (keyLit key) _ z
    · rw [atKey_put_other (lit_ne (stop_none l key y hy))]
      exact h.at_ y (List.mem_filter.1 hy).1 z
  · rw [size_put h.tidy, h.has, h.size, hp.length_eq, List.length_cons]
    have h1 := stop_len l key
    rw [nd_count nd key] at h1
    cases hs : issetL l key with
    | true => rw [hs] at h1; simp at h1 ⊢; omega
    | false => rw [hs] at h1; simp at h1 ⊢; omega
theorem Mtc.del {D : DataW Unit} {l : List Tm} (h : Mtc D l) (nd : (l.map (·.2)).Nodup) (key : Int) : Mtc (D.del (.int .i64 key)) (stopL l key) := by
  refine ⟨fun k => ?_, fun y hy z => ?_, ?_, h.tidy.del _⟩
  · rw [isset_stop]
    by_cases hk : k = key
    · subst hk
      rw [has_del_same]
      simp
    · rw [has_del_other (lit_ne hk), h.has]
      have hn : (k != key) = true := by simpa using hk
      rw [hn, Bool.and_true]
  · rw [atKey_del_other (lit_ne (stop_none l key y hy))]
    exact h.at_ y (List.mem_filter.1 hy).1 z
  · have h2 := size_del (k := .int .i64 key) h.tidy
    rw [h.has, h.size] at h2
    have h1 := stop_len l key
    rw [nd_count nd key] at h1
    omega
end Go.Proofs.Ytmgipedpggpkoaa
