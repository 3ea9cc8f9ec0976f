/- Mathematics of views: which are lower, which higher, which the lowest. No walks. -/
import Derived.Test.YtahhhegknmiinaaVmt
namespace Go.Proofs.Ytahhhegknmiinaa
set_option maxRecDepth 100000

theorem cmpL_cons (x y : Int) (xs ys : List Int) : cmpL (x :: xs) (y :: ys) < 0 ↔ x < y ∨ (x = y ∧ cmpL xs ys < 0) := by
  show (if x < y then (-1 : Int) else if y < x then 1 else cmpL xs ys) < 0 ↔ _
  split
  · constructor
    · intro _; exact .inl (by assumption)
    · intro _; omega
  · split
    · constructor
      · intro h; omega
      · rintro (h | h) <;> omega
    · constructor
      · intro h; exact .inr ⟨by omega, h⟩
      · rintro (h | h)
        · omega
        · exact h.2
theorem cmpL_irr (xs : List Int) : ¬ cmpL xs xs < 0 := by
  induction xs with
  | nil => exact Int.lt_irrefl 0
  | cons x r ih =>
    rw [cmpL_cons]
    rintro (h | h)
    · omega
    · exact ih h.2
theorem cmpL_tr {xs ys zs : List Int} (h1 : xs.length = ys.length) (h2 : ys.length = zs.length) (a : cmpL xs ys < 0) (b : cmpL ys zs < 0) : cmpL xs zs < 0 := by
  induction xs generalizing ys zs with
  | nil =>
    cases ys with
    | nil => exact absurd a (Int.lt_irrefl 0)
    | cons _ _ => cases h1
  | cons x r ih =>
    cases ys with
    | nil => cases h1
    | cons y s =>
      cases zs with
      | nil => cases h2
      | cons z t =>
        rw [cmpL_cons] at a b ⊢
        rcases a with a | a
        · rcases b with b | b
          · exact .inl (by omega)
          · exact .inl (by omega)
        · rcases b with b | b
          · exact .inl (by omega)
          · exact .inr ⟨by omega, ih (by simpa using h1) (by simpa using h2) a.2 b.2⟩
theorem cmpL_tot {xs ys : List Int} (h1 : xs.length = ys.length) (hne : xs ≠ ys) : cmpL xs ys < 0 ∨ cmpL ys xs < 0 := by
  induction xs generalizing ys with
  | nil =>
    cases ys with
    | nil => exact absurd rfl hne
    | cons _ _ => cases h1
  | cons x r ih =>
    cases ys with
    | nil => cases h1
    | cons y s =>
      rw [cmpL_cons, cmpL_cons]
      rcases Int.lt_trichotomy x y with h | h | h
      · exact .inl (.inl h)
      · subst h
        have : r ≠ s := fun e => hne (by rw [e])
        rcases ih (by simpa using h1) this with h | h
        · exact .inl (.inr ⟨rfl, h⟩)
        · exact .inr (.inr ⟨rfl, h⟩)
      · exact .inr (.inl h)
/-- The five numbers of a height. -/
def row5 (x : Hx) : List Int := [x.2.1, x.2.2.1, x.2.2.2.1, x.2.2.2.2.1, x.2.2.2.2.2]
theorem lsx_iff (x y : Hx) : lsx x y = true ↔ tld x = true ∧ tld y = true ∧ cmpL (row5 x) (row5 y) < 0 := by
  unfold lsx lessB
  rw [Bool.and_eq_true, Bool.and_eq_true, decide_eq_true_iff]
  exact Iff.rfl
theorem lsx_irr (x : Hx) : lsx x x = false := by
  cases h : lsx x x with
  | false => rfl
  | true => exact absurd ((lsx_iff x x).1 h).2.2 (cmpL_irr _)
theorem lsx_tr {x y z : Hx} (h : lsx x y = true) (k : lsx y z = true) : lsx x z = true := by
  have a := (lsx_iff _ _).1 h
  have b := (lsx_iff _ _).1 k
  exact (lsx_iff _ _).2 ⟨a.1, b.2.1, cmpL_tr (xs := row5 x) (ys := row5 y) (zs := row5 z) rfl rfl a.2.2 b.2.2⟩
theorem lsx_as {x y : Hx} (h : lsx x y = true) : lsx y x = false := by
  cases k : lsx y x with
  | false => rfl
  | true =>
    have := lsx_tr h k
    rw [lsx_irr] at this
    cases this
theorem lsx_tot {x y : Hx} (hx : tld x = true) (hy : tld y = true) (hi : x.2.2.2.2.2 ≠ y.2.2.2.2.2) : lsx x y = true ∨ lsx y x = true := by
  rw [lsx_iff, lsx_iff]
  have : row5 x ≠ row5 y := fun e => hi (by
    unfold row5 at e
    simp only [List.cons.injEq, and_true] at e
    exact e.2.2.2.2)
  rcases cmpL_tot (show (row5 x).length = (row5 y).length from rfl) this with h | h
  · exact .inl ⟨hx, hy, h⟩
  · exact .inr ⟨hy, hx, h⟩
/-- What is put in, from the front. -/
def insQ (y : Vw) : List Vw → List Vw
  | [] => [y]
  | x :: r => if lsx y.2 x.2 = true then y :: x :: r else x :: insQ y r
theorem ins_done (y : Vw) (l xs : List Vw) : l.foldl (inS y) (xs, true) = (xs ++ l, true) := by
  induction l generalizing xs with
  | nil => simp
  | cons x r ih =>
    have e : inS y (xs, true) x = (xs ++ [x], true) := by
      unfold inS in1
      rw [if_neg (fun h => by cases h.1)]
    rw [List.foldl_cons, e, ih, List.append_assoc]
    rfl
theorem ins_go (y : Vw) (l xs : List Vw) : inF y (l.foldl (inS y) (xs, false)) = xs ++ insQ y l := by
  induction l generalizing xs with
  | nil =>
    unfold inF
    rw [List.foldl_nil, if_neg (by simp)]
    rfl
  | cons x r ih =>
    rw [List.foldl_cons]
    show _ = xs ++ (if lsx y.2 x.2 = true then y :: x :: r else x :: insQ y r)
    by_cases h : lsx y.2 x.2 = true
    · have e : inS y (xs, false) x = (xs ++ [y] ++ [x], true) := by
        unfold inS in1
        rw [if_pos ⟨rfl, h⟩]
      rw [e, ins_done, if_pos h]
      unfold inF
      rw [if_pos rfl]
      simp
    · have e : inS y (xs, false) x = (xs ++ [x], false) := by
        unfold inS in1
        rw [if_neg (fun k => h k.2)]
      rw [e, ih, if_neg h, List.append_assoc]
      rfl
theorem insO_eq (y : Vw) (l : List Vw) : insO y l = insQ y l := ins_go y l []
theorem insQ_perm (y : Vw) (l : List Vw) : (insQ y l).Perm (y :: l) := by
  induction l with
  | nil => exact .refl _
  | cons x r ih =>
    show (if lsx y.2 x.2 = true then y :: x :: r else x :: insQ y r).Perm _
    split
    · exact .refl _
    · exact (List.Perm.cons x ih).trans (List.Perm.swap y x r)
theorem vord_snoc (l : List Vw) (y : Vw) : vordL (l ++ [y]) = insQ y (vordL l) := by
  unfold vordL
  rw [List.foldl_append]
  show insO y _ = _
  rw [insO_eq]
theorem vord_perm (l : List Vw) : (vordL l).Perm l := by
  have h : ∀ (l xs : List Vw), (l.foldl (fun xs y => insO y xs) xs).Perm (xs ++ l) := by
    intro l
    induction l with
    | nil => intro xs; simp
    | cons y r ih =>
      intro xs
      rw [List.foldl_cons]
      refine (ih _).trans ?_
      rw [insO_eq]
      exact ((insQ_perm y xs).append_right r).trans (List.perm_middle.symm)
  exact h l []
/-- Views each of which is below those behind it. -/
def Fall (l : List Vw) : Prop := l.Pairwise (fun a b => lsx a.2 b.2 = true)
theorem insQ_fall {y : Vw} {l : List Vw} (h : Fall l) (ht : ∀ x ∈ l, lsx x.2 y.2 = true ∨ lsx y.2 x.2 = true) : Fall (insQ y l) := by
  induction l with
  | nil => exact List.pairwise_singleton _ _
  | cons x r ih =>
    obtain ⟨h1, h2⟩ := List.pairwise_cons.1 h
    show Fall (if lsx y.2 x.2 = true then y :: x :: r else x :: insQ y r)
    by_cases hp : lsx y.2 x.2 = true
    · rw [if_pos hp]
      refine List.pairwise_cons.2 ⟨fun z hz => ?_, h⟩
      rcases List.mem_cons.1 hz with rfl | hz
      · exact hp
      · exact lsx_tr hp (h1 z hz)
    · rw [if_neg hp]
      refine List.pairwise_cons.2 ⟨fun z hz => ?_, ih h2 (fun x hx => ht x (by simp [hx]))⟩
      rcases List.mem_cons.1 ((insQ_perm y r).mem_iff.1 hz) with rfl | hz
      · exact (ht x (by simp)).elim (fun h => h) (fun h => absurd h hp)
      · exact h1 z hz
theorem vord_fall {l : List Vw} (h : l.Pairwise (fun a b => lsx a.2 b.2 = true ∨ lsx b.2 a.2 = true)) : Fall (vordL l) := by
  have go : ∀ (l xs : List Vw), Fall xs → l.Pairwise (fun a b => lsx a.2 b.2 = true ∨ lsx b.2 a.2 = true) → (∀ x ∈ xs, ∀ y ∈ l, lsx x.2 y.2 = true ∨ lsx y.2 x.2 = true) → Fall (l.foldl (fun xs y => insO y xs) xs) := by
    intro l
    induction l with
    | nil => intro xs h _ _; exact h
    | cons y r ih =>
      intro xs hx hl hm
      obtain ⟨h1, h2⟩ := List.pairwise_cons.1 hl
      rw [List.foldl_cons]
      refine ih _ ?_ h2 (fun x hx2 z hz => ?_)
      · rw [insO_eq]
        exact insQ_fall hx (fun x hx2 => hm x hx2 y (by simp))
      · rw [insO_eq] at hx2
        rcases List.mem_cons.1 ((insQ_perm y xs).mem_iff.1 hx2) with rfl | hx2
        · exact h1 z hz
        · exact hm x hx2 z (by simp [hz])
  exact go l [] List.Pairwise.nil h (fun _ hx => nomatch hx)
/-- What is known of views that are right, and of a height of another node that is told. -/
structure SpOk (l : List Vw) (own : Hx) : Prop where
  ok : VOk l
  told : tld own = true
  off : ∀ y ∈ l, y.1 ≠ own.2.2.2.2.2
section
variable {l : List Vw} {own : Hx}
theorem SpOk.tl (h : SpOk l own) {y : Vw} (hy : y ∈ l) : tld y.2 = !y.2.1 := by
  have h1 := ((vok_iff l).1 h.ok).2 y hy
  have h2 := h1.2.1
  unfold hOk at h2
  unfold tld Go.Proofs.Ytahhhegknmiinaa.told
  rw [decide_eq_true h2, Bool.and_true]
theorem SpOk.id (h : SpOk l own) {y : Vw} (hy : y ∈ l) : y.2.2.2.2.2.2 = y.1 := (((vok_iff l).1 h.ok).2 y hy).2.2
theorem SpOk.rise (h : SpOk l own) : Rise l := ((vok_iff l).1 h.ok).1
theorem SpOk.tot (h : SpOk l own) {y z : Vw} (hy : y ∈ l) (hz : z ∈ l) (ty : tld y.2 = true) (tz : tld z.2 = true) (hne : y ≠ z) : lsx y.2 z.2 = true ∨ lsx z.2 y.2 = true :=
  lsx_tot ty tz (by rw [h.id hy, h.id hz]; exact fun e => hne (rise_key h.rise hy hz e))
theorem SpOk.vs (h : SpOk l own) {y : Vw} (hy : y ∈ l) (ty : tld y.2 = true) : lsx y.2 own = true ∨ lsx own y.2 = true :=
  lsx_tot ty h.told (by rw [h.id hy]; exact h.off y hy)
theorem mem_bel {y : Vw} : y ∈ belF l own ↔ y ∈ l ∧ lsx y.2 own = true := by unfold belF; rw [List.mem_filter]
theorem mem_abo {y : Vw} : y ∈ aboF l own ↔ y ∈ l ∧ lsx own y.2 = true := by unfold aboF; rw [List.mem_filter]
theorem SpOk.fall (h : SpOk l own) : Fall (vordL (belF l own)) := by
  refine vord_fall ?_
  have hn : (belF l own).Nodup := (rise_nd h.rise).sublist List.filter_sublist
  refine List.Pairwise.imp_of_mem (fun {a b} ha hb hab => ?_) hn
  obtain ⟨a1, a2⟩ := mem_bel.1 ha
  obtain ⟨b1, b2⟩ := mem_bel.1 hb
  exact h.tot a1 b1 ((lsx_iff _ _).1 a2).1 ((lsx_iff _ _).1 b2).1 hab
theorem SpOk.cnt (h : SpOk l own) : (belV l own).length + (aboV l own).length = l.countP (fun y => !y.2.1) := by
  have e1 : (belV l own).length = (belF l own).length := by unfold belV; rw [List.length_map, (vord_perm _).length_eq]
  have e2 : (aboV l own).length = (aboF l own).length := by unfold aboV; rw [List.length_map, (vord_perm _).length_eq]
  rw [e1, e2]
  have h1 : ∀ y ∈ l, ((!y.2.1) = (lsx y.2 own || lsx own y.2)) ∧ (lsx y.2 own && lsx own y.2) = false := by
    intro y hy
    rw [← h.tl hy]
    cases ht : tld y.2 with
    | false =>
      have a1 : lsx y.2 own = false := by
        cases k : lsx y.2 own with
        | false => rfl
        | true => rw [((lsx_iff _ _).1 k).1] at ht; cases ht
      have a2 : lsx own y.2 = false := by
        cases k : lsx own y.2 with
        | false => rfl
        | true => rw [((lsx_iff _ _).1 k).2.1] at ht; cases ht
      rw [a1, a2]
      exact ⟨rfl, rfl⟩
    | true =>
      rcases h.vs hy ht with k | k
      · rw [k, lsx_as k]; exact ⟨rfl, rfl⟩
      · rw [k, lsx_as k]; exact ⟨rfl, rfl⟩
  clear h e1 e2
  unfold belF aboF
  induction l with
  | nil => rfl
  | cons y r ih =>
    have hr := ih (fun z hz => h1 z (by simp [hz]))
    obtain ⟨k1, k2⟩ := h1 y (by simp)
    rw [List.countP_cons, k1]
    cases a : lsx y.2 own with
    | true =>
      rw [a] at k2
      have b : lsx own y.2 = false := by simpa using k2
      rw [List.filter_cons_of_pos (by simpa using a), List.filter_cons_of_neg (by simp [b]), List.length_cons, b]
      simp
      omega
    | false =>
      cases b : lsx own y.2 with
      | true =>
        rw [List.filter_cons_of_neg (by simp [a]), List.filter_cons_of_pos (by simpa using b), List.length_cons]
        simp
        omega
      | false =>
        rw [List.filter_cons_of_neg (by simp [a]), List.filter_cons_of_neg (by simp [b])]
        simpa using hr
/-- The lowest one that is told. -/
theorem low_spec (l : List Vw) : ((lowF l).2 = false ∧ ∀ z ∈ l, tld z.2 = false) ∨ ((lowF l).2 = true ∧ (lowF l).1 ∈ l ∧ tld (lowF l).1.2 = true ∧ ∀ z ∈ l, lsx z.2 (lowF l).1.2 = false) := by
  have hno : ∀ {z : Hx} {x : Hx}, tld z = false → lsx z x = false := fun {z x} h => by
    cases k : lsx z x with
    | false => rfl
    | true => rw [((lsx_iff _ _).1 k).1] at h; cases h
  suffices hg : ∀ (r : List Vw) (p : List Vw) (acc : Vw × Bool), ((acc.2 = false ∧ ∀ z ∈ p, tld z.2 = false) ∨ (acc.2 = true ∧ acc.1 ∈ p ∧ tld acc.1.2 = true ∧ ∀ z ∈ p, lsx z.2 acc.1.2 = false)) →
      (((r.foldl lowS acc).2 = false ∧ ∀ z ∈ p ++ r, tld z.2 = false) ∨ ((r.foldl lowS acc).2 = true ∧ (r.foldl lowS acc).1 ∈ p ++ r ∧ tld (r.foldl lowS acc).1.2 = true ∧ ∀ z ∈ p ++ r, lsx z.2 (r.foldl lowS acc).1.2 = false)) by
    have := hg l [] (zVw, false) (.inl ⟨rfl, (fun _ hz => nomatch hz)⟩)
    exact this
  intro r
  induction r with
  | nil => intro p acc h; simpa using h
  | cons y r ih =>
    intro p acc h
    rw [List.foldl_cons, show p ++ y :: r = (p ++ [y]) ++ r by simp]
    refine ih _ _ ?_
    unfold lowS
    by_cases hc : tld y.2 = true ∧ (acc.2 = false ∨ lsx y.2 acc.1.2 = true)
    · rw [if_pos hc]
      refine .inr ⟨rfl, by simp, hc.1, fun z hz => ?_⟩
      rcases List.mem_append.1 hz with hz | hz
      · rcases h with h | h
        · exact hno (h.2 z hz)
        · cases k : lsx z.2 y.2 with
          | false => rfl
          | true =>
            rcases hc.2 with h5 | h5
            · rw [h.1] at h5; cases h5
            · have := lsx_tr k h5
              rw [h.2.2.2 z hz] at this
              cases this
      · obtain rfl := List.mem_singleton.1 hz
        exact lsx_irr _
    · rw [if_neg hc]
      rcases h with h | h
      · refine .inl ⟨h.1, fun z hz => ?_⟩
        rcases List.mem_append.1 hz with hz | hz
        · exact h.2 z hz
        · obtain rfl := List.mem_singleton.1 hz
          cases k : tld z.2 with
          | false => rfl
          | true => exact absurd ⟨k, .inl h.1⟩ hc
      · refine .inr ⟨h.1, by simp [h.2.1], h.2.2.1, fun z hz => ?_⟩
        rcases List.mem_append.1 hz with hz | hz
        · exact h.2.2.2 z hz
        · obtain rfl := List.mem_singleton.1 hz
          cases k : lsx z.2 acc.1.2 with
          | false => rfl
          | true => exact absurd ⟨((lsx_iff _ _).1 k).1, .inr k⟩ hc
theorem SpOk.low_any (h : SpOk l own) : (lowF l).2 = decide (0 < l.countP (fun y => !y.2.1)) := by
  rcases low_spec l with ⟨h1, h2⟩ | ⟨h1, h2, h3, _⟩
  · rw [h1]
    symm
    rw [decide_eq_false_iff_not]
    intro h4
    obtain ⟨y, hy, hp⟩ := List.countP_pos_iff.1 h4
    have := h2 y hy
    rw [h.tl hy] at this
    rw [this] at hp
    cases hp
  · rw [h1]
    symm
    rw [decide_eq_true_iff]
    exact List.countP_pos_iff.2 ⟨_, h2, by rw [← h.tl h2]; exact h3⟩
theorem SpOk.low_first (h : SpOk l own) {z : Vw} {r : List Vw} (hz : vordL (belF l own) = z :: r) : (lowF l).1 = z := by
  have hzm : z ∈ belF l own := (vord_perm _).mem_iff.1 (by rw [hz]; simp)
  obtain ⟨z1, z2⟩ := mem_bel.1 hzm
  have zt := ((lsx_iff _ _).1 z2).1
  rcases low_spec l with ⟨_, h2⟩ | ⟨_, h2, h3, h4⟩
  · rw [h2 z z1] at zt; cases zt
  · refine Classical.byContradiction fun hne => ?_
    have hlz : lsx (lowF l).1.2 z.2 = true := by
      rcases h.tot h2 z1 h3 zt hne with k | k
      · exact k
      · rw [h4 z z1] at k; cases k
    have hlm : (lowF l).1 ∈ vordL (belF l own) := (vord_perm _).mem_iff.2 (mem_bel.2 ⟨h2, lsx_tr hlz z2⟩)
    rw [hz] at hlm
    rcases List.mem_cons.1 hlm with e | hlm
    · exact hne e
    · have hf := h.fall
      rw [hz] at hf
      have := (List.pairwise_cons.1 hf).1 _ hlm
      rw [lsx_as hlz] at this
      cases this
end
end Go.Proofs.Ytahhhegknmiinaa
