/- Mathematics of links: the lowest one taken again and again; levels put in one by one. No walks. Mathematics of links: which are down of views that are right; one view more. No walks. -/
import Derived.Test.YtmimgpnogjgliaaKb
namespace Go.Proofs.Ytmimgpnogjgliaa
set_option maxRecDepth 100000

/-- The first one that is z taken away. -/
def rm1 (z : Vw) : List Vw → List Vw
  | [] => []
  | y :: r => if y = z then r else y :: rm1 z r
def rmS (z : Vw) (acc : List Vw × Bool) (y : Vw) : List Vw × Bool := if acc.2 = false ∧ y = z then (acc.1, true) else (acc.1 ++ [y], acc.2)
theorem rm_done (z : Vw) (l xs : List Vw) : l.foldl (rmS z) (xs, true) = (xs ++ l, true) := by
  induction l generalizing xs with
  | nil => simp
  | cons y r ih =>
    rw [List.foldl_cons, show rmS z (xs, true) y = (xs ++ [y], true) by simp [rmS], ih]
    simp
theorem rm_go (z : Vw) (l xs : List Vw) : (l.foldl (rmS z) (xs, false)).1 = xs ++ rm1 z l := by
  induction l generalizing xs with
  | nil => simp [rm1]
  | cons y r ih =>
    rw [List.foldl_cons]
    by_cases h : y = z
    · rw [show rmS z (xs, false) y = (xs, true) by simp [rmS, h], rm_done, rm1, if_pos h]
    · rw [show rmS z (xs, false) y = (xs ++ [y], false) by simp [rmS, h], ih, rm1, if_neg h]
      simp
theorem rm_step (z : Vw) (l : List Vw) (k : Nat) (h : k < l.length) : (l.take (k + 1)).foldl (rmS z) ([], false) = rmS z ((l.take k).foldl (rmS z) ([], false)) (l.getD k zVw) := by
  rw [vtake_succ l k h, List.foldl_append]
  rfl
theorem rm_len (z : Vw) (l : List Vw) (acc : List Vw × Bool) : (l.foldl (rmS z) acc).1.length ≤ acc.1.length + l.length := by
  induction l generalizing acc with
  | nil => simp
  | cons y r ih =>
    rw [List.foldl_cons]
    refine Nat.le_trans (ih _) ?_
    unfold rmS
    split
    · simp
    · simp; omega
theorem rm1_notin {z : Vw} {l : List Vw} (h : z ∉ l) : rm1 z l = l := by
  induction l with
  | nil => rfl
  | cons y r ih =>
    simp only [List.mem_cons, not_or] at h
    rw [rm1, if_neg (fun e => h.1 e.symm), ih h.2]
theorem rm1_snoc {z y : Vw} {l : List Vw} (h : z ∈ l) : rm1 z (l ++ [y]) = rm1 z l ++ [y] := by
  induction l with
  | nil => cases h
  | cons x r ih =>
    by_cases e : x = z
    · rw [List.cons_append, rm1, rm1, if_pos e, if_pos e]
    · rw [List.cons_append, rm1, rm1, if_neg e, if_neg e, ih (by
        rcases List.mem_cons.1 h with h | h
        · exact absurd h.symm e
        · exact h)]
      rfl
theorem rm1_new {z : Vw} {l : List Vw} (h : z ∉ l) : rm1 z (l ++ [z]) = l := by
  induction l with
  | nil => simp [rm1]
  | cons x r ih =>
    simp only [List.mem_cons, not_or] at h
    rw [List.cons_append, rm1, if_neg (fun e => h.1 e.symm), ih h.2]
theorem rm1_sub {z : Vw} {l : List Vw} {y : Vw} (h : y ∈ rm1 z l) : y ∈ l := by
  induction l with
  | nil => exact h
  | cons x r ih =>
    rw [rm1] at h
    split at h
    · exact List.mem_cons_of_mem _ h
    · rcases List.mem_cons.1 h with rfl | h
      · exact List.mem_cons_self
      · exact List.mem_cons_of_mem _ (ih h)
theorem snoc_ind {P : List Vw → Prop} (h0 : P []) (h1 : ∀ l y, P l → P (l ++ [y])) : ∀ l, P l := by
  intro l
  rw [← List.reverse_reverse l]
  induction l.reverse with
  | nil => exact h0
  | cons y r ih => rw [List.reverse_cons]; exact h1 _ _ ih
/-- The lowest one stands first; behind it the others stand as they do without it. -/
theorem low_vord (l : List Vw) : (∀ y ∈ l, tld y.2 = true) → l ≠ [] → vordL l = (lowF l).1 :: vordL (rm1 (lowF l).1 l) := by
  induction l using snoc_ind with
  | h0 => intro _ h; exact absurd rfl h
  | h1 l y ih =>
    intro ht _
    have hl : lowF (l ++ [y]) = lowS (lowF l) y := by unfold lowF; rw [List.foldl_append]; rfl
    have ty := ht y (by simp)
    by_cases h0 : l = []
    · subst h0
      have e : (lowF [y]).1 = y := by
        show (lowS (zVw, false) y).1 = y
        unfold lowS
        rw [if_pos ⟨ty, .inl rfl⟩]
      rw [List.nil_append, e, rm1, if_pos rfl]
      rfl
    · have ih2 := ih (fun z hz => ht z (by simp [hz])) h0
      rcases low_spec l with ⟨_, h⟩ | ⟨s1, s2, s3, s4⟩
      · obtain ⟨z, hz⟩ := List.exists_mem_of_ne_nil l h0
        have := h z hz
        rw [ht z (by simp [hz])] at this
        cases this
      · rw [hl, vord_snoc, ih2]
        cases hy : lsx y.2 (lowF l).1.2 with
        | true =>
          have e : (lowS (lowF l) y).1 = y := by unfold lowS; rw [if_pos ⟨ty, .inr hy⟩]
          have hn : y ∉ l := fun h => by rw [s4 y h] at hy; cases hy
          rw [e, rm1_new hn, ih2]
          show (if lsx y.2 (lowF l).1.2 = true then y :: (lowF l).1 :: vordL (rm1 (lowF l).1 l) else _) = _
          rw [if_pos hy]
        | false =>
          have e : (lowS (lowF l) y).1 = (lowF l).1 := by
            unfold lowS
            rw [if_neg (fun h => by rcases h.2 with h | h; rw [s1] at h; cases h; rw [hy] at h; cases h)]
          rw [e, rm1_snoc s2, vord_snoc]
          show (if lsx y.2 (lowF l).1.2 = true then _ else (lowF l).1 :: insQ y (vordL (rm1 (lowF l).1 l))) = _
          rw [if_neg (by rw [hy]; simp)]
/-- As they are listed none is less than one ahead. -/
theorem vord_up {l : List Vw} (tl : ∀ y ∈ l, tld y.2 = true) : (vordL l).Pairwise (fun a b => lsx b.2 a.2 = false) := by
  obtain ⟨h1, h2, h3⟩ := tag_fold l 0 [] tl (fun _ hx => nomatch hx) List.Pairwise.nil (fun _ hx => nomatch hx)
  have e : vordL l = ((l.zipIdx 0).foldl (fun zs y => insT y zs) []).map (·.1) := by rw [h3]; rfl
  rw [e, List.pairwise_map]
  refine List.Pairwise.imp (fun {a b} h => ?_) h1
  rcases h with h | ⟨h, _⟩
  · exact lsx_as (x := a.1.2) (y := b.1.2) h
  · exact h

/-! Levels. -/
theorem cmpL_self (xs : List Int) : cmpL xs xs = 0 := by
  induction xs with
  | nil => rfl
  | cons a r ih => unfold cmpL; rw [if_neg (by omega), if_neg (by omega)]; exact ih
def lrow (a : Lv) : List Int := [a.1, a.2.1, a.2.2]
def lvLt (a b : Lv) : Prop := cmpL (lrow a) (lrow b) < 0
theorem lv_irr (a : Lv) : ¬ lvLt a a := cmpL_irr _
theorem lv_tr {a b c : Lv} (h : lvLt a b) (k : lvLt b c) : lvLt a c := cmpL_tr (xs := lrow a) (ys := lrow b) (zs := lrow c) rfl rfl h k
theorem lrow_inj {a b : Lv} (h : lrow a = lrow b) : a = b := by
  simp only [lrow, List.cons.injEq, and_true] at h
  exact Prod.ext h.1 (Prod.ext h.2.1 h.2.2)
theorem lv_tot {a b : Lv} (h : a ≠ b) : lvLt a b ∨ lvLt b a := cmpL_tot (xs := lrow a) (ys := lrow b) rfl (fun e => h (lrow_inj e))
def LvUp (l : List Lv) : Prop := l.Pairwise lvLt
theorem lvup_ext {l l' : List Lv} (h : LvUp l) (h' : LvUp l') (hm : ∀ x, x ∈ l ↔ x ∈ l') : l = l' := by
  have n1 : l.Nodup := List.Pairwise.imp (fun h e => by rw [e] at h; exact lv_irr _ h) h
  have n2 : l'.Nodup := List.Pairwise.imp (fun h e => by rw [e] at h; exact lv_irr _ h) h'
  exact ((List.perm_ext_iff_of_nodup n1 n2).2 hm).eq_of_pairwise (fun a b _ _ g k => absurd (lv_tr g k) (lv_irr a)) h h'
theorem lvle_of {x y : Vw} (hx : tld x.2 = true) (hy : tld y.2 = true) (h : lsx y.2 x.2 = false) : ¬ lvLt (lv3 y) (lv3 x) := by
  intro hl
  have h2 : lsx y.2 x.2 = true := (lsx_iff _ _).2 ⟨hy, hx, by
    have e : ∀ z : Vw, row5 z.2 = lrow (lv3 z) ++ [z.2.2.2.2.2.1, z.2.2.2.2.2.2] := fun _ => rfl
    rw [e, e, cmpL_app _ _ _ _ (show (lrow (lv3 y)).length = (lrow (lv3 x)).length from rfl)]
    have : cmpL (lrow (lv3 y)) (lrow (lv3 x)) < 0 := hl
    rw [if_neg (by omega)]
    exact this⟩
  rw [h] at h2
  cases h2
theorem lvlR_up (l : List Vw) : (lvlR l).Pairwise (fun a b => ¬ lvLt b a) := by
  have htl : ∀ y ∈ tldL l, tld y.2 = true := fun y hy => (List.mem_filter.1 hy).2
  unfold lvlR
  rw [List.pairwise_map]
  refine List.Pairwise.imp_of_mem (fun {a b} ha hb h => ?_) (vord_up htl)
  exact lvle_of (htl a ((vord_perm _).mem_iff.1 ha)) (htl b ((vord_perm _).mem_iff.1 hb)) h
theorem mem_lvlR {l : List Vw} {x : Lv} : x ∈ lvlR l ↔ ∃ y ∈ l, tld y.2 = true ∧ lv3 y = x := by
  unfold lvlR
  rw [List.mem_map]
  constructor
  · rintro ⟨y, hy, rfl⟩
    have h := List.mem_filter.1 ((vord_perm _).mem_iff.1 hy)
    exact ⟨y, h.1, h.2, rfl⟩
  · rintro ⟨y, hy, ht, rfl⟩
    exact ⟨y, (vord_perm _).mem_iff.2 (List.mem_filter.2 ⟨hy, ht⟩), rfl⟩
theorem lv_ntr {a b c : Lv} (h : ¬ lvLt b a) (k : lvLt b c) : lvLt a c := by
  by_cases e : a = b
  · rw [e]; exact k
  · rcases lv_tot e with g | g
    · exact lv_tr g k
    · exact absurd g h
/-- What is compacted of a row that does not fall rises, and holds the same. -/
theorem cpk_up {ls : List Lv} (h : ls.Pairwise (fun a b => ¬ lvLt b a)) : ∀ j, j ≤ ls.length → LvUp (cpk ls j) ∧ (∀ x, x ∈ cpk ls j ↔ x ∈ ls.take j) ∧ (∀ x ∈ cpk ls j, 0 < j → x = ls.getD (j - 1) (0, 0, 0) ∨ lvLt x (ls.getD (j - 1) (0, 0, 0)))
  | 0, _ => ⟨List.Pairwise.nil, fun x => by simp [cpk], fun x _ h => absurd h (Nat.lt_irrefl _)⟩
  | j + 1, hj => by
    obtain ⟨i1, i2, i3⟩ := cpk_up h j (by omega)
    have ht : ls.take (j + 1) = ls.take j ++ [ls.getD j (0, 0, 0)] := by
      rw [List.take_add_one]
      simp [List.getD, show j < ls.length by omega]
    by_cases hc : j = 0 ∨ ls.getD j (0, 0, 0) ≠ ls.getD (j - 1) (0, 0, 0)
    · rw [cpk, if_pos hc]
      have hlt : ∀ x ∈ cpk ls j, lvLt x (ls.getD j (0, 0, 0)) := fun x hx => by
        rcases Nat.eq_zero_or_pos j with h0 | h0
        · subst h0; cases hx
        · have hne : ls.getD j (0, 0, 0) ≠ ls.getD (j - 1) (0, 0, 0) := hc.elim (fun e => by omega) (fun e => e)
          have hle : ¬ lvLt (ls.getD j (0, 0, 0)) (ls.getD (j - 1) (0, 0, 0)) := by
            have := List.pairwise_iff_getElem.1 h (j - 1) j (by omega) (by omega) (by omega)
            simpa [List.getD, show j < ls.length by omega, show j - 1 < ls.length by omega] using this
          have hl : lvLt (ls.getD (j - 1) (0, 0, 0)) (ls.getD j (0, 0, 0)) := (lv_tot (Ne.symm hne)).elim (fun g => g) (fun g => absurd g hle)
          rcases i3 x hx h0 with e | e
          · rw [e]; exact hl
          · exact lv_tr e hl
      refine ⟨List.pairwise_append.2 ⟨i1, List.pairwise_singleton _ _, fun a ha b hb => ?_⟩, fun x => ?_, fun x hx _ => ?_⟩
      · rw [List.mem_singleton.1 hb]; exact hlt a ha
      · rw [ht, List.mem_append, List.mem_append, i2 x]
      · rw [Nat.add_sub_cancel]
        rcases List.mem_append.1 hx with hx | hx
        · exact .inr (hlt x hx)
        · exact .inl (List.mem_singleton.1 hx)
    · rw [cpk, if_neg hc]
      have hj0 : 0 < j := Nat.pos_of_ne_zero (fun e => hc (.inl e))
      have he : ls.getD j (0, 0, 0) = ls.getD (j - 1) (0, 0, 0) := by
        by_cases e : ls.getD j (0, 0, 0) = ls.getD (j - 1) (0, 0, 0)
        · exact e
        · exact absurd (.inr e) hc
      refine ⟨i1, fun x => ?_, fun x hx _ => ?_⟩
      · rw [ht, List.mem_append, i2 x]
        refine ⟨fun hx => .inl hx, fun hx => hx.elim (fun hx => hx) (fun hx => ?_)⟩
        rw [List.mem_singleton.1 hx, he]
        have : j - 1 < (ls.take j).length := by rw [List.length_take]; omega
        have e2 : ls.getD (j - 1) (0, 0, 0) = (ls.take j)[j - 1] := by simp [List.getD, show j - 1 < ls.length by omega]
        rw [e2]
        exact List.getElem_mem _
      · rw [Nat.add_sub_cancel, he]
        exact i3 x hx hj0
theorem lvlF_up (l : List Vw) : LvUp (lvlF l) := (cpk_up (lvlR_up l) _ (Nat.le_refl _)).1
theorem mem_lvlF {l : List Vw} {x : Lv} : x ∈ lvlF l ↔ ∃ y ∈ l, tld y.2 = true ∧ lv3 y = x := by
  have h := (cpk_up (lvlR_up l) _ (Nat.le_refl _)).2.1 x
  rw [List.take_length, mem_lvlR] at h
  exact h
/-- A level put in. -/
def lvS (v : Lv) (acc : List Lv × Bool) (x : Lv) : List Lv × Bool :=
  let a1 := if acc.2 = false ∧ cmpL (lrow v) (lrow x) ≤ 0 then (acc.1 ++ [v], true) else acc
  if x = v then a1 else (a1.1 ++ [x], a1.2)
def lvE (v : Lv) (r : List Lv × Bool) : List Lv := if r.2 = true then r.1 else r.1 ++ [v]
def lvI (v : Lv) (out : List Lv) : List Lv := lvE v (out.foldl (lvS v) ([], false))
def rlvF (l : List Vw) : List Lv := l.foldl (fun out y => if tld y.2 = true then lvI (lv3 y) out else out) []
theorem cmpL_zero {a b : Lv} (h : cmpL (lrow a) (lrow b) ≤ 0) : a = b ∨ lvLt a b := by
  by_cases e : a = b
  · exact .inl e
  · rcases lv_tot e with g | g
    · exact .inr g
    · exfalso
      have h1 : ¬ lvLt a b := fun h1 => lv_irr _ (lv_tr h1 g)
      have h2 : ¬ cmpL (lrow a) (lrow b) < 0 := h1
      have h3 : cmpL (lrow a) (lrow b) = 0 := by omega
      have : ∀ {xs ys : List Int}, xs.length = ys.length → cmpL xs ys = 0 → xs = ys := by
        intro xs
        induction xs with
        | nil => intro ys hl _; cases ys with
          | nil => rfl
          | cons _ _ => cases hl
        | cons x xs ih =>
          intro ys hl hz
          cases ys with
          | nil => cases hl
          | cons y ys =>
            unfold cmpL at hz
            split at hz
            · cases hz
            · split at hz
              · cases hz
              · rw [show x = y by omega, ih (by simpa using hl) hz]
      exact e (lrow_inj (this rfl h3))
theorem lvs_done (v : Lv) (out xs : List Lv) : out.foldl (lvS v) (xs, true) = (xs ++ out.filter (fun x => decide (x ≠ v)), true) := by
  induction out generalizing xs with
  | nil => simp
  | cons x r ih =>
    rw [List.foldl_cons]
    by_cases h : x = v
    · rw [show lvS v (xs, true) x = (xs, true) by simp [lvS, h], ih, List.filter_cons_of_neg (by simp [h])]
    · rw [show lvS v (xs, true) x = (xs ++ [x], true) by simp [lvS, h], ih, List.filter_cons_of_pos (by simp [h])]
      simp
/-- Put into a row that rises: it rises, and holds one more. -/
theorem lvI_go (v : Lv) : ∀ (out xs : List Lv), LvUp out → (∀ x ∈ xs, lvLt x v) → ∃ zs, lvE v (out.foldl (lvS v) (xs, false)) = xs ++ zs ∧ LvUp zs ∧ (∀ x, x ∈ zs ↔ x = v ∨ x ∈ out)
  | [], xs, _, _ => ⟨[v], rfl, List.pairwise_singleton _ _, fun x => by simp⟩
  | x :: r, xs, h, hx => by
    obtain ⟨h1, h2⟩ := List.pairwise_cons.1 h
    rw [List.foldl_cons]
    by_cases hc : cmpL (lrow v) (lrow x) ≤ 0
    · rcases cmpL_zero hc with e | e
      · refine ⟨v :: r, ?_, List.pairwise_cons.2 ⟨fun y hy => by rw [e]; exact h1 y hy, h2⟩, fun y => by rw [List.mem_cons, List.mem_cons, e]; exact ⟨fun h => .inr h, fun h => h.elim .inl (fun h => h)⟩⟩
        rw [show lvS v (xs, false) x = (xs ++ [v], true) by simp [lvS, e, cmpL_self], lvs_done]
        have : r.filter (fun x => decide (x ≠ v)) = r := List.filter_eq_self.2 (fun y hy => by
          have := h1 y hy
          have hne : y ≠ v := fun e2 => by rw [e2, e] at this; exact lv_irr _ this
          simp [hne])
        rw [this]
        simp [lvE]
      · have hne : x ≠ v := fun e2 => by rw [e2] at e; exact lv_irr _ e
        refine ⟨v :: x :: r, ?_, List.pairwise_cons.2 ⟨fun y hy => ?_, h⟩, fun y => by rw [List.mem_cons]⟩
        · rw [show lvS v (xs, false) x = (xs ++ [v] ++ [x], true) by simp [lvS, hc, hne], lvs_done]
          have : r.filter (fun x => decide (x ≠ v)) = r := List.filter_eq_self.2 (fun y hy => by
            have := lv_tr e (h1 y hy)
            have hne : y ≠ v := fun e2 => by rw [e2] at this; exact lv_irr _ this
            simp [hne])
          rw [this]
          simp [lvE]
        · rcases List.mem_cons.1 hy with rfl | hy
          · exact e
          · exact lv_tr e (h1 y hy)
    · have hgt : lvLt x v := by
        have hne : v ≠ x := fun e => by
          apply hc
          rw [e]
          rw [cmpL_self]
          exact Int.le_refl _
        rcases lv_tot hne with g | g
        · have : cmpL (lrow v) (lrow x) < 0 := g
          omega
        · exact g
      have hne : x ≠ v := fun e => by rw [e] at hgt; exact lv_irr _ hgt
      rw [show lvS v (xs, false) x = (xs ++ [x], false) by simp [lvS, hc, hne]]
      obtain ⟨zs, e1, e2, e3⟩ := lvI_go v r (xs ++ [x]) h2 (fun y hy => by
        rcases List.mem_append.1 hy with hy | hy
        · exact hx y hy
        · rw [List.mem_singleton.1 hy]; exact hgt)
      refine ⟨x :: zs, by rw [e1]; simp, List.pairwise_cons.2 ⟨fun y hy => ?_, e2⟩, fun y => by rw [List.mem_cons, List.mem_cons, e3 y]; exact ⟨fun h => h.elim (fun h => .inr (.inl h)) (fun h => h.elim .inl (fun h => .inr (.inr h))), fun h => h.elim (fun h => .inr (.inl h)) (fun h => h.elim .inl (fun h => .inr (.inr h)))⟩⟩
      rcases (e3 y).1 hy with rfl | hy
      · exact hgt
      · exact h1 y hy
theorem lvI_up {v : Lv} {out : List Lv} (h : LvUp out) : LvUp (lvI v out) ∧ ∀ x, x ∈ lvI v out ↔ x = v ∨ x ∈ out := by
  obtain ⟨zs, e1, e2, e3⟩ := lvI_go v out [] h (fun x hx => nomatch hx)
  unfold lvI
  rw [e1, List.nil_append]
  exact ⟨e2, e3⟩
theorem rlv_step (l : List Vw) (k : Nat) (h : k < l.length) : rlvF (l.take (k + 1)) = if tld (l.getD k zVw).2 = true then lvI (lv3 (l.getD k zVw)) (rlvF (l.take k)) else rlvF (l.take k) := by
  rw [vtake_succ l k h]
  unfold rlvF
  rw [List.foldl_append]
  rfl
theorem rlv_snoc (l : List Vw) (y : Vw) : rlvF (l ++ [y]) = if tld y.2 = true then lvI (lv3 y) (rlvF l) else rlvF l := by
  unfold rlvF
  rw [List.foldl_append]
  rfl
theorem rlv_up (l : List Vw) : LvUp (rlvF l) ∧ ∀ x, x ∈ rlvF l ↔ ∃ y ∈ l, tld y.2 = true ∧ lv3 y = x := by
  induction l using snoc_ind with
  | h0 => exact ⟨List.Pairwise.nil, fun x => by simp [rlvF]⟩
  | h1 l y ih =>
    rw [rlv_snoc]
    cases ht : tld y.2 with
    | true =>
      rw [if_pos rfl]
      obtain ⟨h1, h2⟩ := lvI_up (v := lv3 y) ih.1
      refine ⟨h1, fun x => ?_⟩
      rw [h2 x, ih.2 x]
      constructor
      · rintro (rfl | ⟨z, hz, h⟩)
        · exact ⟨y, by simp, ht, rfl⟩
        · exact ⟨z, by simp [hz], h⟩
      · rintro ⟨z, hz, h3, h4⟩
        rcases List.mem_append.1 hz with hz | hz
        · exact .inr ⟨z, hz, h3, h4⟩
        · rw [List.mem_singleton.1 hz] at h4; exact .inl h4.symm
    | false =>
      rw [if_neg (by simp)]
      refine ⟨ih.1, fun x => ?_⟩
      rw [ih.2 x]
      constructor
      · rintro ⟨z, hz, h⟩; exact ⟨z, by simp [hz], h⟩
      · rintro ⟨z, hz, h3, h4⟩
        rcases List.mem_append.1 hz with hz | hz
        · exact ⟨z, hz, h3, h4⟩
        · rw [List.mem_singleton.1 hz, ht] at h3; cases h3
/-- Both ways to the levels come to the same. -/
theorem rlv_eq (l : List Vw) : rlvF l = lvlF l := lvup_ext (rlv_up l).1 (lvlF_up l) (fun x => by rw [(rlv_up l).2 x, mem_lvlF])
end Go.Proofs.Ytmimgpnogjgliaa

namespace Go.Proofs.Ytmimgpnogjgliaa
set_option maxRecDepth 100000

theorem hx_null {x : Hx} (h : tld x = true) : x.1 = false := by
  cases e : x.1 with
  | false => rfl
  | true =>
    have h2 : told x.1 x.2.1 x.2.2.1 x.2.2.2.1 x.2.2.2.2.1 x.2.2.2.2.2 = true := h
    unfold told at h2
    rw [e] at h2
    simp at h2
theorem hx_tot {x y : Hx} (hx : tld x = true) (hy : tld y = true) (hne : x ≠ y) : lsx x y = true ∨ lsx y x = true := by
  have hr : row5 x ≠ row5 y := fun h => by
    simp only [row5, List.cons.injEq, and_true] at h
    obtain ⟨h1, h2, h3, h4, h5⟩ := h
    exact hne (Prod.ext ((hx_null hx).trans (hx_null hy).symm) (Prod.ext h1 (Prod.ext h2 (Prod.ext h3 (Prod.ext h4 h5)))))
  rcases cmpL_tot (xs := row5 x) (ys := row5 y) rfl hr with h | h
  · exact .inl ((lsx_iff _ _).2 ⟨hx, hy, h⟩)
  · exact .inr ((lsx_iff _ _).2 ⟨hy, hx, h⟩)
section
variable {l : List Vw}
theorem vk_rise (h : VOk l) : Rise l := ((vok_iff l).1 h).1
theorem vk_id (h : VOk l) {y : Vw} (hy : y ∈ l) : y.2.2.2.2.2.2 = y.1 := (((vok_iff l).1 h).2 y hy).2.2
theorem vk_tld (h : VOk l) {y : Vw} (hy : y ∈ l) : tld y.2 = !y.2.1 := by
  have h2 : HtOk y.2.1 y.2.2.1 y.2.2.2.1 y.2.2.2.2.1 y.2.2.2.2.2.1 y.2.2.2.2.2.2 := (((vok_iff l).1 h).2 y hy).2.1
  show told y.2.1 y.2.2.1 y.2.2.2.1 y.2.2.2.2.1 y.2.2.2.2.2.1 y.2.2.2.2.2.2 = _
  unfold told
  rw [decide_eq_true h2]
  simp
theorem vk_tot (h : VOk l) {y z : Vw} (hy : y ∈ l) (hz : z ∈ l) (ty : tld y.2 = true) (tz : tld z.2 = true) (hne : y ≠ z) : lsx y.2 z.2 = true ∨ lsx z.2 y.2 = true :=
  lsx_tot ty tz (by rw [vk_id h hy, vk_id h hz]; exact fun e => hne (rise_key (vk_rise h) hy hz e))
theorem mem_dir {own : Hx} {way : Int} {y : Vw} : y ∈ dirL l own way ↔ y ∈ l ∧ dirF own y.2 = way := by
  unfold dirL dirB
  rw [List.mem_filter]
  simp
/-- The way of a height that is told, to one that is told; to one that is not. -/
theorem dir_one {own x : Hx} (ho : tld own = true) : dirF own x = 1 ↔ lsx x own = true := by
  unfold dirF
  rw [if_pos ho]
  constructor
  · intro h
    split at h
    · split at h
      · assumption
      · split at h
        · cases h
        · cases h
    · cases h
  · intro h
    rw [if_pos ((lsx_iff _ _).1 h).1, if_pos h]
theorem dir_two {own x : Hx} (ho : tld own = true) : dirF own x = 2 ↔ lsx own x = true := by
  unfold dirF
  rw [if_pos ho]
  constructor
  · intro h
    split at h
    · split at h
      · cases h
      · split at h
        · assumption
        · cases h
    · cases h
  · intro h
    rw [if_pos ((lsx_iff _ _).1 h).2.1, if_neg (by rw [lsx_as h]; simp), if_pos h]
theorem dir_nto {own x : Hx} (ho : tld own = false) : dirF own x = if tld x = true then 1 else 0 := by
  unfold dirF
  rw [ho]
  rfl
theorem dir_bel {own : Hx} (ho : tld own = true) : dirI l own 1 = belV l own := by
  unfold dirI belV dirL belF
  congr 3
  funext y
  unfold dirB
  cases h : lsx y.2 own with
  | true => rw [(dir_one ho).2 h]; rfl
  | false =>
    rw [beq_eq_false_iff_ne]
    exact fun e => by rw [(dir_one ho).1 e] at h; cases h
theorem dir_abo {own : Hx} (ho : tld own = true) : dirI l own 2 = aboV l own := by
  unfold dirI aboV dirL aboF
  congr 3
  funext y
  unfold dirB
  cases h : lsx own y.2 with
  | true => rw [(dir_two ho).2 h]; rfl
  | false =>
    rw [beq_eq_false_iff_ne]
    exact fun e => by rw [(dir_two ho).1 e] at h; cases h
theorem dirI_len (own : Hx) (way : Int) : (dirI l own way).length = (dirL l own way).length := by
  unfold dirI
  rw [List.length_map, (vord_perm _).length_eq]
theorem dir_up0 {own : Hx} (ho : tld own = false) : dirI l own 2 = [] := by
  have : dirL l own 2 = [] := List.filter_eq_nil_iff.2 fun y _ => by
    unfold dirB
    rw [dir_nto ho]
    split <;> simp
  unfold dirI
  rw [this]
  rfl
/-- What is down begins with the lowest one of all. -/
theorem dir_low (h : VOk l) (own : Hx) (hne : dirL l own 1 ≠ []) : (lowF l).2 = true ∧ ∃ r, dirI l own 1 = (lowF l).1.1 :: r := by
  have htl : ∀ y ∈ dirL l own 1, tld y.2 = true := fun y hy => dir_tld (own := own) (by rw [(mem_dir.1 hy).2]; decide)
  obtain ⟨x, hx⟩ := List.exists_mem_of_ne_nil _ hne
  have hxl := (mem_dir.1 hx).1
  have hxt := htl x hx
  rcases low_spec l with ⟨_, h2⟩ | ⟨s1, s2, s3, s4⟩
  · rw [h2 x hxl] at hxt; cases hxt
  · refine ⟨s1, ?_⟩
    have hin : (lowF l).1 ∈ dirL l own 1 := by
      refine mem_dir.2 ⟨s2, ?_⟩
      by_cases e : (lowF l).1 = x
      · rw [e]; exact (mem_dir.1 hx).2
      · cases ho : tld own with
        | false => rw [dir_nto ho, if_pos s3]
        | true =>
          have hxo := (dir_one ho).1 (mem_dir.1 hx).2
          rcases vk_tot h s2 hxl s3 hxt e with k | k
          · exact (dir_one ho).2 (lsx_tr k hxo)
          · rw [s4 x hxl] at k; cases k
    have hv := low_vord _ htl hne
    rcases low_spec (dirL l own 1) with ⟨_, h2⟩ | ⟨_, t2, t3, t4⟩
    · rw [h2 x hx] at hxt; cases hxt
    · have e : (lowF (dirL l own 1)).1 = (lowF l).1 := by
        refine Classical.byContradiction fun hne => ?_
        rcases vk_tot h (mem_dir.1 t2).1 s2 t3 s3 hne with k | k
        · rw [s4 _ (mem_dir.1 t2).1] at k; cases k
        · rw [t4 _ hin] at k; cases k
      unfold dirI
      rw [hv, e, List.map_cons]
      exact ⟨_, rfl⟩
/-- How many are told and not just as high. -/
def cntP (l : List Vw) (own : Hx) : Nat := l.countP (fun y => !y.2.1 && !eqX y.2 own)
theorem cnt_step (l : List Vw) (own : Hx) (k : Nat) (h : k < l.length) : cntP (l.take (k + 1)) own = cntP (l.take k) own + if (!(l.getD k zVw).2.1 && !eqX (l.getD k zVw).2 own) = true then 1 else 0 := by
  unfold cntP
  rw [vtake_succ l k h, List.countP_append, List.countP_singleton]
theorem cnt_le (l : List Vw) (own : Hx) : cntP l own ≤ l.length := List.countP_le_length
theorem dir_cnt (own : Hx) : ∀ (l : List Vw), (∀ y ∈ l, tld y.2 = !y.2.1) → (dirL l own 1).length + (dirL l own 2).length = cntP l own
  | [], _ => rfl
  | y :: r, h => by
    have ih := dir_cnt own r (fun z hz => h z (List.mem_cons_of_mem _ hz))
    have hy := h y List.mem_cons_self
    unfold dirL cntP at ih ⊢
    rw [List.countP_cons]
    have key : (if dirB own 1 y.2 = true then 1 else 0) + (if dirB own 2 y.2 = true then 1 else 0) = (if (!y.2.1 && !eqX y.2 own) = true then 1 else (0 : Nat)) := by
      unfold dirB
      cases hn : y.2.1 with
      | true =>
        rw [hn] at hy
        have : dirF own y.2 = 0 := by unfold dirF; rw [hy]; rfl
        rw [this]; rfl
      | false =>
        rw [hn] at hy
        have ty : tld y.2 = true := hy
        cases ho : tld own with
        | false =>
          have hne : eqX y.2 own = false := by
            cases e : eqX y.2 own with
            | false => rfl
            | true => rw [eqX_iff.1 e, ho] at ty; cases ty
          rw [dir_nto ho, if_pos ty, hne]; rfl
        | true =>
          cases e : eqX y.2 own with
          | true =>
            have e2 := eqX_iff.1 e
            have : dirF own y.2 = 0 := by unfold dirF; rw [e2, lsx_irr, ho]; rfl
            rw [this]; rfl
          | false =>
            have hne : y.2 ≠ own := fun e2 => by rw [eqX_iff.2 e2] at e; cases e
            rcases hx_tot ty ho hne with k | k
            · rw [(dir_one ho).2 k]; rfl
            · rw [(dir_two ho).2 k]; rfl
    rw [← ih, ← key]
    have f : ∀ way, ((y :: r).filter (fun y => dirB own way y.2)).length = (r.filter (fun y => dirB own way y.2)).length + if dirB own way y.2 = true then 1 else 0 := fun way => by
      cases e : dirB own way y.2 with
      | true => rw [List.filter_cons_of_pos (p := fun y : Vw => dirB own way y.2) e, List.length_cons]; rfl
      | false => rw [List.filter_cons_of_neg (p := fun y : Vw => dirB own way y.2) (by rw [e]; simp)]; rfl
    rw [f, f]
    omega
/-- What is down of views that are right falls strictly. -/
theorem dir_fall (h : VOk l) (own : Hx) (way : Int) (hw : way = 1 ∨ way = 2) : Fall (vordL (dirL l own way)) := by
  refine vord_fall ?_
  have htl : ∀ y ∈ dirL l own way, tld y.2 = true := fun y hy => dir_tld (own := own) (by rw [(mem_dir.1 hy).2]; omega)
  have hr : Rise (dirL l own way) := (vk_rise h).sublist List.filter_sublist
  refine List.Pairwise.imp_of_mem (fun {a b} ha hb hab => ?_) hr
  exact vk_tot h (mem_dir.1 ha).1 (mem_dir.1 hb).1 (htl a ha) (htl b hb) (fun e => by rw [e] at hab; exact absurd hab (Int.lt_irrefl _))
theorem fall_ext {a b : List Vw} (h : Fall a) (k : Fall b) (hm : ∀ y, y ∈ a ↔ y ∈ b) : a = b := by
  have n : ∀ {c : List Vw}, Fall c → c.Nodup := fun h => List.Pairwise.imp (fun h e => by rw [e, lsx_irr] at h; cases h) h
  exact ((List.perm_ext_iff_of_nodup (n h) (n k)).2 hm).eq_of_pairwise (fun x y _ _ g j => by rw [lsx_as g] at j; cases j) h k
end
/-! One view more. -/
structure More (l m : List Vw) (own : Hx) (id : Int) (h : Hx) : Prop where
  rest : (dirI m own 1).filter (fun i => decide (i ≠ id)) = dirI l own 1
  yes : lsx h own = true → (dirI m own 1).length = (dirI l own 1).length + 1 ∧ (lowF m).2 = true ∧ ∃ r, dirI m own 1 = (lowF m).1.1 :: r
  no : lsx h own = false → (dirI m own 1).length = (dirI l own 1).length
theorem more_ok {l m : List Vw} {own : Hx} {id : Int} {h : Hx} (hs : SetOk l id h m) (ho : tld own = true) (hn : ∀ y ∈ l, y.1 ≠ id) : More l m own id h := by
  have hmem : ∀ y, y ∈ m ↔ y = (id, h) ∨ y ∈ l := fun y => by
    rw [hs.mem y]
    exact ⟨fun h => h.imp (fun h => h) (fun h => h.1), fun h => h.imp (fun h => h) (fun h => ⟨h, hn y h⟩)⟩
  have hfl : dropF (vordL (dirL m own 1)) id = vordL (dirL l own 1) := by
    refine fall_ext ((dir_fall hs.ok own 1 (.inl rfl)).sublist List.filter_sublist) (dir_fall hs.l_ own 1 (.inl rfl)) (fun y => ?_)
    rw [mem_drop, (vord_perm _).mem_iff, (vord_perm _).mem_iff, mem_dir, mem_dir, hmem y]
    constructor
    · rintro ⟨⟨h1 | h1, h2⟩, h3⟩
      · exact absurd (by rw [h1]) h3
      · exact ⟨h1, h2⟩
    · rintro ⟨h1, h2⟩
      exact ⟨⟨.inr h1, h2⟩, hn y h1⟩
  have hrest : (dirI m own 1).filter (fun i => decide (i ≠ id)) = dirI l own 1 := by
    unfold dirI
    rw [← hfl]
    unfold dropF
    rw [List.filter_map]
    congr 1
    refine List.filter_congr fun y _ => ?_
    simp only [Function.comp, isId]
    cases e : y.1 == id with
    | true => simp [eq_of_beq e]
    | false => simp [(beq_eq_false_iff_ne.1 e)]
  have hl : dropF (dirL m own 1) id = dirL l own 1 := by
    refine rise_ext (rise_drop ((vk_rise hs.ok).sublist List.filter_sublist) id) ((vk_rise hs.l_).sublist List.filter_sublist) (fun y => ?_)
    show y ∈ dropF (dirL m own 1) id ↔ y ∈ dirL l own 1
    rw [mem_drop, mem_dir, mem_dir, hmem y]
    constructor
    · rintro ⟨⟨h1 | h1, h2⟩, h3⟩
      · exact absurd (by rw [h1]) h3
      · exact ⟨h1, h2⟩
    · rintro ⟨h1, h2⟩
      exact ⟨⟨.inr h1, h2⟩, hn y h1⟩
  refine ⟨hrest, fun hd => ?_, fun hd => ?_⟩
  · have hin : (id, h) ∈ dirL m own 1 := mem_dir.2 ⟨(hmem _).2 (.inl rfl), (dir_one ho).2 hd⟩
    have h1 := drop_one (l := dirL m own 1) ((vk_rise hs.ok).sublist List.filter_sublist) hin
    rw [hl] at h1
    refine ⟨by rw [dirI_len, dirI_len]; omega, ?_⟩
    exact dir_low hs.ok own (List.ne_nil_of_mem hin)
  · rw [dirI_len, dirI_len, ← hl]
    unfold dropF
    rw [List.filter_eq_self.2 fun y hy => ?_]
    obtain ⟨h1, h2⟩ := mem_dir.1 hy
    rcases (hmem y).1 h1 with e | e
    · rw [e, dir_one ho, hd] at h2; cases h2
    · simp [isId, hn y e]
end Go.Proofs.Ytmimgpnogjgliaa
