/- The order in which views are listed is that of a stable sort. No walks. -/
import Derived.Test.YtahhhegknmiinaaVmu
import Derived.Test.YtahhhegknmiinaaStm
namespace Go.Proofs.Ytahhhegknmiinaa
set_option maxRecDepth 100000

/-- The comparison of two views. -/
def clV (x y : Vw) : Bool := lsx x.2 y.2
/-- A numbered view put in, from the front. -/
def insT (y : Vw × Nat) : List (Vw × Nat) → List (Vw × Nat)
  | [] => [y]
  | x :: r => if clV y.1 x.1 = true then y :: x :: r else x :: insT y r
theorem insT_fst (y : Vw × Nat) (l : List (Vw × Nat)) : (insT y l).map (·.1) = insQ y.1 (l.map (·.1)) := by
  induction l with
  | nil => rfl
  | cons x r ih =>
    show (if clV y.1 x.1 = true then y :: x :: r else x :: insT y r).map (·.1) = (if lsx y.1.2 x.1.2 = true then y.1 :: x.1 :: r.map (·.1) else x.1 :: insQ y.1 (r.map (·.1)))
    by_cases h : clV y.1 x.1 = true
    · rw [if_pos h, if_pos (show lsx y.1.2 x.1.2 = true from h)]; rfl
    · rw [if_neg h, if_neg (show ¬ lsx y.1.2 x.1.2 = true from h), List.map_cons, ih]
theorem insT_perm (y : Vw × Nat) (l : List (Vw × Nat)) : (insT y l).Perm (y :: l) := by
  induction l with
  | nil => exact .refl _
  | cons x r ih =>
    show (if clV y.1 x.1 = true then y :: x :: r else x :: insT y r).Perm _
    split
    · exact .refl _
    · exact (List.Perm.cons x ih).trans (List.Perm.swap y x r)
theorem clV_tr (x y z : Vw) (h : clV x y = true) (k : clV y z = true) : clV x z = true := lsx_tr h k
/-- Among views that are told: neither less, neither less. -/
theorem clV_nt {x y z : Vw} (tx : tld x.2 = true) (ty : tld y.2 = true) (tz : tld z.2 = true) (h : clV x y = false) (k : clV y z = false) : clV x z = false := by
  cases e : clV x z with
  | false => rfl
  | true =>
    have e3 := ((lsx_iff _ _).1 e).2.2
    have h' : ¬ cmpL (row5 x.2) (row5 y.2) < 0 := fun g => by
      have : clV x y = true := (lsx_iff _ _).2 ⟨tx, ty, g⟩
      rw [h] at this; cases this
    have k' : ¬ cmpL (row5 y.2) (row5 z.2) < 0 := fun g => by
      have : clV y z = true := (lsx_iff _ _).2 ⟨ty, tz, g⟩
      rw [k] at this; cases this
    exfalso
    by_cases e1 : row5 x.2 = row5 y.2
    · rw [e1] at e3; exact k' e3
    · rcases cmpL_tot (show (row5 x.2).length = (row5 y.2).length from rfl) e1 with g | g
      · exact h' g
      · exact k' (cmpL_tr (xs := row5 y.2) (ys := row5 x.2) (zs := row5 z.2) rfl rfl g e3)
def Told2 (l : List (Vw × Nat)) : Prop := ∀ x ∈ l, tld x.1.2 = true
theorem stbV_tr {x y z : Vw × Nat} (tx : tld x.1.2 = true) (ty : tld y.1.2 = true) (tz : tld z.1.2 = true) (h : stb clV x y) (k : stb clV y z) : stb clV x z := by
  unfold stb at *
  rcases h with h | ⟨h, h'⟩
  · rcases k with k | ⟨k, _⟩
    · exact .inl (clV_tr _ _ _ h k)
    · cases hxz : clV x.1 z.1 with
      | true => exact .inl rfl
      | false => rw [clV_nt tx tz ty hxz k] at h; cases h
  · rcases k with k | ⟨k, k'⟩
    · cases hxz : clV x.1 z.1 with
      | true => exact .inl rfl
      | false => rw [clV_nt ty tx tz h hxz] at k; cases k
    · exact .inr ⟨clV_nt tz ty tx k h, by omega⟩
theorem insT_stb {y : Vw × Nat} {l : List (Vw × Nat)} (ty : tld y.1.2 = true) (tl : Told2 l) (h : l.Pairwise (stb clV)) (hn : ∀ x ∈ l, x.2 < y.2) : (insT y l).Pairwise (stb clV) := by
  induction l with
  | nil => exact List.pairwise_singleton _ _
  | cons x r ih =>
    obtain ⟨h1, h2⟩ := List.pairwise_cons.1 h
    have tx := tl x (by simp)
    have tr : Told2 r := fun z hz => tl z (by simp [hz])
    show (if clV y.1 x.1 = true then y :: x :: r else x :: insT y r).Pairwise (stb clV)
    by_cases hp : clV y.1 x.1 = true
    · rw [if_pos hp]
      refine List.pairwise_cons.2 ⟨fun z hz => ?_, h⟩
      rcases List.mem_cons.1 hz with rfl | hz
      · exact .inl hp
      · exact stbV_tr ty tx (tr z hz) (.inl hp) (h1 z hz)
    · rw [if_neg hp]
      refine List.pairwise_cons.2 ⟨fun z hz => ?_, ih tr h2 (fun x hx => hn x (by simp [hx]))⟩
      rcases List.mem_cons.1 ((insT_perm y r).mem_iff.1 hz) with rfl | hz
      · exact .inr ⟨by simpa using hp, hn x (by simp)⟩
      · exact h1 z hz
/-- Views with the places at which they stood. -/
def tagF (l : List Vw) (n : Nat) : List (Vw × Nat) := l.zipIdx n
theorem tag_fold : ∀ (l : List Vw) (n : Nat) (zs : List (Vw × Nat)), (∀ y ∈ l, tld y.2 = true) → Told2 zs → zs.Pairwise (stb clV) → (∀ x ∈ zs, x.2 < n) →
    ((l.zipIdx n).foldl (fun zs y => insT y zs) zs).Pairwise (stb clV) ∧ ((l.zipIdx n).foldl (fun zs y => insT y zs) zs).Perm (zs ++ l.zipIdx n) ∧ ((l.zipIdx n).foldl (fun zs y => insT y zs) zs).map (·.1) = l.foldl (fun xs y => insO y xs) (zs.map (·.1)) := by
  intro l
  induction l with
  | nil => intro n zs _ _ h _; exact ⟨h, by simp, rfl⟩
  | cons y r ih =>
    intro n zs tl tz h hn
    have ty := tl y (by simp)
    rw [List.zipIdx_cons, List.foldl_cons, List.foldl_cons]
    have hp := insT_perm (y, n) zs
    obtain ⟨i1, i2, i3⟩ := ih (n + 1) (insT (y, n) zs) (fun z hz => tl z (by simp [hz])) (fun z hz => by
      rcases List.mem_cons.1 (hp.mem_iff.1 hz) with rfl | hz
      · exact ty
      · exact tz z hz) (insT_stb ty tz h hn) (fun z hz => by
      rcases List.mem_cons.1 (hp.mem_iff.1 hz) with rfl | hz
      · exact Nat.lt_succ_self n
      · exact Nat.lt_succ_of_lt (hn z hz))
    refine ⟨i1, i2.trans ((hp.append_right _).trans ?_), i3.trans ?_⟩
    · exact List.perm_middle.symm
    · rw [insT_fst, insO_eq]
/-- What a stable sort by the heights answers is the document's order. -/
theorem vord_stb {l : List Vw} (tl : ∀ y ∈ l, tld y.2 = true) {zs : List (Vw × Nat)} (hp : zs.Perm (l.zipIdx 0)) (hs : zs.Pairwise (stb clV)) : zs.map (·.1) = vordL l := by
  obtain ⟨h1, h2, h3⟩ := tag_fold l 0 [] tl (fun _ hx => nomatch hx) List.Pairwise.nil (fun _ hx => nomatch hx)
  have e : zs = (l.zipIdx 0).foldl (fun zs y => insT y zs) [] := by
    refine (hp.trans h2.symm).eq_of_pairwise (fun a b _ _ g k => ?_) hs h1
    unfold stb at g k
    exfalso
    rcases g with g | ⟨g, g'⟩
    · rcases k with k | ⟨k, _⟩
      · have := lsx_as (x := a.1.2) (y := b.1.2) g
        rw [show lsx b.1.2 a.1.2 = true from k] at this
        cases this
      · rw [g] at k; cases k
    · rcases k with k | ⟨_, k'⟩
      · rw [k] at g; cases g
      · omega
  rw [e, h3]
  rfl
end Go.Proofs.Ytahhhegknmiinaa
