/- A row of ints that is being sorted: its world, what an exchange of two of them makes of it, insertion, rotation, merging as mathematics. No walks. -/

import Derived.Test.YtmimgpnogjgliaaStm
import Derived.Test.YtmimgpnogjgliaaBase
namespace Go.Proofs.Ytmimgpnogjgliaa
set_option maxRecDepth 100000
open Go.RowKit

/-- Two of a row exchanged. -/
def swl (ds : List Int) (i j : Nat) : List Int := (ds.set i (ds.getD j 0)).set j (ds.getD i 0)
theorem swl_len (ds : List Int) (i j : Nat) : (swl ds i j).length = ds.length := by simp [swl]
/-- The row of ints in block b from off on. -/
def SR (w : World) (b off : Nat) (ds : List Int) : Prop := ∀ i, i < ds.length → w.cell? ⟨b, off + i, none⟩ = some (.int .i64 (ds.getD i 0)) ∧ w.frozen? ⟨b, off + i, none⟩ = false
/-- A world of the sort's: what lay below B is as it was. -/
structure SX (B : Nat) (w0 : World) (b off : Nat) (w : World) (ds : List Int) : Prop where
  bel : Below B w0 w
  row : SR w b off ds
  hB : B ≤ b
  lt : b < w.heap.size
section
variable {B : Nat} {w0 w w' : World} {b off : Nat} {ds : List Int}
theorem SX.low (h : SX B w0 b off w ds) (hb : Below w.heap.size w w') : SX B w0 b off w' ds :=
  ⟨h.bel.trans (hb.mono (Nat.le_of_lt (Nat.lt_of_le_of_lt h.hB h.lt))), fun i hi => ⟨(hb.cell (p := ⟨b, off + i, none⟩) h.lt).trans (h.row i hi).1, (hb.frozen (p := ⟨b, off + i, none⟩) h.lt).trans (h.row i hi).2⟩, h.hB, Nat.lt_of_lt_of_le h.lt hb.size⟩
theorem SX.drew (h : SX B w0 b off w ds) : SX B w0 b off w.drew ds := h.low (Below.refl _ w).drew
theorem SX.c (h : SX B w0 b off w ds) {i : Nat} (hi : i < ds.length) : w.cell? ⟨b, off + i, none⟩ = some (.int .i64 (ds.getD i 0)) := (h.row i hi).1
theorem SX.f (h : SX B w0 b off w ds) {i : Nat} (hi : i < ds.length) : w.frozen? ⟨b, off + i, none⟩ = false := (h.row i hi).2
theorem SX.swap (h : SX B w0 b off w ds) {i j : Nat} (hi : i < ds.length) (hj : j < ds.length) :
    SX B w0 b off ((w.setCell ⟨b, off + i, none⟩ (.int .i64 (ds.getD j 0))).setCell ⟨b, off + j, none⟩ (.int .i64 (ds.getD i 0))) (swl ds i j) := by
  refine ⟨(h.bel.setCell (p := ⟨b, off + i, none⟩) h.hB _).setCell (p := ⟨b, off + j, none⟩) h.hB _, ?_, h.hB, by simpa using h.lt⟩
  intro k hk
  rw [swl_len] at hk
  refine ⟨?_, by simpa using h.f hk⟩
  by_cases e2 : k = j
  · subst e2
    rw [World.cell?_setCell_same' _ _ _ ?_]
    · simp [swl, List.getD, hk]
    · by_cases e1 : k = i
      · subst e1; rw [World.cell?_setCell_same' _ _ _ (by rw [h.c hk]; rfl)]; rfl
      · rw [World.cell?_setCell_other _ _ _ _ (by intro e; simp only [Addr.mk.injEq] at e; omega), h.c hk]; rfl
  · rw [World.cell?_setCell_other _ _ _ _ (by intro e; simp only [Addr.mk.injEq] at e; omega)]
    by_cases e1 : k = i
    · subst e1
      rw [World.cell?_setCell_same' _ _ _ (by rw [h.c hk]; rfl)]
      simp [swl, List.getD, hk, Ne.symm e2]
    · rw [World.cell?_setCell_other _ _ _ _ (by intro e; simp only [Addr.mk.injEq] at e; omega), h.c hk]
      simp [swl, List.getD, hk, Ne.symm e2, Ne.symm e1]
/-- Behind the first store the other place still holds something. -/
theorem SX.c2 (h : SX B w0 b off w ds) {i j : Nat} (hi : i < ds.length) (hj : j < ds.length) (v : Value) : ∃ u, (w.setCell ⟨b, off + i, none⟩ v).cell? ⟨b, off + j, none⟩ = some u := by
  by_cases e : i = j
  · subst e; exact ⟨v, World.cell?_setCell_same' _ _ _ (by rw [h.c hi]; rfl)⟩
  · exact ⟨_, (World.cell?_setCell_other _ _ _ _ (by intro e'; simp only [Addr.mk.injEq] at e'; omega)).trans (h.c hj)⟩
end

/-! Lists. -/
theorem gd_mid (p : List Int) (u : Int) (q : List Int) {i : Nat} (hi : i = p.length) : (p ++ u :: q).getD i 0 = u := by
  subst hi; simp [List.getD]
theorem set_mid (p : List Int) (u v : Int) (q : List Int) {i : Nat} (hi : i = p.length) : (p ++ u :: q).set i v = p ++ v :: q := by
  subst hi; simp
/-- Two places of a row, far from one another. -/
theorem sw_far (p m q : List Int) (u v : Int) {i j : Nat} (hi : i = p.length) (hj : j = p.length + 1 + m.length) : swl (p ++ u :: (m ++ v :: q)) i j = p ++ v :: (m ++ u :: q) := by
  have e : p ++ u :: (m ++ v :: q) = (p ++ u :: m) ++ v :: q := by simp
  have hj' : j = (p ++ u :: m).length := by simp; omega
  have e' : ∀ x : Int, (p ++ x :: m).length = p.length + 1 + m.length := fun x => by simp; omega
  unfold swl
  rw [gd_mid p u _ hi]
  rw [show (p ++ u :: (m ++ v :: q)).getD j 0 = v by rw [e]; exact gd_mid _ v q hj']
  rw [set_mid p u v _ hi]
  rw [show p ++ v :: (m ++ v :: q) = (p ++ v :: m) ++ v :: q by simp, set_mid _ v u q (by rw [e']; exact hj)]
  simp
theorem swl_comm (ds : List Int) {i j : Nat} (h : i ≠ j) : swl ds i j = swl ds j i := by
  unfold swl
  exact List.set_comm _ _ h
theorem sw_adj (p q : List Int) (u v : Int) {i j : Nat} (hi : i = p.length) (hj : j = p.length + 1) : swl (p ++ u :: v :: q) i j = p ++ v :: u :: q := sw_far p [] q u v hi (by simpa using hj)
theorem sw_adj' (p q : List Int) (u v : Int) {i j : Nat} (hi : i = p.length) (hj : j = p.length + 1) : swl (p ++ u :: v :: q) j i = p ++ v :: u :: q := by
  rw [swl_comm _ (by omega), sw_adj p q u v hi hj]
/-! The order. -/
/-- What the comparison cf, asked of a later one and an elder one that may be asked, says of the order lt. -/
structure SOrd (ok : Int → Prop) (cf : Int → Int → Int) (lt : Int → Int → Prop) : Prop where
  tr : ∀ x y z, lt x y → lt y z → lt x z
  yes : ∀ x y, ok x → ok y → x < y → cf y x < 0 → lt y x
  no : ∀ x y, ok x → ok y → x < y → ¬ cf y x < 0 → lt x y
/-- A part that is sorted: the same ones, rising. -/
def Srt (lt : Int → Int → Prop) (m s : List Int) : Prop := s.Perm m ∧ s.Pairwise lt
/-! Insertion. -/
section
variable {ok : Int → Prop} {cf : Int → Int → Int} {lt : Int → Int → Prop}
/-- One put into those that are sorted: at place q of them; behind it stand greater ones. -/
def Inn (lt : Int → Int → Prop) (X S : List Int) (x : Int) (R : List Int) (q : Nat) (d : List Int) : Prop := d = X ++ (S.take q ++ x :: (S.drop q ++ R)) ∧ q ≤ S.length ∧ ∀ y ∈ S.drop q, lt x y
theorem Inn.start (X S : List Int) (x : Int) (R : List Int) : Inn lt X S x R S.length (X ++ (S ++ x :: R)) := ⟨by simp, Nat.le_refl _, by simp⟩
theorem Inn.cur {X S R d : List Int} {x : Int} {q : Nat} (h : Inn lt X S x R q d) {i : Nat} (hi : i = X.length + q) : d.getD i 0 = x := by
  obtain ⟨rfl, h1, _⟩ := h
  rw [← List.append_assoc]
  exact gd_mid _ x _ (by simp; omega)
theorem drop_q {S : List Int} {q : Nat} (h : q < S.length) : S.drop q = S.getD q 0 :: S.drop (q + 1) := by
  rw [List.drop_eq_getElem_cons h]; simp [List.getD, h]
theorem take_q {S : List Int} {q : Nat} (h : q < S.length) : S.take (q + 1) = S.take q ++ [S.getD q 0] := by
  rw [List.take_add_one]; simp [List.getD, h]
theorem Inn.back {X S R d : List Int} {x : Int} {q : Nat} (h : Inn lt X S x R (q + 1) d) {i : Nat} (hi : i = X.length + q) : d.getD i 0 = S.getD q 0 := by
  obtain ⟨rfl, h1, _⟩ := h
  rw [take_q (by omega), show X ++ (S.take q ++ [S.getD q 0] ++ x :: (S.drop (q + 1) ++ R)) = (X ++ S.take q) ++ S.getD q 0 :: (x :: (S.drop (q + 1) ++ R)) by simp]
  exact gd_mid _ _ _ (by simp; omega)
theorem Inn.step {X S R d : List Int} {x : Int} {q : Nat} (h : Inn lt X S x R (q + 1) d) (hl : lt x (S.getD q 0)) {i j : Nat} (hi : i = X.length + q + 1) (hj : j = X.length + q) : Inn lt X S x R q (swl d i j) := by
  obtain ⟨rfl, h1, h2⟩ := h
  refine ⟨?_, by omega, ?_⟩
  · rw [take_q (by omega), show X ++ (S.take q ++ [S.getD q 0] ++ x :: (S.drop (q + 1) ++ R)) = (X ++ S.take q) ++ S.getD q 0 :: x :: (S.drop (q + 1) ++ R) by simp, sw_adj' _ _ _ _ (by simp; omega) (by simp; omega), drop_q (show q < S.length by omega)]
    simp
  · rw [drop_q (show q < S.length by omega)]
    intro y hy
    rcases List.mem_cons.1 hy with rfl | hy
    · exact hl
    · exact h2 y hy
theorem Inn.len {X S R d : List Int} {x : Int} {q : Nat} (h : Inn lt X S x R q d) : d.length = X.length + S.length + 1 + R.length := by
  obtain ⟨rfl, h1, _⟩ := h
  simp; omega
theorem Inn.done (O : SOrd ok cf lt) {X S R d : List Int} {x : Int} {q : Nat} (h : Inn lt X S x R q d) (hs : S.Pairwise lt) (hq : q = 0 ∨ (0 < q ∧ lt (S.getD (q - 1) 0) x)) :
    ∃ S', d = X ++ (S' ++ R) ∧ S'.Perm (S ++ [x]) ∧ S'.Pairwise lt := by
  obtain ⟨rfl, h1, h2⟩ := h
  refine ⟨S.take q ++ x :: S.drop q, by simp, ?_, ?_⟩
  · have e : (S ++ [x]).Perm (S.take q ++ S.drop q ++ [x]) := by rw [List.take_append_drop]
    refine List.Perm.trans ?_ e.symm
    rw [List.append_assoc]
    exact List.Perm.append_left _ (List.perm_append_comm (l₁ := [x]) (l₂ := S.drop q))
  · have hp := (List.take_append_drop q S) ▸ hs
    obtain ⟨p1, p2, p3⟩ := List.pairwise_append.1 hp
    have hx : ∀ z ∈ S.take q, lt z x := by
      rcases hq with rfl | ⟨hq, hl⟩
      · intro z hz; simp at hz
      · have := pw_le_last O.tr hs hq h1 (z := x) (by simpa [List.getD, show q - 1 < S.length by omega] using hl)
        exact this
    refine List.pairwise_append.2 ⟨p1, List.pairwise_cons.2 ⟨h2, p2⟩, fun z hz y hy => ?_⟩
    rcases List.mem_cons.1 hy with rfl | hy
    · exact hx z hz
    · exact p3 z hz y hy
/-- The first k of m are sorted. -/
def Ins (lt : Int → Int → Prop) (X M Z : List Int) (k : Nat) (d : List Int) : Prop := ∃ S, d = X ++ (S ++ (M.drop k ++ Z)) ∧ Srt lt (M.take k) S
theorem Ins.start (X M Z : List Int) : Ins lt X M Z 1 (X ++ (M ++ Z)) := by
  refine ⟨M.take 1, ?_, .refl _, ?_⟩
  · rw [← List.append_assoc (M.take 1), List.take_append_drop]
  · cases M with
    | nil => exact List.Pairwise.nil
    | cons x r => exact List.pairwise_singleton _ _
theorem Ins.len {X M Z d : List Int} {k : Nat} (h : Ins lt X M Z k d) : d.length = X.length + M.length + Z.length := by
  obtain ⟨S, rfl, h1, _⟩ := h
  have := h1.length_eq
  have e : M.length = (M.take k).length + (M.drop k).length := by rw [← List.length_append, List.take_append_drop]
  simp only [List.length_append]
  omega
theorem Ins.open {X M Z d : List Int} {k : Nat} (h : Ins lt X M Z k d) (hk : k < M.length) : ∃ S, S.length = k ∧ Srt lt (M.take k) S ∧ Inn lt X S (M.getD k 0) (M.drop (k + 1) ++ Z) S.length d := by
  obtain ⟨S, rfl, h1, h2⟩ := h
  refine ⟨S, by have := h1.length_eq; rw [List.length_take] at this; omega, ⟨h1, h2⟩, ?_⟩
  have := Inn.start (lt := lt) X S (M.getD k 0) (M.drop (k + 1) ++ Z)
  rw [drop_q hk]
  exact this
theorem Ins.next (O : SOrd ok cf lt) {X M Z d S : List Int} {k q : Nat} (hk : k < M.length) (hs : Srt lt (M.take k) S) (h : Inn lt X S (M.getD k 0) (M.drop (k + 1) ++ Z) q d) (hq : q = 0 ∨ (0 < q ∧ lt (S.getD (q - 1) 0) (M.getD k 0))) : Ins lt X M Z (k + 1) d := by
  obtain ⟨S', e, h1, h2⟩ := h.done O hs.2 hq
  refine ⟨S', e, ?_, h2⟩
  rw [take_q hk]
  exact h1.trans (hs.1.append_right _)
theorem Ins.fin {X M Z d : List Int} {k : Nat} (h : Ins lt X M Z k d) (hk : M.length ≤ k) : ∃ S, d = X ++ (S ++ Z) ∧ Srt lt M S := by
  obtain ⟨S, rfl, h1⟩ := h
  rw [List.take_of_length_le hk] at h1
  exact ⟨S, by rw [List.drop_eq_nil_of_le hk]; rfl, h1⟩
/-- The one that is put in is a later one than those that are sorted. -/
theorem ins_lt {M S : List Int} {k q : Nat} (hM : M.Pairwise (· < ·)) (hk : k < M.length) (hs : S.Perm (M.take k)) (hq : q < S.length) : S.getD q 0 < M.getD k 0 ∧ S.getD q 0 ∈ M ∧ M.getD k 0 ∈ M := by
  have h1 : S.getD q 0 ∈ M.take k := by
    refine hs.mem_iff.1 ?_
    simp [List.getD, hq]
  have h2 : M.getD k 0 ∈ M.drop k := by rw [drop_q hk]; exact List.mem_cons_self
  exact ⟨pw_take_drop hM k _ h1 _ h2, List.mem_of_mem_take h1, List.mem_of_mem_drop h2⟩
end
end Go.Proofs.Ytmimgpnogjgliaa

