/- What the program's queue is asked to answer, over whatever it keeps; the law's examples. -/
import Derived.Test.YtgcjmnjepnmaeaaQop
namespace Go.Proofs.Ytgcjmnjepnmaeaa
set_option maxRecDepth 100000
open Go.RowKit

/-- What the program's queue answers: QSt w F b m l: at block b lies a queue of at most m that holds l, in the blocks of F. -/
structure Qc (QSt : World → (Nat → Prop) → Nat → Int → List Pk → Prop) : Prop where
  lt : ∀ {w : World} {F : Nat → Prop} {b : Nat} {m : Int} {l : List Pk}, QSt w F b m l → ∀ k, F k → k < w.heap.size
  len : ∀ {w : World} {F : Nat → Prop} {b : Nat} {m : Int} {l : List Pk}, QSt w F b m l → (l.length : Int) ≤ m ∧ 1 ≤ m ∧ m ≤ 64
  keep : ∀ {w w' : World} {F G : Nat → Prop} {b : Nat} {m : Int} {l : List Pk}, QSt w F b m l → Chg G w w' → (∀ k, F k → ¬ G k) → QSt w' F b m l
  new_no : ∀ {m : Int}, ¬ (1 ≤ m ∧ m ≤ 64) → ∀ w, Calls Try.prog 9 #[.int .i64 m] w fun e w' => e = .returned (.tuple #[.pointer none, .int .i64 1]) ∧ Below w.heap.size w w'
  new_ok : ∀ {m : Int}, 1 ≤ m ∧ m ≤ 64 → ∀ w, Calls Try.prog 9 #[.int .i64 m] w fun e w' => ∃ b F, e = .returned (.tuple #[.pointer (some ⟨b, 0, none⟩), .int .i64 0]) ∧ QSt w' F b m [] ∧ (∀ k, F k → w.heap.size ≤ k) ∧ Below w.heap.size w w'
  put : ∀ {w : World} {F : Nat → Prop} {b : Nat} {m : Int} {l : List Pk} (y : Pk), QSt w F b m l → Calls Try.prog 11 #[.pointer (some ⟨b, 0, none⟩), pkV y] w fun e w' => e = .returned (.int .i64 (putE m l y)) ∧ Chg F w w' ∧ ∃ F', QSt w' F' b m (putL m l y) ∧ ∀ k, F' k → F k ∨ w.heap.size ≤ k
  take : ∀ {w : World} {F : Nat → Prop} {b : Nat} {m : Int} {l : List Pk} (d : Int), QSt w F b m l → Calls Try.prog 13 #[.pointer (some ⟨b, 0, none⟩), .int .i64 d] w fun e w' => e = .returned (.tuple #[pkV (takeV l d), .int .i64 (takeE l d)]) ∧ Chg F w w' ∧ ∃ F', QSt w' F' b m (takeL l d) ∧ ∀ k, F' k → F k ∨ w.heap.size ≤ k
  first : ∀ {w : World} {F : Nat → Prop} {b : Nat} {m : Int} {l : List Pk}, QSt w F b m l → Calls Try.prog 15 #[.pointer (some ⟨b, 0, none⟩)] w fun e w' => e = .returned (.tuple #[pkV (firstV l), .int .i64 (firstE l)]) ∧ Chg F w w' ∧ ∃ F', QSt w' F' b m (l) ∧ ∀ k, F' k → F k ∨ w.heap.size ≤ k
  count : ∀ {w : World} {F : Nat → Prop} {b : Nat} {m : Int} {l : List Pk} (d : Int), QSt w F b m l → Calls Try.prog 17 #[.pointer (some ⟨b, 0, none⟩), .int .i64 d] w fun e w' => e = .returned (.int .i64 (cntN l d)) ∧ Chg F w w' ∧ ∃ F', QSt w' F' b m (l) ∧ ∀ k, F' k → F k ∨ w.heap.size ≤ k
  clear : ∀ {w : World} {F : Nat → Prop} {b : Nat} {m : Int} {l : List Pk} (d : Int), QSt w F b m l → Calls Try.prog 19 #[.pointer (some ⟨b, 0, none⟩), .int .i64 d] w fun e w' => e = .returned (.int .i64 (cntN l d)) ∧ Chg F w w' ∧ ∃ F', QSt w' F' b m (clrL l d) ∧ ∀ k, F' k → F k ∨ w.heap.size ≤ k
  all : ∀ {w : World} {F : Nat → Prop} {b : Nat} {m : Int} {l : List Pk}, QSt w F b m l → Calls Try.prog 22 #[.pointer (some ⟨b, 0, none⟩)] w fun e w' => (∃ a c, e = .returned (.slice a l.length c) ∧ OwK w' w.heap.size (.slice a l.length c) l) ∧ Chg F w w' ∧ ∃ F', QSt w' F' b m l ∧ (∀ k, F' k → F k ∨ w.heap.size ≤ k) ∧ ∀ r g, e = .returned r → r.ownBlock = some g → ¬ F' g
  putN : ∀ (y : Pk), ∀ w, Calls Try.prog 11 #[.pointer none, pkV y] w fun e w' => e = .returned (.int .i64 3) ∧ Below w.heap.size w w'
  takeN : ∀ (d : Int), ∀ w, Calls Try.prog 13 #[.pointer none, .int .i64 d] w fun e w' => e = .returned (.tuple #[pkV zPk, .int .i64 3]) ∧ Below w.heap.size w w'
  firstN : ∀ w, Calls Try.prog 15 #[.pointer none] w fun e w' => e = .returned (.tuple #[pkV zPk, .int .i64 3]) ∧ Below w.heap.size w w'
  countN : ∀ (d : Int), ∀ w, Calls Try.prog 17 #[.pointer none, .int .i64 d] w fun e w' => e = .returned (.int .i64 0) ∧ Below w.heap.size w w'
  clearN : ∀ (d : Int), ∀ w, Calls Try.prog 19 #[.pointer none, .int .i64 d] w fun e w' => e = .returned (.int .i64 0) ∧ Below w.heap.size w w'
  allN : ∀ w, Calls Try.prog 22 #[.pointer none] w fun e w' => (∃ a c, e = .returned (.slice a 0 c)) ∧ Below w.heap.size w w'
/-- A queue that keeps off the blocks of K, and off those that there were in w0. -/
structure QS (QSt : World → (Nat → Prop) → Nat → Int → List Pk → Prop) (w0 w : World) (K : Nat → Prop) (b : Nat) (m : Int) (l : List Pk) : Prop where
  st : ∃ F, QSt w F b m l ∧ ∀ k, F k → w0.heap.size ≤ k ∧ ¬ K k
  bel : Below w0.heap.size w0 w
  klt : ∀ k, K k → k < w.heap.size
/-- What a call on such a queue may turn. -/
def Off (w0 : World) (K : Nat → Prop) (k : Nat) : Prop := w0.heap.size ≤ k ∧ ¬ K k
section
variable {QSt : World → (Nat → Prop) → Nat → Int → List Pk → Prop} {w0 w w' : World} {K : Nat → Prop} {b : Nat} {m : Int} {l : List Pk}
theorem QS.len (hc : Qc QSt) (h : QS QSt w0 w K b m l) : (l.length : Int) ≤ m ∧ 1 ≤ m ∧ m ≤ 64 := by
  obtain ⟨F, h1, _⟩ := h.st
  exact hc.len h1
theorem QS.after {l' : List Pk} (h : QS QSt w0 w K b m l) {F F' : Nat → Prop} (h2 : ∀ k, F k → w0.heap.size ≤ k ∧ ¬ K k) (hg : Chg F w w') (h3 : QSt w' F' b m l') (h4 : ∀ k, F' k → F k ∨ w.heap.size ≤ k) : QS QSt w0 w' K b m l' ∧ Chg (Off w0 K) w w' :=
  ⟨⟨⟨F', h3, fun k hk => (h4 k hk).elim (h2 k) (fun h5 => ⟨Nat.le_trans h.bel.size h5, fun hK => by have := h.klt k hK; omega⟩)⟩, h.bel.trans (hg.below h.bel.size (fun k hk => (h2 k hk).1)), fun k hk => Nat.lt_of_lt_of_le (h.klt k hk) hg.size⟩, hg.mono (fun k _ hk => h2 k hk)⟩
/-- What turns only other blocks leaves it. -/
theorem QS.keep (hc : Qc QSt) (h : QS QSt w0 w K b m l) {G K' : Nat → Prop} (hg : Chg G w w') (hG : ∀ k, G k → K k) (h0 : ∀ k, K k → w0.heap.size ≤ k) (hK : ∀ k, K' k → K k ∨ w.heap.size ≤ k) (hl : ∀ k, K' k → k < w'.heap.size) : QS QSt w0 w' K' b m l := by
  obtain ⟨F, h1, h2⟩ := h.st
  refine ⟨⟨F, hc.keep h1 hg (fun k hk hn => (h2 k hk).2 (hG k hn)), fun k hk => ⟨(h2 k hk).1, fun hn => ?_⟩⟩, h.bel.trans (hg.below h.bel.size (fun k hk => h0 k (hG k hk))), hl⟩
  rcases hK k hn with h3 | h3
  · exact (h2 k hk).2 h3
  · have := hc.lt h1 k hk
    omega
theorem QS.alloc (hc : Qc QSt) (h : QS QSt w0 w K b m l) (o : Obj) : QS QSt w0 (w.alloc o) (fun k => K k ∨ k = w.heap.size) b m l := by
  obtain ⟨F, h1, h2⟩ := h.st
  refine ⟨⟨F, hc.keep (G := fun _ => False) h1 ((Chg.refl _ w).alloc o) (fun k _ hn => hn), fun k hk => ⟨(h2 k hk).1, fun hn => ?_⟩⟩, h.bel.alloc h.bel.size o, fun k hk => ?_⟩
  · rcases hn with h3 | h3
    · exact (h2 k hk).2 h3
    · have := hc.lt h1 k hk
      omega
  · have : (w.alloc o).heap.size = w.heap.size + 1 := by simp
    rcases hk with h3 | h3
    · have := h.klt k h3
      omega
    · omega
theorem QS.dn (hc : Qc QSt) (h : QS QSt w0 w K b m l) (n : Nat) : QS QSt w0 (w.drewN n) K b m l := by
  obtain ⟨F, h1, h2⟩ := h.st
  exact ⟨⟨F, hc.keep (G := fun _ => False) h1 ((Chg.refl _ w).dn n) (fun k _ hn => hn), h2⟩, ⟨h.bel.os, h.bel.tape, h.bel.output, h.bel.size, h.bel.block⟩, h.klt⟩
theorem QS.less (h : QS QSt w0 w K b m l) {K' : Nat → Prop} (hK : ∀ k, K' k → K k) : QS QSt w0 w K' b m l := by
  obtain ⟨F, h1, h2⟩ := h.st
  exact ⟨⟨F, h1, fun k hk => ⟨(h2 k hk).1, fun hn => (h2 k hk).2 (hK k hn)⟩⟩, h.bel, fun k hk => h.klt k (hK k hk)⟩
theorem Qc.news (hc : Qc QSt) (hm : 1 ≤ m ∧ m ≤ 64) (w : World) : Calls Try.prog 9 #[.int .i64 m] w fun e w' => ∃ b, e = .returned (.tuple #[.pointer (some ⟨b, 0, none⟩), .int .i64 0]) ∧ QS QSt w w' (fun _ => False) b m [] :=
  (hc.new_ok hm w).mono (by
    rintro e w' ⟨b, F, h1, h2, h3, h4⟩
    exact ⟨b, h1, ⟨⟨F, h2, fun k hk => ⟨h3 k hk, fun h => h⟩⟩, h4, fun k hk => hk.elim⟩⟩)
theorem Qc.puts (hc : Qc QSt) (h : QS QSt w0 w K b m l) (y : Pk) : Calls Try.prog 11 #[.pointer (some ⟨b, 0, none⟩), pkV y] w fun e w' => e = .returned (.int .i64 (putE m l y)) ∧ QS QSt w0 w' K b m (putL m l y) ∧ Chg (Off w0 K) w w' := by
  obtain ⟨F, h1, h2⟩ := h.st
  refine (hc.put y h1).mono ?_
  rintro e w' ⟨rfl, hg, F', h3, h4⟩
  exact ⟨rfl, h.after h2 hg h3 h4⟩
theorem Qc.takes (hc : Qc QSt) (h : QS QSt w0 w K b m l) (d : Int) : Calls Try.prog 13 #[.pointer (some ⟨b, 0, none⟩), .int .i64 d] w fun e w' => e = .returned (.tuple #[pkV (takeV l d), .int .i64 (takeE l d)]) ∧ QS QSt w0 w' K b m (takeL l d) ∧ Chg (Off w0 K) w w' := by
  obtain ⟨F, h1, h2⟩ := h.st
  refine (hc.take d h1).mono ?_
  rintro e w' ⟨rfl, hg, F', h3, h4⟩
  exact ⟨rfl, h.after h2 hg h3 h4⟩
theorem Qc.firsts (hc : Qc QSt) (h : QS QSt w0 w K b m l) : Calls Try.prog 15 #[.pointer (some ⟨b, 0, none⟩)] w fun e w' => e = .returned (.tuple #[pkV (firstV l), .int .i64 (firstE l)]) ∧ QS QSt w0 w' K b m (l) ∧ Chg (Off w0 K) w w' := by
  obtain ⟨F, h1, h2⟩ := h.st
  refine (hc.first h1).mono ?_
  rintro e w' ⟨rfl, hg, F', h3, h4⟩
  exact ⟨rfl, h.after h2 hg h3 h4⟩
theorem Qc.counts (hc : Qc QSt) (h : QS QSt w0 w K b m l) (d : Int) : Calls Try.prog 17 #[.pointer (some ⟨b, 0, none⟩), .int .i64 d] w fun e w' => e = .returned (.int .i64 (cntN l d)) ∧ QS QSt w0 w' K b m (l) ∧ Chg (Off w0 K) w w' := by
  obtain ⟨F, h1, h2⟩ := h.st
  refine (hc.count d h1).mono ?_
  rintro e w' ⟨rfl, hg, F', h3, h4⟩
  exact ⟨rfl, h.after h2 hg h3 h4⟩
theorem Qc.clears (hc : Qc QSt) (h : QS QSt w0 w K b m l) (d : Int) : Calls Try.prog 19 #[.pointer (some ⟨b, 0, none⟩), .int .i64 d] w fun e w' => e = .returned (.int .i64 (cntN l d)) ∧ QS QSt w0 w' K b m (clrL l d) ∧ Chg (Off w0 K) w w' := by
  obtain ⟨F, h1, h2⟩ := h.st
  refine (hc.clear d h1).mono ?_
  rintro e w' ⟨rfl, hg, F', h3, h4⟩
  exact ⟨rfl, h.after h2 hg h3 h4⟩
theorem Qc.alls (hc : Qc QSt) (h : QS QSt w0 w K b m l) : Calls Try.prog 22 #[.pointer (some ⟨b, 0, none⟩)] w fun e w' => (∃ a c, e = .returned (.slice a l.length c) ∧ OwK w' w.heap.size (.slice a l.length c) l ∧ QS QSt w0 w' (fun k => K k ∨ (Value.slice a l.length c).ownBlock = some k) b m l) ∧ Chg (Off w0 K) w w' := by
  obtain ⟨F, h1, h2⟩ := h.st
  refine (hc.all h1).mono ?_
  rintro e w' ⟨⟨a, c, rfl, ho⟩, hg, F', h3, h4, h5⟩
  obtain ⟨h6, h7⟩ := h.after h2 hg h3 h4
  refine ⟨⟨a, c, rfl, ho, ⟨F', h3, fun k hk => ⟨?_, fun hn => ?_⟩⟩, h6.bel, fun k hk => hk.elim (h6.klt k) (fun h => (ho.lt k h).2)⟩, h7⟩
  · rcases h4 k hk with h8 | h8
    · exact (h2 k h8).1
    · exact Nat.le_trans h.bel.size h8
  · rcases hn with h8 | h8
    · rcases h4 k hk with h9 | h9
      · exact (h2 k h9).2 h8
      · have := h.klt k h8
        omega
    · exact h5 _ k rfl h8 hk
end
theorem QS.under {QSt : World → (Nat → Prop) → Nat → Int → List Pk → Prop} (hc : Qc QSt) {w0 w w' : World} {K : Nat → Prop} {b : Nat} {m : Int} {l : List Pk} (h : QS QSt w0 w K b m l) (hb : Below w.heap.size w w') : QS QSt w0 w' K b m l := by
  obtain ⟨F, h1, h2⟩ := h.st
  exact ⟨⟨F, hc.keep (G := fun _ => False) h1 (chg0 hb) (fun _ _ h => h), h2⟩, h.bel.trans (hb.mono h.bel.size), fun k hk => Nat.lt_of_lt_of_le (h.klt k hk) hb.size⟩
end Go.Proofs.Ytgcjmnjepnmaeaa
