/- What the program's wheel is asked to answer, over whatever it keeps; a wheel that keeps off other blocks. -/
import Derived.Test.YtmgipedpggpkoaaWru
namespace Go.Proofs.Ytmgipedpggpkoaa
set_option maxRecDepth 100000
open Go.RowKit

/-- The earlier one; of one time the lesser key. -/
def ltT (x y : Tm) : Prop := x.1 < y.1 ∨ (x.1 = y.1 ∧ x.2 < y.2)
/-- Timers as they are listed: by their times, then by their keys; no key twice. -/
structure TOk (l : List Tm) : Prop where
  srt : l.Pairwise ltT
  nd : (l.map (·.2)).Nodup
  rg : ∀ y ∈ l, 0 ≤ y.1 ∧ y.1 ≤ 1000000000000 ∧ 0 ≤ y.2
  len : l.length ≤ 1024
/-- What the program's wheel answers: WSt w F b l: at block b lies a wheel that lists l, in the blocks of F. -/
structure Wc (WSt : World → (Nat → Prop) → Nat → List Tm → Prop) : Prop where
  lt : ∀ {w : World} {F : Nat → Prop} {b : Nat} {l : List Tm}, WSt w F b l → ∀ k, F k → k < w.heap.size
  ok : ∀ {w : World} {F : Nat → Prop} {b : Nat} {l : List Tm}, WSt w F b l → TOk l
  keep : ∀ {w w' : World} {F G : Nat → Prop} {b : Nat} {l : List Tm}, WSt w F b l → Chg G w w' → (∀ k, F k → ¬ G k) → WSt w' F b l
  new : ∀ w, Calls Try.prog 8 #[] w fun e w' => ∃ b F, e = .returned (.pointer (some ⟨b, 0, none⟩)) ∧ WSt w' F b [] ∧ (∀ k, F k → w.heap.size ≤ k) ∧ Below w.heap.size w w'
  set : ∀ {w : World} {F : Nat → Prop} {b : Nat} {l : List Tm} (key at_ : Int), I64 key → WSt w F b l → Calls Try.prog 9 #[.pointer (some ⟨b, 0, none⟩), .int .i64 key, .int .i64 at_] w fun e w' => e = .returned (.int .i64 (setE l key at_)) ∧ Chg F w w' ∧ ∃ F', WSt w' F' b (setL l key at_) ∧ ∀ k, F' k → F k ∨ w.heap.size ≤ k
  stop : ∀ {w : World} {F : Nat → Prop} {b : Nat} {l : List Tm} (key : Int), I64 key → WSt w F b l → Calls Try.prog 11 #[.pointer (some ⟨b, 0, none⟩), .int .i64 key] w fun e w' => e = .returned (.int .i64 (stopE l key)) ∧ Chg F w w' ∧ ∃ F', WSt w' F' b (stopL l key) ∧ ∀ k, F' k → F k ∨ w.heap.size ≤ k
  next : ∀ {w : World} {F : Nat → Prop} {b : Nat} {l : List Tm}, WSt w F b l → Calls Try.prog 16 #[.pointer (some ⟨b, 0, none⟩)] w fun e w' => e = .returned (.tuple #[.int .i64 (nextV l), .bool (nextB l)]) ∧ Chg F w w' ∧ ∃ F', WSt w' F' b (l) ∧ ∀ k, F' k → F k ∨ w.heap.size ≤ k
  due : ∀ {w : World} {F : Nat → Prop} {b : Nat} {l : List Tm} (now : Int), WSt w F b l → Calls Try.prog 14 #[.pointer (some ⟨b, 0, none⟩), .int .i64 now] w fun e w' => (∃ a c, e = .returned (.slice a (dueK l now).length c) ∧ OwI w' w.heap.size (.slice a (dueK l now).length c) (dueK l now)) ∧ Chg F w w' ∧ ∃ F', WSt w' F' b (dueL l now) ∧ (∀ k, F' k → F k ∨ w.heap.size ≤ k) ∧ ∀ r g, e = .returned r → r.ownBlock = some g → ¬ F' g
  list : ∀ {w : World} {F : Nat → Prop} {b : Nat} {l : List Tm}, WSt w F b l → Calls Try.prog 19 #[.pointer (some ⟨b, 0, none⟩)] w fun e w' => (∃ a c, e = .returned (.slice a l.length c) ∧ OwM w' w.heap.size (.slice a l.length c) l) ∧ Chg F w w' ∧ ∃ F', WSt w' F' b l ∧ (∀ k, F' k → F k ∨ w.heap.size ≤ k) ∧ ∀ r g, e = .returned r → r.ownBlock = some g → ¬ F' g
  setN : ∀ (key at_ : Int), ∀ w, Calls Try.prog 9 #[.pointer none, .int .i64 key, .int .i64 at_] w fun e w' => e = .returned (.int .i64 3) ∧ Below w.heap.size w w'
  stopN : ∀ (key : Int), ∀ w, Calls Try.prog 11 #[.pointer none, .int .i64 key] w fun e w' => e = .returned (.int .i64 3) ∧ Below w.heap.size w w'
  nextN : ∀ w, Calls Try.prog 16 #[.pointer none] w fun e w' => (∃ n, e = .returned (.tuple #[.int .i64 n, .bool false])) ∧ Below w.heap.size w w'
  dueN : ∀ (now : Int), ∀ w, Calls Try.prog 14 #[.pointer none, .int .i64 now] w fun e w' => (∃ a c, e = .returned (.slice a 0 c)) ∧ Below w.heap.size w w'
  listN : ∀ w, Calls Try.prog 19 #[.pointer none] w fun e w' => (∃ a c, e = .returned (.slice a 0 c)) ∧ Below w.heap.size w w'
/-- A wheel that keeps off the blocks of K, and off those that there were in w0. -/
structure WS (WSt : World → (Nat → Prop) → Nat → List Tm → Prop) (w0 w : World) (K : Nat → Prop) (b : Nat) (l : List Tm) : Prop where
  st : ∃ F, WSt w F b l ∧ ∀ k, F k → w0.heap.size ≤ k ∧ ¬ K k
  bel : Below w0.heap.size w0 w
  klt : ∀ k, K k → k < w.heap.size
/-- What a call on such a wheel may turn. -/
def Off (w0 : World) (K : Nat → Prop) (k : Nat) : Prop := w0.heap.size ≤ k ∧ ¬ K k
theorem off_no {w0 : World} {K : Nat → Prop} {k : Nat} (h : K k) : ¬ Off w0 K k := fun h2 => h2.2 h
section
variable {WSt : World → (Nat → Prop) → Nat → List Tm → Prop} {w0 w w' : World} {K : Nat → Prop} {b : Nat} {l : List Tm}
theorem WS.ok (hc : Wc WSt) (h : WS WSt w0 w K b l) : TOk l := by
  obtain ⟨F, h1, _⟩ := h.st
  exact hc.ok h1
theorem WS.after {l' : List Tm} (h : WS WSt w0 w K b l) {F F' : Nat → Prop} (h2 : ∀ k, F k → w0.heap.size ≤ k ∧ ¬ K k) (hg : Chg F w w') (h3 : WSt w' F' b l') (h4 : ∀ k, F' k → F k ∨ w.heap.size ≤ k) : WS WSt w0 w' K b l' ∧ Chg (Off w0 K) w w' :=
  ⟨⟨⟨F', h3, fun k hk => (h4 k hk).elim (h2 k) (fun h5 => ⟨Nat.le_trans h.bel.size h5, fun hK => by have := h.klt k hK; omega⟩)⟩, h.bel.trans (hg.below h.bel.size (fun k hk => (h2 k hk).1)), fun k hk => Nat.lt_of_lt_of_le (h.klt k hk) hg.size⟩, hg.mono (fun k _ hk => h2 k hk)⟩
/-- What turns only other blocks leaves it. -/
theorem WS.keep (hc : Wc WSt) (h : WS WSt w0 w K b l) {G K' : Nat → Prop} (hg : Chg G w w') (hG : ∀ k, G k → K k) (h0 : ∀ k, K k → w0.heap.size ≤ k) (hK : ∀ k, K' k → K k ∨ w.heap.size ≤ k) (hl : ∀ k, K' k → k < w'.heap.size) : WS WSt w0 w' K' b l := by
  obtain ⟨F, h1, h2⟩ := h.st
  refine ⟨⟨F, hc.keep h1 hg (fun k hk hn => (h2 k hk).2 (hG k hn)), fun k hk => ⟨(h2 k hk).1, fun hn => ?_⟩⟩, h.bel.trans (hg.below h.bel.size (fun k hk => h0 k (hG k hk))), hl⟩
  rcases hK k hn with h3 | h3
  · exact (h2 k hk).2 h3
  · have := hc.lt h1 k hk
    omega
theorem WS.under (hc : Wc WSt) (h : WS WSt w0 w K b l) (hb : Below w.heap.size w w') : WS WSt w0 w' K b l := by
  obtain ⟨F, h1, h2⟩ := h.st
  exact ⟨⟨F, hc.keep (G := fun _ => False) h1 (chg0 hb) (fun _ _ h => h), h2⟩, h.bel.trans (hb.mono h.bel.size), fun k hk => Nat.lt_of_lt_of_le (h.klt k hk) hb.size⟩
/-- A block that is new is none of its own. -/
theorem WS.more (hc : Wc WSt) (h : WS WSt w0 w K b l) (hb : Below w.heap.size w w') {K' : Nat → Prop} (hK : ∀ k, K' k → K k ∨ (w.heap.size ≤ k ∧ k < w'.heap.size)) : WS WSt w0 w' K' b l := by
  obtain ⟨F, h1, h2⟩ := h.st
  refine ⟨⟨F, hc.keep (G := fun _ => False) h1 (chg0 hb) (fun _ _ h => h), fun k hk => ⟨(h2 k hk).1, fun hn => ?_⟩⟩, h.bel.trans (hb.mono h.bel.size), fun k hk => ?_⟩
  · rcases hK k hn with h3 | h3
    · exact (h2 k hk).2 h3
    · have := hc.lt h1 k hk
      omega
  · rcases hK k hk with h3 | h3
    · exact Nat.lt_of_lt_of_le (h.klt k h3) hb.size
    · exact h3.2
theorem WS.dn (hc : Wc WSt) (h : WS WSt w0 w K b l) (n : Nat) : WS WSt w0 (w.drewN n) K b l := by
  obtain ⟨F, h1, h2⟩ := h.st
  exact ⟨⟨F, hc.keep (G := fun _ => False) h1 ⟨rfl, rfl, rfl, Nat.le_refl _, fun _ _ _ => rfl⟩ (fun k _ hn => hn), h2⟩, ⟨h.bel.os, h.bel.tape, h.bel.output, h.bel.size, h.bel.block⟩, h.klt⟩
theorem WS.drew (hc : Wc WSt) (h : WS WSt w0 w K b l) : WS WSt w0 w.drew K b l := h.dn hc 1
theorem WS.less (h : WS WSt w0 w K b l) {K' : Nat → Prop} (hK : ∀ k, K' k → K k) : WS WSt w0 w K' b l := by
  obtain ⟨F, h1, h2⟩ := h.st
  exact ⟨⟨F, h1, fun k hk => ⟨(h2 k hk).1, fun hn => (h2 k hk).2 (hK k hn)⟩⟩, h.bel, fun k hk => h.klt k (hK k hk)⟩
theorem Wc.news (hc : Wc WSt) (w : World) : Calls Try.prog 8 #[] w fun e w' => ∃ b, e = .returned (.pointer (some ⟨b, 0, none⟩)) ∧ WS WSt w w' (fun _ => False) b [] ∧ ∃ F, WSt w' F b [] ∧ (∀ k, F k → w.heap.size ≤ k) ∧ Below w.heap.size w w' :=
  (hc.new w).mono (by
    rintro e w' ⟨b, F, h1, h2, h3, h4⟩
    exact ⟨b, h1, ⟨⟨F, h2, fun k hk => ⟨h3 k hk, fun h => h⟩⟩, h4, fun k hk => hk.elim⟩, F, h2, h3, h4⟩)
theorem Wc.sets (hc : Wc WSt) (h : WS WSt w0 w K b l) (key at_ : Int) (hk : I64 key) : Calls Try.prog 9 #[.pointer (some ⟨b, 0, none⟩), .int .i64 key, .int .i64 at_] w fun e w' => e = .returned (.int .i64 (setE l key at_)) ∧ WS WSt w0 w' K b (setL l key at_) ∧ Chg (Off w0 K) w w' := by
  obtain ⟨F, h1, h2⟩ := h.st
  refine (hc.set key at_ hk h1).mono ?_
  rintro e w' ⟨rfl, hg, F', h3, h4⟩
  exact ⟨rfl, h.after h2 hg h3 h4⟩
theorem Wc.stops (hc : Wc WSt) (h : WS WSt w0 w K b l) (key : Int) (hk : I64 key) : Calls Try.prog 11 #[.pointer (some ⟨b, 0, none⟩), .int .i64 key] w fun e w' => e = .returned (.int .i64 (stopE l key)) ∧ WS WSt w0 w' K b (stopL l key) ∧ Chg (Off w0 K) w w' := by
  obtain ⟨F, h1, h2⟩ := h.st
  refine (hc.stop key hk h1).mono ?_
  rintro e w' ⟨rfl, hg, F', h3, h4⟩
  exact ⟨rfl, h.after h2 hg h3 h4⟩
theorem Wc.nexts (hc : Wc WSt) (h : WS WSt w0 w K b l) : Calls Try.prog 16 #[.pointer (some ⟨b, 0, none⟩)] w fun e w' => e = .returned (.tuple #[.int .i64 (nextV l), .bool (nextB l)]) ∧ WS WSt w0 w' K b (l) ∧ Chg (Off w0 K) w w' := by
  obtain ⟨F, h1, h2⟩ := h.st
  refine (hc.next h1).mono ?_
  rintro e w' ⟨rfl, hg, F', h3, h4⟩
  exact ⟨rfl, h.after h2 hg h3 h4⟩
theorem Wc.dues (hc : Wc WSt) (h : WS WSt w0 w K b l) (now : Int) : Calls Try.prog 14 #[.pointer (some ⟨b, 0, none⟩), .int .i64 now] w fun e w' => (∃ a c, e = .returned (.slice a (dueK l now).length c) ∧ OwI w' w.heap.size (.slice a (dueK l now).length c) (dueK l now) ∧ WS WSt w0 w' (fun k => K k ∨ (Value.slice a (dueK l now).length c).ownBlock = some k) b (dueL l now)) ∧ Chg (Off w0 K) w w' := by
  obtain ⟨F, h1, h2⟩ := h.st
  refine (hc.due now h1).mono ?_
  rintro e w' ⟨⟨a, c, rfl, ho⟩, hg, F', h3, h4, h5⟩
  obtain ⟨h6, h7⟩ := h.after h2 hg h3 h4
  refine ⟨⟨a, c, rfl, ho, ⟨F', h3, fun k hk => ⟨?_, fun hn => ?_⟩⟩, h6.bel, fun k hk => hk.elim (h6.klt k) (fun h => (ho.lt k h).2)⟩, h7⟩
  · rcases h4 k hk with h8 | h8
    · exact (h2 k h8).1
    · exact Nat.le_trans h.bel.size h8
  · rcases hn with h8 | h8
    · rcases h4 k hk with h9 | h9
      · exact (h2 k h9).2 h8
      · have := h.klt k h8
        omega
    · exact h5 _ k rfl h8 hk
theorem Wc.lists (hc : Wc WSt) (h : WS WSt w0 w K b l) : Calls Try.prog 19 #[.pointer (some ⟨b, 0, none⟩)] w fun e w' => (∃ a c, e = .returned (.slice a (l).length c) ∧ OwM w' w.heap.size (.slice a (l).length c) (l) ∧ WS WSt w0 w' (fun k => K k ∨ (Value.slice a (l).length c).ownBlock = some k) b (l)) ∧ Chg (Off w0 K) w w' := by
  obtain ⟨F, h1, h2⟩ := h.st
  refine (hc.list h1).mono ?_
  rintro e w' ⟨⟨a, c, rfl, ho⟩, hg, F', h3, h4, h5⟩
  obtain ⟨h6, h7⟩ := h.after h2 hg h3 h4
  refine ⟨⟨a, c, rfl, ho, ⟨F', h3, fun k hk => ⟨?_, fun hn => ?_⟩⟩, h6.bel, fun k hk => hk.elim (h6.klt k) (fun h => (ho.lt k h).2)⟩, h7⟩
  · rcases h4 k hk with h8 | h8
    · exact (h2 k h8).1
    · exact Nat.le_trans h.bel.size h8
  · rcases hn with h8 | h8
    · rcases h4 k hk with h9 | h9
      · exact (h2 k h9).2 h8
      · have := h.klt k h8
        omega
    · exact h5 _ k rfl h8 hk
end
end Go.Proofs.Ytmgipedpggpkoaa
