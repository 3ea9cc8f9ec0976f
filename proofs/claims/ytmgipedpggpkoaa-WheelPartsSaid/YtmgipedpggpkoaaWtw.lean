/- Two wheels that keep off each other; appends of whole rows of numbers. No conditions but on lengths. -/
import Derived.Test.YtmgipedpggpkoaaWmt
namespace Go.Proofs.Ytmgipedpggpkoaa
set_option maxRecDepth 100000
open Go.RowKit

theorem OwI_made (w : World) (S : Nat) (hS : S ≤ w.heap.size) : OwI (w.alloc (.cells #[] 3)) S (.slice (some ⟨w.heap.size, 0, none⟩) 0 0) [] :=
  ⟨rfl, .inr ⟨w.heap.size, 0, #[], rfl, hS, heap_alloc_new w _, Nat.le_refl _, Nat.zero_le _, rfl, rfl⟩⟩
/-- Two wheels, apart from each other, from the blocks of K, and from those that there were in w0. -/
structure TwoW (WSt : World → (Nat → Prop) → Nat → List Tm → Prop) (w0 w : World) (K : Nat → Prop) (ba bb : Nat) (la lb : List Tm) : Prop where
  st : ∃ Fa Fb, WSt w Fa ba la ∧ WSt w Fb bb lb ∧ (∀ k, Fa k → w0.heap.size ≤ k ∧ ¬ K k ∧ ¬ Fb k) ∧ ∀ k, Fb k → w0.heap.size ≤ k ∧ ¬ K k
  bel : Below w0.heap.size w0 w
  klt : ∀ k, K k → k < w.heap.size
section
variable {WSt : World → (Nat → Prop) → Nat → List Tm → Prop} {w0 w w' : World} {K : Nat → Prop} {ba bb : Nat} {la lb : List Tm}
theorem TwoW.swap (h : TwoW WSt w0 w K ba bb la lb) : TwoW WSt w0 w K bb ba lb la := by
  obtain ⟨Fa, Fb, h1, h2, h3, h4⟩ := h.st
  exact ⟨⟨Fb, Fa, h2, h1, fun k hk => ⟨(h4 k hk).1, (h4 k hk).2, fun ha => (h3 k ha).2.2 hk⟩, fun k hk => ⟨(h3 k hk).1, (h3 k hk).2.1⟩⟩, h.bel, h.klt⟩
theorem TwoW.oka (hc : Wc WSt) (h : TwoW WSt w0 w K ba bb la lb) : TOk la := by
  obtain ⟨Fa, Fb, h1, _⟩ := h.st
  exact hc.ok h1
theorem TwoW.under (hc : Wc WSt) (h : TwoW WSt w0 w K ba bb la lb) (hb : Below w.heap.size w w') {K' : Nat → Prop} (hK : ∀ k, K' k → K k ∨ (w.heap.size ≤ k ∧ k < w'.heap.size)) : TwoW WSt w0 w' K' ba bb la lb := by
  obtain ⟨Fa, Fb, h1, h2, h3, h4⟩ := h.st
  refine ⟨⟨Fa, Fb, hc.keep (G := fun _ => False) h1 (chg0 hb) (fun _ _ h => h), hc.keep (G := fun _ => False) h2 (chg0 hb) (fun _ _ h => h), fun k hk => ⟨(h3 k hk).1, fun hn => ?_, (h3 k hk).2.2⟩, fun k hk => ⟨(h4 k hk).1, fun hn => ?_⟩⟩, h.bel.trans (hb.mono h.bel.size), fun k hk => ?_⟩
  · rcases hK k hn with h5 | h5
    · exact (h3 k hk).2.1 h5
    · have := hc.lt h1 k hk
      omega
  · rcases hK k hn with h5 | h5
    · exact (h4 k hk).2 h5
    · have := hc.lt h2 k hk
      omega
  · rcases hK k hk with h5 | h5
    · exact Nat.lt_of_lt_of_le (h.klt k h5) hb.size
    · exact h5.2
theorem TwoW.drew (hc : Wc WSt) (h : TwoW WSt w0 w K ba bb la lb) : TwoW WSt w0 w.drew K ba bb la lb := by
  obtain ⟨Fa, Fb, h1, h2, h3, h4⟩ := h.st
  exact ⟨⟨Fa, Fb, hc.keep (G := fun _ => False) h1 ⟨rfl, rfl, rfl, Nat.le_refl _, fun _ _ _ => rfl⟩ (fun _ _ h => h), hc.keep (G := fun _ => False) h2 ⟨rfl, rfl, rfl, Nat.le_refl _, fun _ _ _ => rfl⟩ (fun _ _ h => h), h3, h4⟩, ⟨h.bel.os, h.bel.tape, h.bel.output, h.bel.size, h.bel.block⟩, h.klt⟩
theorem TwoW.new (hc : Wc WSt) (w : World) : Calls Try.prog 8 #[] w fun e w' => ∃ ba, e = .returned (.pointer (some ⟨ba, 0, none⟩)) ∧ Below w.heap.size w w' ∧ Calls Try.prog 8 #[] w' fun e w2 => ∃ bb, e = .returned (.pointer (some ⟨bb, 0, none⟩)) ∧ TwoW WSt w w2 (fun _ => False) ba bb [] [] :=
  (hc.new w).mono (by
    rintro e w1 ⟨ba, Fa, h1, h2, h3, h4⟩
    refine ⟨ba, h1, h4, (hc.new w1).mono ?_⟩
    rintro e w2 ⟨bb, Fb, i1, i2, i3, i4⟩
    exact ⟨bb, i1, ⟨⟨Fa, Fb, hc.keep (G := fun _ => False) h2 (chg0 i4) (fun _ _ h => h), i2, fun k hk => ⟨h3 k hk, fun h => h, fun hb => by have := i3 k hb; have := hc.lt h2 k hk; omega⟩, fun k hk => ⟨Nat.le_trans h4.size (i3 k hk), fun h => h⟩⟩, h4.trans (i4.mono h4.size), fun k hk => hk.elim⟩⟩)
theorem TwoW.after (hc : Wc WSt) {la' : List Tm} (h : TwoW WSt w0 w K ba bb la lb) {Fa Fb Fa' : Nat → Prop} (h2 : WSt w Fb bb lb) (h3 : ∀ k, Fa k → w0.heap.size ≤ k ∧ ¬ K k ∧ ¬ Fb k) (h4 : ∀ k, Fb k → w0.heap.size ≤ k ∧ ¬ K k) (hg : Chg Fa w w') (h5 : WSt w' Fa' ba la') (h6 : ∀ k, Fa' k → Fa k ∨ w.heap.size ≤ k)
    {K' : Nat → Prop} (hK : ∀ k, K' k → K k ∨ (w.heap.size ≤ k ∧ k < w'.heap.size ∧ ¬ Fa' k)) : TwoW WSt w0 w' K' ba bb la' lb ∧ Chg (Off w0 K) w w' := by
  refine ⟨⟨⟨Fa', Fb, h5, hc.keep h2 hg (fun k hk ha => (h3 k ha).2.2 hk), fun k hk => ⟨?_, fun hn => ?_, fun hb => ?_⟩, fun k hk => ⟨(h4 k hk).1, fun hn => ?_⟩⟩, h.bel.trans (hg.below h.bel.size (fun k hk => (h3 k hk).1)), fun k hk => ?_⟩, hg.mono (fun k _ hk => ⟨(h3 k hk).1, (h3 k hk).2.1⟩)⟩
  · rcases h6 k hk with h7 | h7
    · exact (h3 k h7).1
    · exact Nat.le_trans h.bel.size h7
  · rcases hK k hn with h7 | h7
    · rcases h6 k hk with h8 | h8
      · exact (h3 k h8).2.1 h7
      · have := h.klt k h7
        omega
    · exact h7.2.2 hk
  · rcases h6 k hk with h7 | h7
    · exact (h3 k h7).2.2 hb
    · have := hc.lt h2 k hb
      omega
  · rcases hK k hn with h7 | h7
    · exact (h4 k hk).2 h7
    · have := hc.lt h2 k hk
      omega
  · rcases hK k hk with h7 | h7
    · exact Nat.lt_of_lt_of_le (h.klt k h7) hg.size
    · exact h7.2.1
theorem TwoW.set (hc : Wc WSt) (h : TwoW WSt w0 w K ba bb la lb) (key at_ : Int) (hk : I64 key) : Calls Try.prog 9 #[.pointer (some ⟨ba, 0, none⟩), .int .i64 key, .int .i64 at_] w fun e w' => e = .returned (.int .i64 (setE la key at_)) ∧ TwoW WSt w0 w' K ba bb (setL la key at_) lb ∧ Chg (Off w0 K) w w' := by
  obtain ⟨Fa, Fb, h1, h2, h3, h4⟩ := h.st
  refine (hc.set key at_ hk h1).mono ?_
  rintro e w' ⟨rfl, hg, F', h5, h6⟩
  exact ⟨rfl, h.after hc h2 h3 h4 hg h5 h6 (fun k hk => .inl hk)⟩
theorem TwoW.next (hc : Wc WSt) (h : TwoW WSt w0 w K ba bb la lb) : Calls Try.prog 16 #[.pointer (some ⟨ba, 0, none⟩)] w fun e w' => e = .returned (.tuple #[.int .i64 (nextV la), .bool (nextB la)]) ∧ TwoW WSt w0 w' K ba bb (la) lb ∧ Chg (Off w0 K) w w' := by
  obtain ⟨Fa, Fb, h1, h2, h3, h4⟩ := h.st
  refine (hc.next h1).mono ?_
  rintro e w' ⟨rfl, hg, F', h5, h6⟩
  exact ⟨rfl, h.after hc h2 h3 h4 hg h5 h6 (fun k hk => .inl hk)⟩
theorem TwoW.due (hc : Wc WSt) (h : TwoW WSt w0 w K ba bb la lb) (now : Int) : Calls Try.prog 14 #[.pointer (some ⟨ba, 0, none⟩), .int .i64 now] w fun e w' => (∃ a c, e = .returned (.slice a (dueK la now).length c) ∧ OwI w' w.heap.size (.slice a (dueK la now).length c) (dueK la now) ∧ TwoW WSt w0 w' (fun k => K k ∨ (Value.slice a (dueK la now).length c).ownBlock = some k) ba bb (dueL la now) lb) ∧ Chg (Off w0 K) w w' := by
  obtain ⟨Fa, Fb, h1, h2, h3, h4⟩ := h.st
  refine (hc.due now h1).mono ?_
  rintro e w' ⟨⟨a, c, rfl, ho⟩, hg, F', h5, h6, h7⟩
  obtain ⟨h8, h9⟩ := h.after hc h2 h3 h4 hg h5 h6 (K' := fun k => K k ∨ (Value.slice a (dueK la now).length c).ownBlock = some k) (fun k hk => hk.imp (fun h => h) (fun h => ⟨(ho.lt k h).1, (ho.lt k h).2, h7 _ k rfl h⟩))
  exact ⟨⟨a, c, rfl, ho, h8⟩, h9⟩
theorem TwoW.list (hc : Wc WSt) (h : TwoW WSt w0 w K ba bb la lb) : Calls Try.prog 19 #[.pointer (some ⟨ba, 0, none⟩)] w fun e w' => (∃ a c, e = .returned (.slice a (la).length c) ∧ OwM w' w.heap.size (.slice a (la).length c) (la) ∧ TwoW WSt w0 w' (fun k => K k ∨ (Value.slice a (la).length c).ownBlock = some k) ba bb (la) lb) ∧ Chg (Off w0 K) w w' := by
  obtain ⟨Fa, Fb, h1, h2, h3, h4⟩ := h.st
  refine (hc.list h1).mono ?_
  rintro e w' ⟨⟨a, c, rfl, ho⟩, hg, F', h5, h6, h7⟩
  obtain ⟨h8, h9⟩ := h.after hc h2 h3 h4 hg h5 h6 (K' := fun k => K k ∨ (Value.slice a (la).length c).ownBlock = some k) (fun k hk => hk.imp (fun h => h) (fun h => ⟨(ho.lt k h).1, (ho.lt k h).2, h7 _ k rfl h⟩))
  exact ⟨⟨a, c, rfl, ho, h8⟩, h9⟩
end
end Go.Proofs.Ytmgipedpggpkoaa
