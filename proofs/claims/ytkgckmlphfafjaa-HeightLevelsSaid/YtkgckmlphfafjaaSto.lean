/- A typed walk over a region that makes a variable of a height and stores into it. No conditions. -/
import Derived.Test.YtkgckmlphfafjaaTyp3
import Derived.Test.YtkgckmlphfafjaaPar
namespace Go.Proofs.Ytkgckmlphfafjaa
open Go.RowKit Go.Sort

/-- A variable of a height lies there, and may be written. -/
def StoreOk (w : World) (b : Nat) : Prop := ∃ n t o r d i, Own6 w b n t o r d i
theorem StoreOk.below {w w' : World} {b : Nat} (h : StoreOk w b) (hb : Below w.heap.size w w') : StoreOk w' b := by
  obtain ⟨n, t, o, r, d, i, h⟩ := h
  exact ⟨n, t, o, r, d, i, h.below hb⟩
/-- What each operation leaves: number s stores into a variable, the others leave what there was. -/
def XV (s k : Nat) (w w' : World) : Prop := if k = s then (∀ b, StoreOk w b → StoreOk w' b) else Below w.heap.size w w'
theorem XV_refl (s k : Nat) (w : World) : XV s k w w := by
  unfold XV
  by_cases h : k = s
  · rw [if_pos h]; exact fun _ h => h
  · rw [if_neg h]; exact Below.refl _ _
theorem XV_of {s k : Nat} {w w' : World} (h : k ≠ s) (hb : Below w.heap.size w w') : XV s k w w' := by unfold XV; rw [if_neg h]; exact hb
theorem XV_at {s k : Nat} {w w' : World} (h : k = s) (hb : ∀ b, StoreOk w b → StoreOk w' b) : XV s k w w' := by unfold XV; rw [if_pos h]; exact hb
theorem XV_below {s k : Nat} {w w' : World} (h : k ≠ s) (hx : XV s k w w') : Below w.heap.size w w' := by unfold XV at hx; rwa [if_neg h] at hx
theorem XV_ok {s k : Nat} {w w' : World} (hx : XV s k w w') {b : Nat} (hb : StoreOk w b) : StoreOk w' b := by
  unfold XV at hx
  by_cases h : k = s
  · rw [if_pos h] at hx; exact hx b hb
  · rw [if_neg h] at hx; exact hb.below hx

/-- A pointer to a new variable of a height. -/
def NewV (W : World) : Ty := fun v w => ∃ b, v = .pointer (some ⟨b, 0, none⟩) ∧ W.heap.size ≤ b ∧ StoreOk w b
theorem NewV.keeps (W : World) (s k : Nat) : T3.Keeps (XV s) k (NewV W) := fun _ _ _ _ _ ⟨b, h1, h2, h3⟩ hx => ⟨b, h1, h2, XV_ok hx h3⟩
/-- .. that holds just this. -/
def HasV (W : World) (n : Bool) (t o r d i : Int) : Ty := fun v w => ∃ b, v = .pointer (some ⟨b, 0, none⟩) ∧ W.heap.size ≤ b ∧ Own6 w b n t o r d i
theorem HasV.keeps (W : World) (s : Nat) (n : Bool) (t o r d i : Int) : T3.Keeps (XV s) s (HasV W n t o r d i) := fun _ hj _ _ _ ⟨b, h1, h2, h3⟩ hx => ⟨b, h1, h2, h3.below (XV_below hj hx)⟩
theorem tcx_below {P : Program} {f : FuncId} {args : Array Value} {W w : World} {v : Value} {s k : Nat} (hC : Below W.heap.size W w) (hk : k ≠ s) (h : Calls P f args w fun e w' => e = .returned v ∧ Below w.heap.size w w') :
    Calls P f args w fun e w' => ∃ u, e = .returned u ∧ Below W.heap.size W w' ∧ XV s k w w' ∧ Is v u w' :=
  h.mono fun _ _ ⟨he, hb⟩ => ⟨_, he, hC.trans (hb.mono hC.size), XV_of hk hb, rfl⟩
theorem only_set6 (w : World) (g : Nat) (n : Bool) (t o r d i : Int) : Only g w ((((((w.setCell ⟨g, 0, none⟩ (.bool n)).setCell ⟨g, 1, none⟩ (.int .i64 t)).setCell ⟨g, 2, none⟩ (.int .i64 o)).setCell ⟨g, 3, none⟩ (.int .i64 r)).setCell ⟨g, 4, none⟩ (.int .i64 d)).setCell ⟨g, 5, none⟩ (.int .i64 i)) :=
  ((((((Only.refl g w).set 0 _).set 1 _).set 2 _).set 3 _).set 4 _).set 5 _
theorem ok_set6 {w : World} {g b : Nat} (hg : StoreOk w g) (hb : StoreOk w b) (n : Bool) (t o r d i : Int) : StoreOk ((((((w.setCell ⟨g, 0, none⟩ (.bool n)).setCell ⟨g, 1, none⟩ (.int .i64 t)).setCell ⟨g, 2, none⟩ (.int .i64 o)).setCell ⟨g, 3, none⟩ (.int .i64 r)).setCell ⟨g, 4, none⟩ (.int .i64 d)).setCell ⟨g, 5, none⟩ (.int .i64 i)) b := by
  by_cases h : b = g
  · subst h
    obtain ⟨n', t', o', r', d', i', h⟩ := hg
    exact ⟨n, t, o, r, d, i, h.set n t o r d i⟩
  · obtain ⟨n', t', o', r', d', i', hb⟩ := hb
    exact ⟨n', t', o', r', d', i', hb.only (only_set6 w g n t o r d i) h⟩
#print axioms ok_set6
end Go.Proofs.Ytkgckmlphfafjaa
