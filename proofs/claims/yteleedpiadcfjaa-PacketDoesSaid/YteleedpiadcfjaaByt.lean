/- Bytes behind a row of the call's own. No conditions. -/
import Derived.Test.YteleedpiadcfjaaRint
import Derived.Test.YteleedpiadcfjaaPut
import Derived.Laws.AppendOwnNone
namespace Go.Proofs.Yteleedpiadcfjaa
set_option maxRecDepth 100000
open Go.RowKit

theorem own_below {w w' : World} {base size n : Nat} {e : TypeId} {v : Value} {xs : List Value} (h : w.ownsRow base e size v n xs) (hb : Below w.heap.size w w') : w'.ownsRow base e size v n xs := by
  obtain ⟨h1, h2 | ⟨g, cap, cur, h2, h3, h4, h5⟩⟩ := h
  · exact ⟨h1, .inl h2⟩
  · refine ⟨h1, .inr ⟨g, cap, cur, h2, h3, ?_, h5⟩⟩
    rw [hb.block g (Array.getElem?_eq_some_iff.1 h4).1]; exact h4

def Byt (xs : List Int) : Prop := ∀ x ∈ xs, 0 ≤ x ∧ x < 256
theorem byt_app {xs ys : List Int} (h : Byt xs) (h' : Byt ys) : Byt (xs ++ ys) := fun x hx => by
  rcases List.mem_append.1 hx with hx | hx
  · exact h x hx
  · exact h' x hx

/-- append of bytes to a row of the call's own. -/
theorem app_any {ops : Array Oper} {rest : List Oper} {o : Oper} {a : Act} {Q : Exit → Act → World → Prop} {w : World} (hgd : o.guard = none) (s x : Operand)
    (ho : o.op = .call { callee := .builtin .append, args := #[s, x], argTypes := #[24, 24] }) (base : Nat) (xs ys : List Int)
    (hown : w.ownsRow base 5 1 (a.eval s) xs.length (xs.map (Value.int .u8))) (hx : Bs w (a.eval x) ys) (h63 : xs.length + ys.length ≤ 1000) (hbase : base ≤ w.heap.size)
    (h : ∀ v' w', w'.ownsRow base 5 1 v' (xs ++ ys).length ((xs ++ ys).map (Value.int .u8)) → Below base w w' → w.heap.size ≤ w'.heap.size → wpList Try.prog ops Q rest (a.put o.dst v') w') : wpList Try.prog ops Q (o :: rest) a w := by
  obtain ⟨i0, hi, hz0, hz1, hz2⟩ := info_parts Try.info5
  obtain ⟨_, _, ⟨ad, cap, hv, hz, rfl⟩ | ⟨b, off, cap, hv, hcap, hcs⟩⟩ := hx
  · cases ad with
    | none =>
      obtain rfl : cap = 0 := hz rfl
      refine wpList_append_own_none hgd s x 24 ho base 5 i0 1 Try.underlying24 hi _ _ _ rfl hown hv ?_
      rw [List.append_nil] at h
      exact h _ _ hown (Below.refl _ _) (Nat.le_refl _)
    | some ad =>
      refine wpList_append_own w hgd s x 24 ho base 5 i0 (.int .u8 0) 1 1 Try.underlying24 hi hz0 hz1 hz2 rfl (by decide) _ _ _ rfl hown ad 0 cap [] hv (by simp) (by simp) (by simp) (by unfold maxLen; omega) (by omega) hbase fun v' w1 hown1 hgrow _ => ?_
      refine h v' w1 (by simpa using hown1) ((Below.refl _ w).grown hgrow hbase (fun k hk => (hown.lt k hk).1)) hgrow.size
  · refine wpList_append_own w hgd s x 24 ho base 5 i0 (.int .u8 0) 1 1 Try.underlying24 hi hz0 hz1 hz2 rfl (by decide) _ _ _ rfl hown ⟨b, off, none⟩ ys.length cap (ys.map (Value.int .u8)) hv (by simp) (news_of hcs) (ones ys) (by unfold maxLen; omega) (by omega) hbase fun v' w1 hown1 hgrow _ => ?_
    refine h v' w1 ?_ ((Below.refl _ w).grown hgrow hbase (fun k hk => (hown.lt k hk).1)) hgrow.size
    rw [List.length_append, List.map_append]; exact hown1

theorem own_lit1 (w : World) (base : Nat) (x : Int) (hb : base ≤ w.heap.size) (g : Nat) (hg : g = w.heap.size) : (w.alloc (.cells #[.int .u8 x] 5)).ownsRow base 5 1 (.slice (some ⟨g, 0, none⟩) 1 1) [x].length ([x].map (Value.int .u8)) := by
  subst hg
  exact World.ownsRow_lit w #[.int .u8 x] 1 hb (by unfold maxLen; omega) rfl
theorem bs_lit1 (w : World) (x : Int) (hx : 0 ≤ x ∧ x < 256) (g : Nat) (hg : g = w.heap.size) : Bs (w.alloc (.cells #[.int .u8 x] 5)) (.slice (some ⟨g, 0, none⟩) 1 1) [x] :=
  Bs_of_own (own_lit1 w 0 x (Nat.zero_le _) g hg) (by simpa using hx) (by simp)
theorem own_lit2 (w : World) (base : Nat) (x y : Int) (hb : base ≤ w.heap.size) (g : Nat) (hg : g = w.heap.size) : (w.alloc (.cells #[.int .u8 x, .int .u8 y] 5)).ownsRow base 5 1 (.slice (some ⟨g, 0, none⟩) 2 2) [x, y].length ([x, y].map (Value.int .u8)) := by
  subst hg
  exact World.ownsRow_lit w #[.int .u8 x, .int .u8 y] 2 hb (by unfold maxLen; omega) rfl
theorem bs_lit2 (w : World) (x y : Int) (hx : 0 ≤ x ∧ x < 256) (hy : 0 ≤ y ∧ y < 256) (g : Nat) (hg : g = w.heap.size) : Bs (w.alloc (.cells #[.int .u8 x, .int .u8 y] 5)) (.slice (some ⟨g, 0, none⟩) 2 2) [x, y] :=
  Bs_of_own (own_lit2 w 0 x y (Nat.zero_le _) g hg) (by intro z hz; simp at hz; rcases hz with rfl | rfl <;> assumption) (by simp)

/-- The eight bytes of a number. -/
def i8 (v : Int) : List Int := lo (IntKind.u64.wrap v) 8
theorem Bs_form {w : World} {v : Value} {xs : List Int} (h : Bs w v xs) : ∃ a l c, v = .slice a l c := by
  obtain ⟨_, _, ⟨a, c, h, _, _⟩ | ⟨b, o, c, h, _⟩⟩ := h
  · exact ⟨_, _, _, h⟩
  · exact ⟨_, _, _, h⟩
#print axioms app_any
end Go.Proofs.Yteleedpiadcfjaa
