/- Rows of heights: the best one of the first k. No conditions. -/
import Derived.Test.YtkgckmlphfafjaaPtr
import Derived.Test.YtkgckmlphfafjaaLes
namespace Go.Proofs.Ytkgckmlphfafjaa
open Go.RowKit Go.Sort

def H6 := Bool × Int × Int × Int × Int × Int
def z6 : H6 := (false, 0, 0, 0, 0, 0)
def ag (h : H6) : Value := .agg #[.bool h.1, .int .i64 h.2.1, .int .i64 h.2.2.1, .int .i64 h.2.2.2.1, .int .i64 h.2.2.2.2.1, .int .i64 h.2.2.2.2.2]
def tl (h : H6) : Bool := told h.1 h.2.1 h.2.2.1 h.2.2.2.1 h.2.2.2.2.1 h.2.2.2.2.2
def lss (a b : H6) : Bool := lessB a.1 a.2.1 a.2.2.1 a.2.2.2.1 a.2.2.2.2.1 a.2.2.2.2.2 b.1 b.2.1 b.2.2.1 b.2.2.2.1 b.2.2.2.2.1 b.2.2.2.2.2
/-- The six cells of a height, wherever they lie. -/
def C6 (w : World) (b o : Nat) (h : H6) : Prop :=
  w.cell? ⟨b, o, none⟩ = some (.bool h.1) ∧ w.cell? ⟨b, o + 1, none⟩ = some (.int .i64 h.2.1) ∧ w.cell? ⟨b, o + 2, none⟩ = some (.int .i64 h.2.2.1) ∧
  w.cell? ⟨b, o + 3, none⟩ = some (.int .i64 h.2.2.2.1) ∧ w.cell? ⟨b, o + 4, none⟩ = some (.int .i64 h.2.2.2.2.1) ∧ w.cell? ⟨b, o + 5, none⟩ = some (.int .i64 h.2.2.2.2.2)
theorem C6.below {w w' : World} {b o : Nat} {h : H6} {B : Nat} (h6 : C6 w b o h) (hb : Below B w w') (hB : b < B) : C6 w' b o h := by
  obtain ⟨h0, h1, h2, h3, h4, h5⟩ := h6
  have k : ∀ {j : Nat} {v : Value}, w.cell? ⟨b, j, none⟩ = some v → w'.cell? ⟨b, j, none⟩ = some v := fun {j v} h => by rw [hb.cell (p := ⟨b, j, none⟩) hB]; exact h
  exact ⟨k h0, k h1, k h2, k h3, k h4, k h5⟩
/-- A slice's address, under which these heights lie. -/
def Hs (w : World) (a : Option Addr) (hs : List H6) : Prop :=
  ∀ k, k < hs.length → ∃ b off, a = some ⟨b, off, none⟩ ∧ b < w.heap.size ∧ C6 w b (off + k * 6) (hs.getD k z6) ∧ Pts w ⟨b, off + k * 6, none⟩
theorem Hs.below {w w' : World} {a : Option Addr} {hs : List H6} (h : Hs w a hs) (hb : Below w.heap.size w w') : Hs w' a hs := by
  intro k hk
  obtain ⟨b, off, e, hB, h1, h2⟩ := h k hk
  exact ⟨b, off, e, Nat.lt_of_lt_of_le hB hb.size, h1.below hb hB, h2.below hb hB⟩

def wins (bt : H6 → H6 → Bool) (x : H6) (hs : List H6) : Option Nat → Bool
  | none => true
  | some q => bt x (hs.getD q z6)
def bst (bt : H6 → H6 → Bool) (hs : List H6) : Nat → Option Nat
  | 0 => none
  | k + 1 => if (tl (hs.getD k z6) && wins bt (hs.getD k z6) hs (bst bt hs k)) = true then some k else bst bt hs k
theorem bst_lt {bt : H6 → H6 → Bool} {hs : List H6} : ∀ {k q : Nat}, bst bt hs k = some q → q < k := by
  intro k
  induction k with
  | zero => intro q h; cases h
  | succ k ih =>
    intro q h
    rw [bst] at h
    by_cases hc : (tl (hs.getD k z6) && wins bt (hs.getD k z6) hs (bst bt hs k)) = true
    · rw [if_pos hc] at h; cases h; omega
    · rw [if_neg hc] at h; have := ih h; omega
theorem bst_no {bt : H6 → H6 → Bool} {hs : List H6} {k : Nat} (h : tl (hs.getD k z6) = false) : bst bt hs (k + 1) = bst bt hs k := by
  rw [bst, h]; rfl
theorem bst_none {bt : H6 → H6 → Bool} {hs : List H6} {k : Nat} (h : tl (hs.getD k z6) = true) (h2 : bst bt hs k = none) : bst bt hs (k + 1) = some k := by
  rw [bst, h, h2]; rfl
theorem bst_some {bt : H6 → H6 → Bool} {hs : List H6} {k q : Nat} (h : tl (hs.getD k z6) = true) (h2 : bst bt hs k = some q) : bst bt hs (k + 1) = if bt (hs.getD k z6) (hs.getD q z6) then some k else some q := by
  rw [bst, h, h2]; simp [wins]
/-- What is told of the first k: the height, and whether there is one. -/
def bv (bt : H6 → H6 → Bool) (hs : List H6) (k : Nat) : H6 := match bst bt hs k with | none => z6 | some q => hs.getD q z6
def bany (bt : H6 → H6 → Bool) (hs : List H6) (k : Nat) : Bool := (bst bt hs k).isSome
def pv (a : Option Addr) (x : Option Nat) : Option Addr := match a, x with
  | some ad, some q => some ⟨ad.block, ad.off + q * 6, none⟩
  | _, _ => none
theorem pv_pts {w : World} {a : Option Addr} {hs : List H6} (h : Hs w a hs) {bt : H6 → H6 → Bool} {k : Nat} (hk : k ≤ hs.length) : ∀ p, pv a (bst bt hs k) = some p → Pts w p := by
  intro p hp
  cases hb : bst bt hs k with
  | none => rw [hb] at hp; unfold pv at hp; split at hp <;> simp_all
  | some q =>
    have := bst_lt hb
    obtain ⟨b, off, rfl, _, _, h2⟩ := h q (by omega)
    rw [hb] at hp
    unfold pv at hp
    cases hp
    exact h2

set_option maxHeartbeats 1000000 in
theorem more_any (x y : H6) (w : World) : Calls Try.prog 40 #[ag x, ag y] w fun e w' => e = .returned (.bool (lss y x)) ∧ Below w.heap.size w w' := by
  obtain ⟨n, t, o, r, d, i⟩ := x
  obtain ⟨n', t', o', r', d', i'⟩ := y
  have L := Lib.hid (less_any n' t' o' r' d' i' n t o r d i)
  show Calls Try.prog 40 #[.agg #[.bool n, .int .i64 t, .int .i64 o, .int .i64 r, .int .i64 d, .int .i64 i], .agg #[.bool n', .int .i64 t', .int .i64 o', .int .i64 r', .int .i64 d', .int .i64 i']] w fun e w' => e = .returned (.bool (lessB n' t' o' r' d' i' n t o r d i)) ∧ Below w.heap.size w w'
  generalize lessB n' t' o' r' d' i' n t o r d i = z at *
  go_enter Try.func40, Try.ntmps40
  go_wp2_with fail
  refine (L.out _).mono ?_
  rintro e w' ⟨rfl, hb⟩
  have HB := Lib.hid ((((Below.refl _ w).alloc (Nat.le_refl _) _).alloc (by simp) _).trans (hb.mono (by simp; omega)))
  clear hb
  go_wp2_with fail
  go_ret
  exact ⟨rfl, HB.out⟩
theorem least_any (x y : H6) (w : World) : Calls Try.prog 14 #[ag x, ag y] w fun e w' => e = .returned (.bool (lss x y)) ∧ Below w.heap.size w w' := less_any _ _ _ _ _ _ _ _ _ _ _ _ w
theorem told_any (x : H6) (w : World) : Calls Try.prog 33 #[ag x] w fun e w' => e = .returned (.bool (tl x)) ∧ Below w.heap.size w w' := isTold_any _ _ _ _ _ _ w
#print axioms more_any
end Go.Proofs.Ytkgckmlphfafjaa
