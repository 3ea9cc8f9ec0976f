/- Acks out of bytes, as the document says it. No conditions. -/
import Derived.Test.YtipdjfgaenoepaaAkr
import Derived.Test.YtipdjfgaenoepaaRef
namespace Go.Proofs.Ytipdjfgaenoepaa
set_option maxRecDepth 100000
open Go.RowKit

/-- How many bytes each part has. -/
def szA (j : Nat) : Int := [1, 4, 2, 2].getD j 0
/-- The place ahead of the part j; the part; its error. -/
def rdP (xs : List Int) (q : Int) : Nat → Int
  | 0 => q
  | j + 1 => (getS xs (rdP xs q j) (szA j)).2.1
def rdV (xs : List Int) (q : Int) (j : Nat) : Int := (getS xs (rdP xs q j) (szA j)).1
def rdE (xs : List Int) (q : Int) (j : Nat) : Int := (getS xs (rdP xs q j) (szA j)).2.2
/-- Acks out of bytes: an error, or all of them and the place behind. -/
def akP (xs : List Int) : Nat → Int → List (Int × Int × Int × Int) → Int ⊕ (List (Int × Int × Int × Int) × Int)
  | 0, p, acc => .inr (acc, p)
  | n + 1, p, acc =>
    if rdE xs p 0 ≠ 0 then .inl (rdE xs p 0) else if rdE xs p 1 ≠ 0 then .inl (rdE xs p 1) else if rdE xs p 2 ≠ 0 then .inl (rdE xs p 2) else if rdE xs p 3 ≠ 0 then .inl (rdE xs p 3)
    else akP xs n (rdP xs p 4) (acc ++ [(rdV xs p 0, rdV xs p 1, rdV xs p 2, rdV xs p 3)])
theorem akP_err {xs : List Int} {n : Nat} {p : Int} {acc : List (Int × Int × Int × Int)} {j : Nat} (hj : j < 4) (h0 : ∀ i, i < j → rdE xs p i = 0) (h : rdE xs p j ≠ 0) : akP xs (n + 1) p acc = .inl (rdE xs p j) := by
  have : j = 0 ∨ j = 1 ∨ j = 2 ∨ j = 3 := by omega
  rcases this with rfl | rfl | rfl | rfl
  · rw [akP, if_pos h]
  · rw [akP, if_neg (not_not_intro (h0 0 (by decide))), if_pos h]
  · rw [akP, if_neg (not_not_intro (h0 0 (by decide))), if_neg (not_not_intro (h0 1 (by decide))), if_pos h]
  · rw [akP, if_neg (not_not_intro (h0 0 (by decide))), if_neg (not_not_intro (h0 1 (by decide))), if_neg (not_not_intro (h0 2 (by decide))), if_pos h]
theorem akP_go {xs : List Int} {n : Nat} {p : Int} {acc : List (Int × Int × Int × Int)} (h0 : ∀ i, i < 4 → rdE xs p i = 0) : akP xs (n + 1) p acc = akP xs n (rdP xs p 4) (acc ++ [(rdV xs p 0, rdV xs p 1, rdV xs p 2, rdV xs p 3)]) := by
  rw [akP, if_neg (not_not_intro (h0 0 (by decide))), if_neg (not_not_intro (h0 1 (by decide))), if_neg (not_not_intro (h0 2 (by decide))), if_neg (not_not_intro (h0 3 (by decide)))]
/-- A row of acks out of bytes. -/
def acPF (xs : List Int) (at' : Int) : Int ⊕ (List (Int × Int × Int × Int) × Int) :=
  if (getS xs at' 1).2.2 ≠ 0 then .inl (getS xs at' 1).2.2
  else match akP xs (getS xs at' 1).1.toNat (getS xs at' 1).2.1 [] with
    | .inl e => .inl e
    | .inr (ys, to) => if AksOk ys then .inr (ys, to) else .inl 4
/-- What Parse returns. -/
def PRetA (w : World) (r : Int ⊕ (List (Int × Int × Int × Int) × Int)) (u : Value) (t k : Int) (w' : World) : Prop :=
  match r with
  | .inl e => u = .slice none 0 0 ∧ t = 0 ∧ k = e
  | .inr (ys, to) => t = to ∧ k = 0 ∧ w'.ownsRow w.heap.size 30 4 u ys.length (aflat ys)
theorem getS_byte {xs : List Int} (hx : ∀ x ∈ xs, 0 ≤ x ∧ x < 256) (p : Int) : 0 ≤ (getS xs p 1).1 ∧ (getS xs p 1).1 ≤ 255 := by
  unfold getS
  split
  · simp
  · split
    · simp
    · have h1 := seg_bd hx p.toNat 1
      have h2 : segN xs p.toNat 1 < 256 * 1 := h1.2
      show 0 ≤ segN xs p.toNat 1 ∧ segN xs p.toNat 1 ≤ 255
      omega
#print axioms akP_go
end Go.Proofs.Ytipdjfgaenoepaa
