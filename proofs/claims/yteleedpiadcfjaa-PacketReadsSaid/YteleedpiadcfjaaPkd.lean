/- A packet out of bytes, as the document says it. No conditions. -/
import Derived.Test.YteleedpiadcfjaaPkb
import Derived.Test.YteleedpiadcfjaaRef
namespace Go.Proofs.Yteleedpiadcfjaa
set_option maxRecDepth 100000
open Go.RowKit

/-- How many bytes each number has. -/
def szP (j : Nat) : Int := [1, 1, 1, 2, 2].getD j 0
/-- The place ahead of the number j; the number; its error. -/
def pP (xs : List Int) (q : Int) : Nat → Int
  | 0 => q
  | j + 1 => (getS xs (pP xs q j) (szP j)).2.1
def pV (xs : List Int) (q : Int) (j : Nat) : Int := (getS xs (pP xs q j) (szP j)).1
def pE (xs : List Int) (q : Int) (j : Nat) : Int := (getS xs (pP xs q j) (szP j)).2.2
/-- The string of some bytes. -/
def sub (xs : List Int) (q k : Int) : ByteArray := strOfNums ((xs.drop q.toNat).take k.toNat)
/-- What is made of the numbers. -/
def endP (xs : List Int) (s d t n k q : Int) : Int ⊕ (Pk × Int) :=
  if k > 256 then .inl 4
  else if (xs.length : Int) - q < k then .inl 6
  else if PkOk s d t n (sub xs q k) then .inr ((s, d, t, n, sub xs q k), q + k) else .inl 4
/-- A packet out of bytes. -/
def pkPF (xs : List Int) (q : Int) : Int ⊕ (Pk × Int) :=
  if pE xs q 0 ≠ 0 then .inl (pE xs q 0) else if pE xs q 1 ≠ 0 then .inl (pE xs q 1) else if pE xs q 2 ≠ 0 then .inl (pE xs q 2) else if pE xs q 3 ≠ 0 then .inl (pE xs q 3) else if pE xs q 4 ≠ 0 then .inl (pE xs q 4)
  else endP xs (pV xs q 0) (pV xs q 1) (pV xs q 2) (pV xs q 3) (pV xs q 4) (pP xs q 5)
theorem pkPF_err {xs : List Int} {q : Int} {j : Nat} (hj : j < 5) (h0 : ∀ i, i < j → pE xs q i = 0) (h : pE xs q j ≠ 0) : pkPF xs q = .inl (pE xs q j) := by
  unfold pkPF
  have : j = 0 ∨ j = 1 ∨ j = 2 ∨ j = 3 ∨ j = 4 := by omega
  rcases this with rfl | rfl | rfl | rfl | rfl
  · rw [if_pos h]
  · rw [if_neg (not_not_intro (h0 0 (by decide))), if_pos h]
  · rw [if_neg (not_not_intro (h0 0 (by decide))), if_neg (not_not_intro (h0 1 (by decide))), if_pos h]
  · rw [if_neg (not_not_intro (h0 0 (by decide))), if_neg (not_not_intro (h0 1 (by decide))), if_neg (not_not_intro (h0 2 (by decide))), if_pos h]
  · rw [if_neg (not_not_intro (h0 0 (by decide))), if_neg (not_not_intro (h0 1 (by decide))), if_neg (not_not_intro (h0 2 (by decide))), if_neg (not_not_intro (h0 3 (by decide))), if_pos h]
theorem pkPF_go {xs : List Int} {q : Int} (h0 : ∀ i, i < 5 → pE xs q i = 0) : pkPF xs q = endP xs (pV xs q 0) (pV xs q 1) (pV xs q 2) (pV xs q 3) (pV xs q 4) (pP xs q 5) := by
  unfold pkPF
  rw [if_neg (not_not_intro (h0 0 (by decide))), if_neg (not_not_intro (h0 1 (by decide))), if_neg (not_not_intro (h0 2 (by decide))), if_neg (not_not_intro (h0 3 (by decide))), if_neg (not_not_intro (h0 4 (by decide)))]
theorem getS_in {xs : List Int} {k n : Int} (h : (getS xs k n).2.2 = 0) : 0 ≤ k ∧ (getS xs k n).2.1 = k + n ∧ k + n ≤ xs.length ∧ 1 ≤ n := by
  unfold getS at h ⊢
  split at h
  · simp at h
  · rename_i h1
    split at h
    · simp at h
    · rename_i h2
      rw [if_neg h1, if_neg h2]
      exact ⟨by omega, rfl, by omega, by omega⟩
theorem pP_in {xs : List Int} {q : Int} (h0 : ∀ i, i < 5 → pE xs q i = 0) : 0 ≤ q ∧ pP xs q 5 = q + 7 ∧ q + 7 ≤ xs.length := by
  have a0 := getS_in (xs := xs) (k := pP xs q 0) (n := szP 0) (h0 0 (by decide))
  have a1 := getS_in (xs := xs) (k := pP xs q 1) (n := szP 1) (h0 1 (by decide))
  have a2 := getS_in (xs := xs) (k := pP xs q 2) (n := szP 2) (h0 2 (by decide))
  have a3 := getS_in (xs := xs) (k := pP xs q 3) (n := szP 3) (h0 3 (by decide))
  have a4 := getS_in (xs := xs) (k := pP xs q 4) (n := szP 4) (h0 4 (by decide))
  have b0 : pP xs q 1 = pP xs q 0 + 1 := a0.2.1
  have b1 : pP xs q 2 = pP xs q 1 + 1 := a1.2.1
  have b2 : pP xs q 3 = pP xs q 2 + 1 := a2.2.1
  have b3 : pP xs q 4 = pP xs q 3 + 2 := a3.2.1
  have b4 : pP xs q 5 = pP xs q 4 + 2 := a4.2.1
  have c0 : pP xs q 0 = q := rfl
  have d0 := a0.1
  have d4 : pP xs q 4 + 2 ≤ xs.length := a4.2.2.1
  omega
theorem pV_bd {xs : List Int} (hx : ∀ x ∈ xs, 0 ≤ x ∧ x < 256) (q : Int) {j : Nat} (hj : j < 5) : 0 ≤ pV xs q j ∧ pV xs q j ≤ 65535 := by
  unfold pV getS
  split
  · simp
  · split
    · simp
    · have h1 := seg_bd hx (pP xs q j).toNat (szP j).toNat
      have h2 : pow256 (szP j).toNat ≤ 65536 := by
        have : j = 0 ∨ j = 1 ∨ j = 2 ∨ j = 3 ∨ j = 4 := by omega
        rcases this with rfl | rfl | rfl | rfl | rfl <;> decide
      show 0 ≤ segN xs _ _ ∧ segN xs _ _ ≤ 65535
      omega
theorem pvals_step (xs : List Int) (q : Int) (j : Nat) : (List.range (j + 1)).map (pV xs q) = (List.range j).map (pV xs q) ++ [pV xs q j] := by
  rw [List.range_succ, List.map_append]; rfl
/-- What Parse returns. -/
def pkR (r : Int ⊕ (Pk × Int)) : Pk := match r with
  | .inl _ => (0, 0, 0, 0, ⟨#[]⟩)
  | .inr (p, _) => p
def pkT (r : Int ⊕ (Pk × Int)) : Int := match r with
  | .inl _ => 0
  | .inr (_, to) => to
def pkE (r : Int ⊕ (Pk × Int)) : Int := match r with
  | .inl e => e
  | .inr _ => 0
/-- A part of a row of bytes. -/
theorem bs_window {w : World} {b o cap : Nat} {xs : List Int} (h : Bs w (.slice (some ⟨b, o, none⟩) xs.length cap) xs) (i k : Nat) (hik : i + k ≤ xs.length) (c' : Nat) (hc' : k ≤ c') : Bs w (.slice (some ⟨b, o + i, none⟩) k c') ((xs.drop i).take k) := by
  have hl : ((xs.drop i).take k).length = k := by rw [List.length_take, List.length_drop]; omega
  obtain ⟨h1, h2, ⟨a, cap', hv, -, rfl⟩ | ⟨b', o', cap', hv, hc, hcell⟩⟩ := h
  · have hk : k = 0 := by simp at hik; omega
    subst hk
    exact ⟨by simp, by simp, .inl ⟨_, _, rfl, (fun h => by cases h), by simp⟩⟩
  · simp only [Value.slice.injEq, Option.some.injEq, Addr.mk.injEq, and_true, true_and] at hv
    obtain ⟨⟨rfl, rfl⟩, rfl⟩ := hv
    refine ⟨fun x hx => h1 x (List.drop_subset _ _ (List.take_subset _ _ hx)), by omega, .inr ⟨b, o + i, c', by rw [hl], by rw [hl]; exact hc', fun j hj => ?_⟩⟩
    rw [hl] at hj
    rw [Nat.add_assoc, hcell (i + j) (by omega)]
    simp [List.getD, hj]
/-- A part of a row of bytes, as a slice of it lies. -/
theorem bs_win {w : World} {b o cap : Nat} {xs : List Int} (h : Bs w (.slice (some ⟨b, o, none⟩) xs.length cap) xs) (i k : Nat) (hik : i + k ≤ xs.length) (hc : xs.length ≤ cap) : Bs w (.slice (if cap = i then some ⟨b, o, none⟩ else some ⟨b, o + i, none⟩) k (cap - i)) ((xs.drop i).take k) := by
  split
  · have hk : k = 0 := by omega
    subst hk
    exact ⟨by simp, by simp, .inl ⟨_, _, rfl, (fun h => by cases h), by simp⟩⟩
  · exact bs_window h i k hik (cap - i) (by omega)
#print axioms pP_in
#print axioms bs_window
end Go.Proofs.Yteleedpiadcfjaa
