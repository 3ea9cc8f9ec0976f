/- Plain mathematics: bytes of numbers, put and got; lists of bytes as strings. No conditions. -/
import Derived.Test.YteofjlcaokajeaaAwake
namespace Go.Proofs.Yteofjlcaokajeaa
open Go.RowKit

theorem str_list (xs : List Int) : (strOfNums xs).toList = xs.map fun n => UInt8.ofNat n.toNat := by
  rw [ByteArray.toList_eq]; rfl
theorem be_go (xs : List Int) (a : Int) : xs.foldl (fun a x => 256 * a + x) a = a * pow256 xs.length + be xs := by
  induction xs generalizing a with
  | nil => simp [be, pow256]
  | cons x xs ih =>
    have h1 := ih (256 * a + x)
    have h2 := ih (256 * 0 + x)
    simp only [be, List.foldl_cons, List.length_cons, pow256] at *
    rw [h1, h2, Int.add_mul, Int.mul_assoc, Int.mul_left_comm]
    simp
    omega
theorem be_cons (x : Int) (xs : List Int) : be (x :: xs) = x * pow256 xs.length + be xs := by
  have := be_go xs (256 * 0 + x)
  simp only [be, List.foldl_cons] at *
  rw [this]; simp
theorem be_append (xs ys : List Int) : be (xs ++ ys) = be xs * pow256 ys.length + be ys := by
  unfold be; rw [List.foldl_append]; exact be_go ys _
theorem lo_succ (v : Int) (n : Nat) : lo v (n + 1) = lo (v / 256) n ++ [v % 256] := by
  unfold lo
  rw [List.range_succ, List.map_append]
  congr 1
  · refine List.map_congr_left fun i hi => ?_
    have hi' := List.mem_range.1 hi
    rw [show n + 1 - 1 - i = (n - 1 - i) + 1 from by omega, Int.pow_succ, Int.mul_comm, ← Int.ediv_ediv_of_nonneg (by omega)]
  · simp
theorem lo_len (v : Int) (n : Nat) : (lo v n).length = n := by simp [lo]
theorem lo_bytes (v : Int) (n : Nat) : ∀ x ∈ lo v n, 0 ≤ x ∧ x < 256 := by
  intro x hx
  obtain ⟨i, _, rfl⟩ := List.mem_map.1 hx
  omega
theorem be_lo (v : Int) (n : Nat) : be (lo v n) = v % pow256 n := by
  induction n generalizing v with
  | zero => simp [lo, be, pow256]
  | succ n ih =>
    rw [lo_succ, be_snoc, ih]
    have h1 := Int.emod_add_mul_ediv v 256
    have hp := pow256_pos n
    have h2 := Int.emod_add_mul_ediv (v / 256) (pow256 n)
    have h3 : v % (256 * pow256 n) = 256 * (v / 256 % pow256 n) + v % 256 := by
      have e : v = (256 * (v / 256 % pow256 n) + v % 256) + (256 * pow256 n) * (v / 256 / pow256 n) := by
        rw [Int.mul_assoc]; omega
      conv => lhs; rw [e]
      rw [Int.add_mul_emod_self_left]
      have b1 := Int.emod_nonneg (v / 256) (b := pow256 n) (by omega)
      have b2 := Int.emod_lt_of_pos (v / 256) (b := pow256 n) (by omega)
      exact Int.emod_eq_of_lt (by omega) (by omega)
    simp only [pow256]
    rw [h3]
theorem lo_be (xs : List Int) (h : ∀ x ∈ xs, 0 ≤ x ∧ x < 256) : lo (be xs) xs.length = xs := by
  have key : ∀ n (l : List Int), l.length = n → (∀ x ∈ l, 0 ≤ x ∧ x < 256) → lo (be l) l.length = l := by
    intro n
    induction n with
    | zero => intro l hl _; obtain rfl := List.length_eq_zero_iff.1 hl; rfl
    | succ n ih =>
      intro l hl h
      have hne : l ≠ [] := by intro e; subst e; simp at hl
      have e := (List.dropLast_concat_getLast hne).symm
      have hd : l.dropLast.length = n := by simp [hl]
      have hp := ih l.dropLast hd (fun x hx => h x (List.dropLast_subset _ hx))
      have hq := h (l.getLast hne) (List.getLast_mem hne)
      rw [hl, lo_succ]
      rw [hd] at hp
      have e1 : be l = 256 * be l.dropLast + l.getLast hne := by conv => lhs; rw [e]
                                                                 exact be_snoc _ _
      rw [e1, show (256 * be l.dropLast + l.getLast hne) / 256 = be l.dropLast from by omega, show (256 * be l.dropLast + l.getLast hne) % 256 = l.getLast hne from by omega, hp]
      exact e.symm
  exact key _ xs rfl h
theorem ofNat_lt {x y : Int} (h1 : 0 ≤ x ∧ x < 256) (h2 : 0 ≤ y ∧ y < 256) : (UInt8.ofNat x.toNat < UInt8.ofNat y.toNat) ↔ x < y := by
  rw [UInt8.lt_iff_toNat_lt]; simp; omega
theorem ofNat_eq {x y : Int} (h1 : 0 ≤ x ∧ x < 256) (h2 : 0 ≤ y ∧ y < 256) : (UInt8.ofNat x.toNat = UInt8.ofNat y.toNat) ↔ x = y := by
  rw [← UInt8.toNat_inj]; simp; omega
theorem less_be (xs ys : List Int) (hl : xs.length = ys.length) (hx : ∀ x ∈ xs, 0 ≤ x ∧ x < 256) (hy : ∀ x ∈ ys, 0 ≤ x ∧ x < 256) :
    Op.bytesLess (xs.map fun n => UInt8.ofNat n.toNat) (ys.map fun n => UInt8.ofNat n.toNat) = decide (be xs < be ys) := by
  induction xs generalizing ys with
  | nil =>
    obtain rfl : ys = [] := List.length_eq_zero_iff.1 (by simpa using hl.symm)
    simp [Op.bytesLess]
  | cons x xs ih =>
    cases ys with
    | nil => simp at hl
    | cons y ys =>
      have hl' : xs.length = ys.length := by simpa using hl
      have h1 := hx x (by simp)
      have h2 := hy y (by simp)
      have hih := ih ys hl' (fun z hz => hx z (by simp [hz])) (fun z hz => hy z (by simp [hz]))
      have b1 := be_bd xs (fun z hz => hx z (by simp [hz]))
      have b2 := be_bd ys (fun z hz => hy z (by simp [hz]))
      rw [be_cons, be_cons, List.map_cons, List.map_cons, Op.bytesLess, hih, hl']
      rw [hl'] at b1
      have hp := pow256_pos ys.length
      generalize pow256 ys.length = p at *
      generalize be xs = X at *
      generalize be ys = Y at *
      rw [Bool.eq_iff_iff]
      simp only [Bool.or_eq_true, Bool.and_eq_true, decide_eq_true_eq, beq_iff_eq, ofNat_lt h1 h2, ofNat_eq h1 h2]
      rcases Int.lt_trichotomy x y with h | h | h
      · have : (x + 1) * p ≤ y * p := Int.mul_le_mul_of_nonneg_right (by omega) (by omega)
        rw [Int.add_mul, Int.one_mul] at this
        constructor
        · intro _; omega
        · intro _; exact .inl h
      · subst h
        constructor
        · rintro (h | ⟨_, h⟩) <;> omega
        · intro h; exact .inr ⟨rfl, by omega⟩
      · have : (y + 1) * p ≤ x * p := Int.mul_le_mul_of_nonneg_right (by omega) (by omega)
        rw [Int.add_mul, Int.one_mul] at this
        constructor
        · rintro (h | ⟨h, _⟩) <;> omega
        · intro _; omega
theorem map_inj (xs ys : List Int) (hx : ∀ x ∈ xs, 0 ≤ x ∧ x < 256) (hy : ∀ x ∈ ys, 0 ≤ x ∧ x < 256) :
    (xs.map fun n => UInt8.ofNat n.toNat) = (ys.map fun n => UInt8.ofNat n.toNat) ↔ xs = ys := by
  induction xs generalizing ys with
  | nil => cases ys <;> simp
  | cons x xs ih =>
    cases ys with
    | nil => simp
    | cons y ys =>
      rw [List.map_cons, List.map_cons, List.cons.injEq, List.cons.injEq, ofNat_eq (hx x (by simp)) (hy y (by simp)), ih ys (fun z hz => hx z (by simp [hz])) (fun z hz => hy z (by simp [hz]))]
theorem str_eq (xs ys : List Int) (hx : ∀ x ∈ xs, 0 ≤ x ∧ x < 256) (hy : ∀ x ∈ ys, 0 ≤ x ∧ x < 256) :
    ((strOfNums xs).toList == (strOfNums ys).toList) = decide (xs = ys) := by
  rw [str_list, str_list, Bool.eq_iff_iff, beq_iff_eq, decide_eq_true_eq]
  exact map_inj xs ys hx hy
theorem putB_bytes (v n : Int) : ∀ x ∈ putB v n, 0 ≤ x ∧ x < 256 := by
  unfold putB; split
  · exact lo_bytes _ _
  · simp
theorem be_putB {v n : Int} (h : PutOk v n) : be (putB v n) = v := by
  rw [putB, if_pos h, be_lo]; exact Int.emod_eq_of_lt h.2.2.1 h.2.2.2
theorem putB_len {v n : Int} (h : PutOk v n) : (putB v n).length = n.toNat := by rw [putB, if_pos h, lo_len]
theorem rises_less {v u n : Int} (h1 : PutOk v n) (h2 : PutOk u n) : decide (v < u) = Op.bytesLess (strOfNums (putB v n)).toList (strOfNums (putB u n)).toList := by
  rw [str_list, str_list, less_be _ _ (by rw [putB_len h1, putB_len h2]) (putB_bytes _ _) (putB_bytes _ _), be_putB h1, be_putB h2]
theorem rises_same {v u n : Int} (h1 : PutOk v n) (h2 : PutOk u n) : ((v == u) == ((strOfNums (putB v n)).toList == (strOfNums (putB u n)).toList)) = true := by
  rw [str_eq _ _ (putB_bytes _ _) (putB_bytes _ _), beq_iff_eq, Bool.eq_iff_iff, beq_iff_eq, decide_eq_true_eq]
  constructor
  · intro h; rw [h]
  · intro h; have := congrArg be h; rw [be_putB h1, be_putB h2] at this; exact this
#print axioms rises_same
end Go.Proofs.Yteofjlcaokajeaa
