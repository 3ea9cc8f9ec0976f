/- Plain mathematics: bytes of numbers, put and got; lists of bytes as strings. No conditions. -/
import Derived.Test.YteleedpiadcfjaaAwake
namespace Go.Proofs.Yteleedpiadcfjaa
set_option maxRecDepth 100000
open Go.RowKit

theorem str_list (xs : List Int) : (strOfNums xs).toList = xs.map fun n => UInt8.ofNat n.toNat := by
  rw [ByteArray.toList_eq]; rfl
theorem be_go (xs : List Int) (a : Int) : xs.foldl (fun a x => 256 * a + x) a = a * pow256 xs.length + be xs := by
  induction xs generalizing a with
  | nil => simp [be, pow256]
  | cons x xs ih =>
    have h1 := ih (256 * a + x)
    have h2 := ih (256 * 0 + x)
    simp only [be, List.foldl_cons, List.length_cons, pow256] at *
    rw [h1, h2, Int.add_mul, Int.mul_assoc, Int.mul_left_comm]
    simp
    omega
theorem be_cons (x : Int) (xs : List Int) : be (x :: xs) = x * pow256 xs.length + be xs := by
  have := be_go xs (256 * 0 + x)
  simp only [be, List.foldl_cons] at *
  rw [this]; simp
theorem be_append (xs ys : List Int) : be (xs ++ ys) = be xs * pow256 ys.length + be ys := by
  unfold be; rw [List.foldl_append]; exact be_go ys _
theorem lo_succ (v : Int) (n : Nat) : lo v (n + 1) = lo (v / 256) n ++ [v % 256] := by
  unfold lo
  rw [List.range_succ, List.map_append]
  congr 1
  · refine List.map_congr_left fun i hi => ?_
    have hi' := List.mem_range.1 hi
    rw [show n + 1 - 1 - i = (n - 1 - i) + 1 from by omega, Int.pow_succ, Int.mul_comm, ← Int.ediv_ediv_of_nonneg (by omega)]
  · simp
theorem lo_len (v : Int) (n : Nat) : (lo v n).length = n := by simp [lo]
theorem lo_bytes (v : Int) (n : Nat) : ∀ x ∈ lo v n, 0 ≤ x ∧ x < 256 := by
  intro x hx
  obtain ⟨i, _, rfl⟩ := List.mem_map.1 hx
  omega
theorem be_lo (v : Int) (n : Nat) : be (lo v n) = v % pow256 n := by
  induction n generalizing v with
  | zero => simp [lo, be, pow256]
  | succ n ih =>
    rw [lo_succ, be_snoc, ih]
    have h1 := Int.emod_add_mul_ediv v 256
    have hp := pow256_pos n
    have h2 := Int.emod_add_mul_ediv (v / 256) (pow256 n)
    have h3 : v % (256 * pow256 n) = 256 * (v / 256 % pow256 n) + v % 256 := by
      have e : v = (256 * (v / 256 % pow256 n) + v % 256) + (256 * pow256 n) * (v / 256 / pow256 n) := by
        rw [Int.mul_assoc]; omega
      conv => lhs; rw [e]
      rw [Int.add_mul_emod_self_left]
      have b1 := Int.emod_nonneg (v / 256) (b := pow256 n) (by omega)
      have b2 := Int.emod_lt_of_pos (v / 256) (b := pow256 n) (by omega)
      exact Int.emod_eq_of_lt (by omega) (by omega)
    simp only [pow256]
    rw [h3]
theorem lo_be (xs : List Int) (h : ∀ x ∈ xs, 0 ≤ x ∧ x < 256) : lo (be xs) xs.length = xs := by
  have key : ∀ n (l : List Int), l.length = n → (∀ x ∈ l, 0 ≤ x ∧ x < 256) → lo (be l) l.length = l := by
    intro n
    induction n with
    | zero => intro l hl _; obtain rfl := List.length_eq_zero_iff.1 hl; rfl
    | succ n ih =>
      intro l hl h
      have hne : l ≠ [] := by intro e; subst e; simp at hl
      have e := (List.dropLast_concat_getLast hne).symm
      have hd : l.dropLast.length = n := by simp [hl]
      have hp := ih l.dropLast hd (fun x hx => h x (List.dropLast_subset _ hx))
      have hq := h (l.getLast hne) (List.getLast_mem hne)
      rw [hl, lo_succ]
      rw [hd] at hp
      have e1 : be l = 256 * be l.dropLast + l.getLast hne := by conv => lhs; rw [e]
                                                                 exact be_snoc _ _
      rw [e1, show (256 * be l.dropLast + l.getLast hne) / 256 = be l.dropLast from by omega, show (256 * be l.dropLast + l.getLast hne) % 256 = l.getLast hne from by omega, hp]
      exact e.symm
  exact key _ xs rfl h
theorem ofNat_lt {x y : Int} (h1 : 0 ≤ x ∧ x < 256) (h2 : 0 ≤ y ∧ y < 256) : (UInt8.ofNat x.toNat < UInt8.ofNat y.toNat) ↔ x < y := by
  rw [UInt8.lt_iff_toNat_lt]; simp; omega
theorem ofNat_eq {x y : Int} (h1 : 0 ≤ x ∧ x < 256) (h2 : 0 ≤ y ∧ y < 256) : (UInt8.ofNat x.toNat = UInt8.ofNat y.toNat) ↔ x = y := by
  rw [← UInt8.toNat_inj]; simp; omega
theorem less_be (xs ys : List Int) (hl : xs.length = ys.length) (hx : ∀ x ∈ xs, 0 ≤ x ∧ x < 256) (hy : ∀ x ∈ ys, 0 ≤ x ∧ x < 256) :
    Op.bytesLess (xs.map fun n => UInt8.ofNat n.toNat) (ys.map fun n => UInt8.ofNat n.toNat) = decide (be xs < be ys) := by
  induction xs generalizing ys with
  | nil =>
    obtain rfl : ys = [] := List.length_eq_zero_iff.1 (by simpa using hl.symm)
    simp [Op.bytesLess]
  | cons x xs ih =>
    cases ys with
    | nil => simp at hl
    | cons y ys =>
      have hl' : xs.length = ys.length := by simpa using hl
      have h1 := hx x (by simp)
      have h2 := hy y (by simp)
      have hih := ih ys hl' (fun z hz => hx z (by simp [hz])) (fun z hz => hy z (by simp [hz]))
      have b1 := be_bd xs (fun z hz => hx z (by simp [hz]))
      have b2 := be_bd ys (fun z hz => hy z (by simp [hz]))
      rw [be_cons, be_cons, List.map_cons, List.map_cons, Op.bytesLess, hih, hl']
      rw [hl'] at b1
      have hp := pow256_pos ys.length
      generalize pow256 ys.length = p at *
      generalize be xs = X at *
      generalize be ys = Y at *
      rw [Bool.eq_iff_iff]
      simp only [Bool.or_eq_true, Bool.and_eq_true, decide_eq_true_eq, beq_iff_eq, ofNat_lt h1 h2, ofNat_eq h1 h2]
      rcases Int.lt_trichotomy x y with h | h | h
      · have : (x + 1) * p ≤ y * p := Int.mul_le_mul_of_nonneg_right (by omega) (by omega)
        rw [Int.add_mul, Int.one_mul] at this
        constructor
        · intro _; omega
        · intro _; exact .inl h
      · subst h
        constructor
        · rintro (h | ⟨_, h⟩) <;> omega
        · intro h; exact .inr ⟨rfl, by omega⟩
      · have : (y + 1) * p ≤ x * p := Int.mul_le_mul_of_nonneg_right (by omega) (by omega)
        rw [Int.add_mul, Int.one_mul] at this
        constructor
        · rintro (h | ⟨h, _⟩) <;> omega
        · intro _; omega
theorem map_inj (xs ys : List Int) (hx : ∀ x ∈ xs, 0 ≤ x ∧ x < 256) (hy : ∀ x ∈ ys, 0 ≤ x ∧ x < 256) :
    (xs.map fun n => UInt8.ofNat n.toNat) = (ys.map fun n => UInt8.ofNat n.toNat) ↔ xs = ys := by
  induction xs generalizing ys with
  | nil => cases ys <;> simp
  | cons x xs ih =>
    cases ys with
    | nil => simp
    | cons y ys =>
      rw [List.map_cons, List.map_cons, List.cons.injEq, List.cons.injEq, ofNat_eq (hx x (by simp)) (hy y (by simp)), ih ys (fun z hz => hx z (by simp [hz])) (fun z hz => hy z (by simp [hz]))]
theorem str_eq (xs ys : List Int) (hx : ∀ x ∈ xs, 0 ≤ x ∧ x < 256) (hy : ∀ x ∈ ys, 0 ≤ x ∧ x < 256) :
    ((strOfNums xs).toList == (strOfNums ys).toList) = decide (xs = ys) := by
  rw [str_list, str_list, Bool.eq_iff_iff, beq_iff_eq, decide_eq_true_eq]
  exact map_inj xs ys hx hy
theorem putB_bytes (v n : Int) : ∀ x ∈ putB v n, 0 ≤ x ∧ x < 256 := by
  unfold putB; split
  · exact lo_bytes _ _
  · simp
theorem be_putB {v n : Int} (h : PutOk v n) : be (putB v n) = v := by
  rw [putB, if_pos h, be_lo]; exact Int.emod_eq_of_lt h.2.2.1 h.2.2.2
theorem putB_len {v n : Int} (h : PutOk v n) : (putB v n).length = n.toNat := by rw [putB, if_pos h, lo_len]
theorem rises_less {v u n : Int} (h1 : PutOk v n) (h2 : PutOk u n) : decide (v < u) = Op.bytesLess (strOfNums (putB v n)).toList (strOfNums (putB u n)).toList := by
  rw [str_list, str_list, less_be _ _ (by rw [putB_len h1, putB_len h2]) (putB_bytes _ _) (putB_bytes _ _), be_putB h1, be_putB h2]
theorem rises_same {v u n : Int} (h1 : PutOk v n) (h2 : PutOk u n) : ((v == u) == ((strOfNums (putB v n)).toList == (strOfNums (putB u n)).toList)) = true := by
  rw [str_eq _ _ (putB_bytes _ _) (putB_bytes _ _), beq_iff_eq, Bool.eq_iff_iff, beq_iff_eq, decide_eq_true_eq]
  constructor
  · intro h; rw [h]
  · intro h; have := congrArg be h; rw [be_putB h1, be_putB h2] at this; exact this

/-! ### Rows joined, called with a literal -/
theorem Bs_shape {w : World} {v : Value} {xs : List Int} (h : Bs w v xs) : ∃ a cap, v = .slice a xs.length cap := by
  obtain ⟨_, _, ⟨a, cap, rfl, _, rfl⟩ | ⟨b, off, cap, rfl, _, _⟩⟩ := h
  · exact ⟨_, _, rfl⟩
  · exact ⟨_, _, rfl⟩
theorem Bs_alloc {w : World} {v : Value} {xs : List Int} (h : Bs w v xs) (o : Obj) : Bs (w.alloc o) v xs := Bs_below h ((Below.refl _ _).alloc (Nat.le_refl _) _)
theorem cell_lit (w : World) (cs : List Value) (T : TypeId) : ∀ i, i < cs.length → (w.alloc (.cells cs.toArray T)).cell? ⟨w.heap.size, i, none⟩ = some (cs.getD i undef) := by
  intro i hi
  rw [cell_of_row _ _ _ _ _ _ (heap_alloc_new w _)]
  simp [List.getD, hi]
theorem both1 {w : World} {v1 : Value} {x1 : List Int} (h1 : Bs w v1 x1) (T : TypeId) (tot : x1.length ≤ 1000) :
    Calls Try.prog 17 #[.slice (some ⟨w.heap.size, 0, none⟩) 1 1] (w.alloc (.cells #[v1] T)) (RetOwn x1 (w.alloc (.cells #[v1] T))) := by
  have h := both_any w.heap.size [v1] [x1] (w.alloc (.cells #[v1] T)) rfl (cell_lit w [v1] T) (fun i hi => by
    have : i = 0 := by simp at hi; omega
    subst this; exact Bs_alloc h1 _) (by simpa using tot) (by simp)
  simpa using h
theorem both1g {w : World} {v1 : Value} {x1 : List Int} (h1 : Bs w v1 x1) (T : TypeId) (tot : x1.length ≤ 1000) (g : Nat) (hg : g = w.heap.size) :
    Calls Try.prog 17 #[.slice (some ⟨g, 0, none⟩) 1 1] (w.alloc (.cells #[v1] T)) (RetOwn x1 (w.alloc (.cells #[v1] T))) := by
  subst hg; exact both1 h1 T tot
theorem both3 {w : World} {v1 v2 v3 : Value} {x1 x2 x3 : List Int} (h1 : Bs w v1 x1) (h2 : Bs w v2 x2) (h3 : Bs w v3 x3) (T : TypeId) (tot : x1.length + x2.length + x3.length ≤ 1000) :
    Calls Try.prog 17 #[.slice (some ⟨w.heap.size, 0, none⟩) 3 3] (w.alloc (.cells #[v1, v2, v3] T)) (RetOwn (x1 ++ (x2 ++ x3)) (w.alloc (.cells #[v1, v2, v3] T))) := by
  have h := both_any w.heap.size [v1, v2, v3] [x1, x2, x3] (w.alloc (.cells #[v1, v2, v3] T)) rfl (cell_lit w [v1, v2, v3] T) (fun i hi => by
    have : i = 0 ∨ i = 1 ∨ i = 2 := by simp at hi; omega
    rcases this with rfl | rfl | rfl
    · exact Bs_alloc h1 _
    · exact Bs_alloc h2 _
    · exact Bs_alloc h3 _) (by simp; omega) (by simp)
  simpa using h
theorem Bs_own {w w' : World} {r : Value} {xs : List Int} (h : w'.ownsRow w.heap.size 5 1 r xs.length (xs.map (Value.int .u8))) (hx : ∀ x ∈ xs, 0 ≤ x ∧ x < 256) (hl : xs.length ≤ 1000) : Bs w' r xs := Bs_of_own h hx (by omega)

theorem seg_mid (f b m : List Int) : segN (f ++ (b ++ m)) f.length b.length = be b := by
  unfold segN; rw [List.drop_left, List.take_left]
theorem back_get (f m : List Int) {v n : Int} (h : PutOk v n) : getS (f ++ (putB v n ++ m)) f.length n = (v, (f.length : Int) + n, 0) := by
  have hl := putB_len h
  have hs := seg_mid f (putB v n) m
  rw [be_putB h, hl] at hs
  obtain ⟨h1, h2, _, _⟩ := h
  unfold getS
  have e : ((f ++ (putB v n ++ m)).length : Int) = f.length + n + m.length := by simp [hl]; omega
  rw [if_neg (by rw [e]; omega), if_neg (by rw [e]; omega), Int.toNat_natCast, hs]
theorem back_getInt (f m : List Int) {v : Int} (h : -9223372036854775808 ≤ v) (h' : v < 9223372036854775808) : getIntS (f ++ (lo (IntKind.u64.wrap v) 8 ++ m)) f.length = (v, (f.length : Int) + 8, 0) := by
  have hs := seg_mid f (lo (IntKind.u64.wrap v) 8) m
  rw [be_lo, lo_len] at hs
  unfold getIntS
  have e : ((f ++ (lo (IntKind.u64.wrap v) 8 ++ m)).length : Int) = f.length + 8 + m.length := by simp [lo_len]; omega
  have e8 : pow256 8 = 18446744073709551616 := by decide
  rw [if_neg (by rw [e]; omega), if_neg (by rw [e]; omega), Int.toNat_natCast, hs, e8, IntKind.wrap_u64]
  refine Prod.ext ?_ rfl
  simp only [wrap64]
  omega

/-! ### What a sum tells -/
def InS (p : Int × Int) : Prop := 0 ≤ p.1 ∧ p.1 < 251 ∧ 0 ≤ p.2 ∧ p.2 < 251
theorem stepS_in (p : Int × Int) (x : Int) : InS (stepS p x) := by
  unfold InS stepS; exact ⟨by simp only []; omega, by simp only []; omega, by simp only []; omega, by simp only []; omega⟩
theorem stepS_inj {p q : Int × Int} (hp : InS p) (hq : InS q) (x : Int) (h : stepS p x = stepS q x) : p = q := by
  obtain ⟨a, b⟩ := p
  obtain ⟨c, d⟩ := q
  simp only [InS, stepS, Prod.mk.injEq] at *
  omega
theorem fold_inj (l : List Int) : ∀ {p q : Int × Int}, InS p → InS q → (l.foldl stepS p = l.foldl stepS q ↔ p = q) := by
  induction l with
  | nil => intro p q _ _; exact Iff.rfl
  | cons x l ih =>
    intro p q hp hq
    rw [List.foldl_cons, List.foldl_cons, ih (stepS_in _ _) (stepS_in _ _)]
    exact ⟨stepS_inj hp hq x, fun h => by rw [h]⟩
theorem sumP_in (xs : List Int) : InS (sumP xs) := sumP_bd xs
theorem sumN_inj (xs ys : List Int) : sumN xs = sumN ys ↔ sumP xs = sumP ys := by
  have h1 := sumP_bd xs
  have h2 := sumP_bd ys
  unfold sumN
  constructor
  · intro h
    refine Prod.ext ?_ ?_ <;> omega
  · intro h; rw [h]
theorem stepS_same (p : Int × Int) (x y : Int) : stepS p x = stepS p y ↔ (x - y) % 251 = 0 := by
  obtain ⟨a, b⟩ := p
  simp only [stepS, Prod.mk.injEq]
  omega
theorem stepS_swap (p : Int × Int) (x y : Int) : stepS (stepS p x) y = stepS (stepS p y) x ↔ (x - y) % 251 = 0 := by
  obtain ⟨a, b⟩ := p
  simp only [stepS, Prod.mk.injEq]
  omega
theorem split_at (xs : List Int) (k : Nat) (h : k < xs.length) : xs = xs.take k ++ xs.getD k 0 :: xs.drop (k + 1) := by
  have e : xs.getD k 0 = xs[k] := by simp [List.getD, h]
  rw [e, ← List.drop_eq_getElem_cons h, List.take_append_drop]
theorem set_at (xs : List Int) (k : Nat) (x : Int) (h : k < xs.length) : xs.set k x = xs.take k ++ x :: xs.drop (k + 1) := List.set_eq_take_append_cons_drop.trans (if_pos h)
theorem sum_set (xs : List Int) (k : Nat) (x : Int) (h : k < xs.length) : sumN (xs.set k x) = sumN xs ↔ (x - xs.getD k 0) % 251 = 0 := by
  rw [sumN_inj, set_at xs k x h]
  conv => lhs; rhs; rw [split_at xs k h]
  unfold sumP
  rw [List.foldl_append, List.foldl_append, List.foldl_cons, List.foldl_cons, fold_inj _ (stepS_in _ _) (stepS_in _ _), stepS_same]
theorem sum_swap (xs : List Int) (k : Nat) (h : k + 1 < xs.length) : sumN ((xs.set k (xs.getD (k + 1) 0)).set (k + 1) (xs.getD k 0)) = sumN xs ↔ (xs.getD k 0 - xs.getD (k + 1) 0) % 251 = 0 := by
  have e1 := split_at xs k (by omega)
  have e2 : xs.drop (k + 1) = xs.getD (k + 1) 0 :: xs.drop (k + 2) := by
    have e : xs.getD (k + 1) 0 = xs[k + 1] := by simp [List.getD, h]
    rw [e, ← List.drop_eq_getElem_cons h]
  have e3 : (xs.set k (xs.getD (k + 1) 0)).set (k + 1) (xs.getD k 0) = xs.take k ++ xs.getD (k + 1) 0 :: xs.getD k 0 :: xs.drop (k + 2) := by
    rw [set_at xs k _ (by omega), e2, List.set_append_right _ _ (by rw [List.length_take]; omega)]
    rw [show k + 1 - (xs.take k).length = 1 by rw [List.length_take]; omega]
    rfl
  rw [sumN_inj, e3]
  conv => lhs; rhs; rw [e1, e2]
  unfold sumP
  rw [List.foldl_append, List.foldl_append, List.foldl_cons, List.foldl_cons, List.foldl_cons, List.foldl_cons, fold_inj _ (stepS_in _ _) (stepS_in _ _), stepS_swap]
  omega
theorem tmod_zero (z : Int) : (z.tmod 251 == 0) = decide (z % 251 = 0) := by
  rw [Bool.eq_iff_iff, beq_iff_eq, decide_eq_true_eq, ← Int.dvd_iff_tmod_eq_zero, ← Int.dvd_iff_emod_eq_zero]
theorem sum_set_b (xs : List Int) (k : Nat) (x : Int) (h : k < xs.length) : (sumN xs == sumN (xs.set k x)) = ((x - xs.getD k 0).tmod 251 == 0) := by
  rw [tmod_zero, Bool.eq_iff_iff, beq_iff_eq, decide_eq_true_eq, eq_comm]; exact sum_set xs k x h
theorem sum_swap_b (xs : List Int) (k : Nat) (h : k + 1 < xs.length) : (sumN xs == sumN ((xs.set k (xs.getD (k + 1) 0)).set (k + 1) (xs.getD k 0))) = ((xs.getD k 0 - xs.getD (k + 1) 0).tmod 251 == 0) := by
  rw [tmod_zero, Bool.eq_iff_iff, beq_iff_eq, decide_eq_true_eq, eq_comm]; exact sum_swap xs k h
#print axioms sum_swap_b
end Go.Proofs.Yteleedpiadcfjaa
