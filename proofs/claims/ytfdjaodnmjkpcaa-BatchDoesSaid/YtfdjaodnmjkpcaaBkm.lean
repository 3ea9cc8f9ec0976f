/- What is parsed has the same bytes, what has bytes is parsed: by the reading's own words. No conditions. -/
import Derived.Test.YtfdjaodnmjkpcaaPsd
namespace Go.Proofs.Ytfdjaodnmjkpcaa
open Go.RowKit Go.Sort

theorem seg_one (xs : List Int) (K : Nat) (h : K < xs.length) : segN xs K 1 = xs.getD K 0 := by
  unfold segN
  rw [List.drop_eq_getElem_cons h, List.take_succ_cons, List.take_zero]
  simp [be, List.getD, h]
theorem short_at (xs : List Int) (K : Nat) (h : K < xs.length) : shortS xs ((K : Int), 0) = (xs.getD K 0, (K : Int) + 1, 0) := by
  unfold shortS getS
  rw [if_pos rfl, if_neg (by simp only []; omega), if_neg (by simp only []; omega)]
  simp only [Int.toNat_natCast]
  rw [show (1 : Int).toNat = 1 from rfl, seg_one xs K h]
theorem long_at (xs : List Int) (K : Nat) (h : K + 8 ≤ xs.length) : longS xs ((K : Int), 0) = (wrap64 (segN xs K 8), (K : Int) + 8, 0) := by
  unfold longS getIntS
  rw [if_pos rfl, if_neg (by simp only []; omega), if_neg (by simp only []; omega)]
  simp only [Int.toNat_natCast]
theorem short_inv {xs : List Int} {K : Nat} {e x s : Int} (h : shortS xs ((K : Int), e) = (x, s, 0)) : e = 0 ∧ K < xs.length ∧ x = xs.getD K 0 ∧ s = (K : Int) + 1 := by
  by_cases he : e = 0
  · subst he
    by_cases hk : K < xs.length
    · rw [short_at xs K hk] at h
      simp only [Prod.mk.injEq] at h
      exact ⟨rfl, hk, h.1.symm, h.2.1.symm⟩
    · unfold shortS getS at h
      rw [if_pos rfl] at h
      by_cases h1 : (xs.length : Int) < (K : Int)
      · rw [if_pos (by simp only []; omega)] at h; simp at h
      · rw [if_neg (by simp only []; omega), if_pos (by simp only []; omega)] at h; simp at h
  · simp [shortS, he] at h
theorem long_inv {xs : List Int} {K : Nat} {e x s : Int} (h : longS xs ((K : Int), e) = (x, s, 0)) : e = 0 ∧ K + 8 ≤ xs.length ∧ x = wrap64 (segN xs K 8) ∧ s = (K : Int) + 8 := by
  by_cases he : e = 0
  · subst he
    by_cases hk : K + 8 ≤ xs.length
    · rw [long_at xs K hk] at h
      simp only [Prod.mk.injEq] at h
      exact ⟨rfl, hk, h.1.symm, h.2.1.symm⟩
    · unfold longS getIntS at h
      rw [if_pos rfl] at h
      by_cases h1 : (xs.length : Int) < (K : Int)
      · rw [if_pos (by simp only []; omega)] at h; simp at h
      · rw [if_neg (by simp only []; omega), if_pos (by simp only []; omega)] at h; simp at h
  · simp [longS, he] at h
theorem short_err {xs : List Int} {k e x s : Int} (he : e ≠ 0) (h : shortS xs (k, e) = (x, s, 0)) : False := by
  simp [shortS, he] at h
theorem long_err {xs : List Int} {k e x s : Int} (he : e ≠ 0) (h : longS xs (k, e) = (x, s, 0)) : False := by
  simp [longS, he] at h

theorem seg_bd8 {xs : List Int} (hx : ∀ x ∈ xs, 0 ≤ x ∧ x < 256) (K : Nat) (h : K + 8 ≤ xs.length) : 0 ≤ segN xs K 8 ∧ segN xs K 8 < 18446744073709551616 := by
  have h1 := be_bd _ (seg_bytes hx K 8)
  rw [show ((xs.drop K).take 8).length = 8 by simp; omega, show pow256 8 = 18446744073709551616 by decide] at h1
  exact h1
theorem seg_eight {xs : List Int} {K : Nat} (hx : ∀ x ∈ xs, 0 ≤ x ∧ x < 256) (h : K + 8 ≤ xs.length) : i8 (wrap64 (segN xs K 8)) = (xs.drop K).take 8 := by
  have h1 := lo_be ((xs.drop K).take 8) (seg_bytes hx K 8)
  have h2 := seg_bd8 hx K h
  rw [show ((xs.drop K).take 8).length = 8 by simp; omega] at h1
  have e : IntKind.u64.wrap (wrap64 (segN xs K 8)) = segN xs K 8 := by
    rw [IntKind.wrap_u64]; unfold wrap64; omega
  unfold i8
  rw [e]; exact h1
theorem take_one (xs : List Int) (K : Nat) (h : K < xs.length) : (xs.drop K).take 1 = [xs.getD K 0] := by
  rw [List.drop_eq_getElem_cons h, List.take_succ_cons, List.take_zero]
  simp [List.getD, h]
theorem take_two (xs : List Int) (K : Nat) (h : K + 1 < xs.length) : (xs.drop K).take 2 = [xs.getD K 0, xs.getD (K + 1) 0] := by
  rw [List.drop_eq_getElem_cons (by omega), List.take_succ_cons, List.drop_eq_getElem_cons (by omega), List.take_succ_cons, List.take_zero]
  simp [List.getD, show K < xs.length by omega, h]

/-- What is parsed at the beginning has just the bytes that it was read from. -/
theorem parse_inv (xs : List Int) (hx : ∀ x ∈ xs, 0 ≤ x ∧ x < 256) (he : (parseS xs 0).e = 0) :
    HtOk (parseS xs 0).n (parseS xs 0).t (parseS xs 0).o (parseS xs 0).r (parseS xs 0).d (parseS xs 0).i ∧
    ∃ T : Nat, (parseS xs 0).to = T ∧ 2 ≤ T ∧ T ≤ xs.length ∧ xs.take T = htB (parseS xs 0).n (parseS xs 0).t (parseS xs 0).o (parseS xs 0).r (parseS xs 0).d (parseS xs 0).i := by
  obtain ⟨k1, s1, e1, h1⟩ : ∃ x y z, shortS xs (0, 0) = (x, y, z) := ⟨_, _, _, rfl⟩
  by_cases c0 : k1 = 0
  · subst c0
    obtain ⟨i, s6, e6, h2⟩ : ∃ x y z, shortS xs (s1, e1) = (x, y, z) := ⟨_, _, _, rfl⟩
    simp only [parseS, h1, h2, if_true, parseF] at he ⊢
    by_cases he6 : e6 = 0
    · subst he6
      rw [if_pos rfl] at he ⊢
      by_cases hq : HtOk true 0 0 0 0 i
      · rw [if_pos hq]
        have z1 : e1 = 0 := by
          by_cases h : e1 = 0
          · exact h
          · exact (short_err h h2).elim
        subst z1
        obtain ⟨-, l1, v1, rfl⟩ := short_inv (K := 0) h1
        obtain ⟨-, l2, v2, rfl⟩ := short_inv (K := 1) h2
        refine ⟨hq, 2, rfl, by omega, by omega, ?_⟩
        have := take_two xs 0 (by omega)
        rw [List.drop_zero] at this
        rw [this, ← v1, ← v2]
        rfl
      · rw [if_neg hq] at he; cases he
    · rw [if_neg he6] at he; exact (he6 he).elim
  · by_cases c1 : k1 = 1
    · subst c1
      obtain ⟨t, s2, e2, h2⟩ : ∃ x y z, longS xs (s1, e1) = (x, y, z) := ⟨_, _, _, rfl⟩
      obtain ⟨o, s3, e3, h3⟩ : ∃ x y z, shortS xs (s2, e2) = (x, y, z) := ⟨_, _, _, rfl⟩
      obtain ⟨r, s4, e4, h4⟩ : ∃ x y z, shortS xs (s3, e3) = (x, y, z) := ⟨_, _, _, rfl⟩
      obtain ⟨d, s5, e5, h5⟩ : ∃ x y z, longS xs (s4, e4) = (x, y, z) := ⟨_, _, _, rfl⟩
      obtain ⟨i, s6, e6, h6⟩ : ∃ x y z, shortS xs (s5, e5) = (x, y, z) := ⟨_, _, _, rfl⟩
      simp only [parseS, h1, h2, h3, h4, h5, h6, if_neg c0, if_true, parseF] at he ⊢
      by_cases he6 : e6 = 0
      · subst he6
        rw [if_pos rfl] at he ⊢
        by_cases hq : HtOk false t o r d i
        · rw [if_pos hq]
          have z5 : e5 = 0 := Decidable.byContradiction fun h => short_err h h6
          subst z5
          have z4 : e4 = 0 := Decidable.byContradiction fun h => long_err h h5
          subst z4
          have z3 : e3 = 0 := Decidable.byContradiction fun h => short_err h h4
          subst z3
          have z2 : e2 = 0 := Decidable.byContradiction fun h => short_err h h3
          subst z2
          have z1 : e1 = 0 := Decidable.byContradiction fun h => long_err h h2
          subst z1
          obtain ⟨-, l1, v1, rfl⟩ := short_inv (K := 0) h1
          obtain ⟨-, l2, v2, rfl⟩ := long_inv (K := 1) h2
          obtain ⟨-, l3, v3, rfl⟩ := short_inv (K := 9) h3
          obtain ⟨-, l4, v4, rfl⟩ := short_inv (K := 10) h4
          obtain ⟨-, l5, v5, rfl⟩ := long_inv (K := 11) h5
          obtain ⟨-, l6, v6, rfl⟩ := short_inv (K := 19) h6
          refine ⟨hq, 20, rfl, by omega, by omega, ?_⟩
          have b1 := take_one xs 0 (by omega)
          rw [List.drop_zero] at b1
          have b2 := seg_eight hx l2
          have b3 := take_two xs 9 (by omega)
          have b5 := seg_eight hx l5
          have b6 := take_one xs 19 (by omega)
          have s : xs.take 20 = xs.take 1 ++ ((xs.drop 1).take 8 ++ ((xs.drop 9).take 2 ++ ((xs.drop 11).take 8 ++ (xs.drop 19).take 1))) := by
            rw [show 20 = 1 + (8 + (2 + (8 + 1))) from rfl, List.take_add, List.take_add, List.take_add, List.take_add]
            simp only [List.drop_drop]
          rw [s, b1, b3, b6, ← b2, ← b5, ← v1, ← v2, ← v3, ← v4, ← v5, ← v6]
          simp [htB]
        · rw [if_neg hq] at he; cases he
      · rw [if_neg he6] at he; exact (he6 he).elim
    · simp only [parseS, h1, if_neg c0, if_neg c1, PR.no] at he
      cases he

theorem short_mid (f m : List Int) (x : Int) (K : Nat) (hK : K = f.length) : shortS (f ++ (x :: m)) ((K : Int), 0) = (x, (K : Int) + 1, 0) := by
  subst hK
  rw [short_at _ _ (by simp)]
  simp [List.getD]
theorem long_mid (f m : List Int) {v : Int} (h : -9223372036854775808 ≤ v) (h' : v < 9223372036854775808) (K : Nat) (hK : K = f.length) : longS (f ++ (i8 v ++ m)) ((K : Int), 0) = (v, (K : Int) + 8, 0) := by
  subst hK
  unfold longS
  rw [if_pos rfl]
  exact back_getInt f m h h'
theorem htB_len (n : Bool) (t o r d i : Int) : (htB n t o r d i).length = if n then 2 else 20 := by
  cases n <;> simp [htB, i8_len]

/-- What has bytes is parsed as itself, wherever it stands. -/
theorem parse_fwd (f m : List Int) {n : Bool} {t o r d i : Int} (h : HtOk n t o r d i) :
    parseS (f ++ (htB n t o r d i ++ m)) f.length = ⟨n, t, o, r, d, i, (f.length : Int) + ((htB n t o r d i).length : Int), 0⟩ := by
  cases n with
  | true =>
    have hn : t = 0 ∧ o = 0 ∧ r = 0 ∧ d = 0 := by
      rcases h.2 with h | h
      · exact h.2
      · cases h.1
    obtain ⟨rfl, rfl, rfl, rfl⟩ := hn
    have e : f ++ (htB true 0 0 0 0 i ++ m) = f ++ (0 :: (i :: m)) := by simp [htB]
    have e' : f ++ (0 :: (i :: m)) = (f ++ [0]) ++ (i :: m) := by simp
    have h1 := short_mid f (i :: m) 0 f.length rfl
    have h2 := short_mid (f ++ [0]) m i (f.length + 1) (by simp)
    rw [← e'] at h2
    rw [e, htB_len]
    unfold parseS
    simp only [h1, if_true]
    rw [show ((f.length : Int) + 1) = ((f.length + 1 : Nat) : Int) by omega, h2]
    unfold parseF
    simp only [if_true]
    rw [if_pos h]
    congr 1
  | false =>
    have hr : RowOk t o r d := by
      rcases h.2 with h | h
      · cases h.1
      · exact h.2
    unfold RowOk at hr
    obtain ⟨t1, t2, -, -, d1, d2⟩ := hr
    have e : f ++ (htB false t o r d i ++ m) = f ++ (1 :: (i8 t ++ (o :: (r :: (i8 d ++ (i :: m)))))) := by simp [htB]
    have h1 := short_mid f (i8 t ++ (o :: (r :: (i8 d ++ (i :: m))))) 1 f.length rfl
    have h2 := long_mid (f ++ [1]) (o :: (r :: (i8 d ++ (i :: m)))) (v := t) (by omega) (by omega) (f.length + 1) (by simp)
    have h3 := short_mid (f ++ [1] ++ i8 t) (r :: (i8 d ++ (i :: m))) o (f.length + 9) (by simp [i8_len])
    have h4 := short_mid (f ++ [1] ++ i8 t ++ [o]) (i8 d ++ (i :: m)) r (f.length + 10) (by simp [i8_len])
    have h5 := long_mid (f ++ [1] ++ i8 t ++ [o] ++ [r]) (i :: m) (v := d) (by omega) (by omega) (f.length + 11) (by simp [i8_len])
    have h6 := short_mid (f ++ [1] ++ i8 t ++ [o] ++ [r] ++ i8 d) m i (f.length + 19) (by simp [i8_len])
    simp only [List.append_assoc, List.nil_append, List.cons_append] at h1 h2 h3 h4 h5 h6
    rw [e, htB_len]
    unfold parseS
    simp only [h1, show ¬ ((1 : Int) = 0) by decide, if_false, if_true]
    rw [show ((f.length : Int) + 1) = ((f.length + 1 : Nat) : Int) by omega]
    simp only [h2]
    rw [show (((f.length + 1 : Nat) : Int) + 8) = ((f.length + 9 : Nat) : Int) by omega]
    simp only [h3]
    rw [show (((f.length + 9 : Nat) : Int) + 1) = ((f.length + 10 : Nat) : Int) by omega]
    simp only [h4]
    rw [show (((f.length + 10 : Nat) : Int) + 1) = ((f.length + 11 : Nat) : Int) by omega]
    simp only [h5]
    rw [show (((f.length + 11 : Nat) : Int) + 8) = ((f.length + 19 : Nat) : Int) by omega]
    simp only [h6]
    unfold parseF
    simp only [if_true]
    rw [if_pos h]
    congr 1
#print axioms parse_fwd
end Go.Proofs.Ytfdjaodnmjkpcaa
