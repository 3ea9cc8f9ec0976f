/- What is parsed has the same bytes, what has bytes is parsed, of objects: by the reading's own words. No conditions. -/
import Derived.Test.YtfdjaodnmjkpcaaOpa
import Derived.Test.YtfdjaodnmjkpcaaBkm
namespace Go.Proofs.Ytfdjaodnmjkpcaa
open Go.RowKit Go.Sort

theorem nat_add (K j : Nat) : ((K + j : Nat) : Int) = (K : Int) + (j : Int) := by omega
theorem num2_inv {xs : List Int} {K : Nat} {e x s : Int} (h : numS xs 2 ((K : Int), e) = (x, s, 0)) : e = 0 ∧ K + 2 ≤ xs.length ∧ x = segN xs K 2 ∧ s = (K : Int) + 2 := by
  by_cases he : e = 0
  · subst he
    unfold numS getS at h
    rw [if_pos rfl] at h
    simp only [] at h
    by_cases h1 : (xs.length : Int) < (K : Int)
    · rw [if_pos (by omega)] at h; simp at h
    · rw [if_neg (by omega)] at h
      by_cases h2 : (xs.length : Int) - (K : Int) < 2
      · rw [if_pos h2] at h; simp at h
      · rw [if_neg h2] at h
        simp only [Prod.mk.injEq, Int.toNat_natCast] at h
        exact ⟨rfl, by omega, h.1.symm, h.2.1.symm⟩
  · simp [numS, he] at h
theorem seg_two {xs : List Int} {K : Nat} (hx : ∀ x ∈ xs, 0 ≤ x ∧ x < 256) (h : K + 2 ≤ xs.length) : (0 ≤ segN xs K 2 ∧ segN xs K 2 ≤ 65535) ∧ (xs.drop K).take 2 = [segN xs K 2 / 256, segN xs K 2 % 256] := by
  have h1 := be_bd _ (seg_bytes hx K 2)
  have h2 := lo_be ((xs.drop K).take 2) (seg_bytes hx K 2)
  rw [show ((xs.drop K).take 2).length = 2 by simp; omega] at h1 h2
  rw [show pow256 2 = 65536 by decide] at h1
  have h3 : 0 ≤ segN xs K 2 ∧ segN xs K 2 ≤ 65535 := by unfold segN; omega
  refine ⟨h3, ?_⟩
  rw [← lo_two h3]
  exact h2.symm
theorem short_pos {xs : List Int} {u : Int × Int} {x s : Int} (h : shortS xs u = (x, s, 0)) : u.2 = 0 := by
  by_cases he : u.2 = 0
  · exact he
  · simp [shortS, he] at h; exact absurd (by rw [h.2]) he
theorem long_pos {xs : List Int} {u : Int × Int} {x s : Int} (h : longS xs u = (x, s, 0)) : u.2 = 0 := by
  by_cases he : u.2 = 0
  · exact he
  · simp [longS, he] at h; exact absurd (by rw [h.2]) he

/-- A height that is parsed somewhere has just the bytes that it was read from. -/
theorem parse_inv_at (xs : List Int) (hx : ∀ x ∈ xs, 0 ≤ x ∧ x < 256) (K : Nat) (P : PR) (hP : parseS xs (K : Int) = P) (he : P.e = 0) :
    HtOk P.n P.t P.o P.r P.d P.i ∧ ∃ T : Nat, P.to = ((K + T : Nat) : Int) ∧ K + T ≤ xs.length ∧ (xs.drop K).take T = htB P.n P.t P.o P.r P.d P.i := by
  obtain ⟨k1, s1, e1, h1⟩ : ∃ x y z, shortS xs ((K : Int), 0) = (x, y, z) := ⟨_, _, _, rfl⟩
  by_cases c0 : k1 = 0
  · subst c0
    obtain ⟨i, s6, e6, h2⟩ : ∃ x y z, shortS xs (s1, e1) = (x, y, z) := ⟨_, _, _, rfl⟩
    have e : P = parseF true 0 0 0 0 (i, s6, e6) := by rw [← hP]; unfold parseS; rw [h1]; simp only [if_true]; rw [h2]
    subst e
    unfold parseF at he ⊢
    simp only [] at he ⊢
    by_cases he6 : e6 = 0
    · subst he6
      rw [if_pos rfl] at he ⊢
      by_cases hq : HtOk true 0 0 0 0 i
      · rw [if_pos hq]
        have z1 : e1 = 0 := short_pos h2
        subst z1
        obtain ⟨-, l1, v1, rfl⟩ := short_inv h1
        rw [show ((K : Int) + 1) = ((K + 1 : Nat) : Int) by omega] at h2
        obtain ⟨-, l2, v2, rfl⟩ := short_inv h2
        refine ⟨hq, 2, by simp only []; omega, by omega, ?_⟩
        rw [take_two xs K (by omega), ← v1, ← v2]
        rfl
      · rw [if_neg hq] at he; cases he
    · rw [if_neg he6] at he; exact (he6 he).elim
  · by_cases c1 : k1 = 1
    · subst c1
      obtain ⟨t, s2, e2, h2⟩ : ∃ x y z, longS xs (s1, e1) = (x, y, z) := ⟨_, _, _, rfl⟩
      obtain ⟨o, s3, e3, h3⟩ : ∃ x y z, shortS xs (s2, e2) = (x, y, z) := ⟨_, _, _, rfl⟩
      obtain ⟨r, s4, e4, h4⟩ : ∃ x y z, shortS xs (s3, e3) = (x, y, z) := ⟨_, _, _, rfl⟩
      obtain ⟨d, s5, e5, h5⟩ : ∃ x y z, longS xs (s4, e4) = (x, y, z) := ⟨_, _, _, rfl⟩
      obtain ⟨i, s6, e6, h6⟩ : ∃ x y z, shortS xs (s5, e5) = (x, y, z) := ⟨_, _, _, rfl⟩
      have e : P = parseF false t o r d (i, s6, e6) := by rw [← hP]; unfold parseS; simp only [h1, h2, h3, h4, h5, h6, if_neg c0, if_true]
      subst e
      unfold parseF at he ⊢
      simp only [] at he ⊢
      by_cases he6 : e6 = 0
      · subst he6
        rw [if_pos rfl] at he ⊢
        by_cases hq : HtOk false t o r d i
        · rw [if_pos hq]
          have z5 : e5 = 0 := short_pos h6
          subst z5
          have z4 : e4 = 0 := long_pos h5
          subst z4
          have z3 : e3 = 0 := short_pos h4
          subst z3
          have z2 : e2 = 0 := short_pos h3
          subst z2
          have z1 : e1 = 0 := long_pos h2
          subst z1
          obtain ⟨-, l1, v1, rfl⟩ := short_inv h1
          rw [show ((K : Int) + 1) = ((K + 1 : Nat) : Int) by omega] at h2
          obtain ⟨-, l2, v2, rfl⟩ := long_inv h2
          rw [show (((K + 1 : Nat) : Int) + 8) = ((K + 9 : Nat) : Int) by omega] at h3
          obtain ⟨-, l3, v3, rfl⟩ := short_inv h3
          rw [show (((K + 9 : Nat) : Int) + 1) = ((K + 10 : Nat) : Int) by omega] at h4
          obtain ⟨-, l4, v4, rfl⟩ := short_inv h4
          rw [show (((K + 10 : Nat) : Int) + 1) = ((K + 11 : Nat) : Int) by omega] at h5
          obtain ⟨-, l5, v5, rfl⟩ := long_inv h5
          rw [show (((K + 11 : Nat) : Int) + 8) = ((K + 19 : Nat) : Int) by omega] at h6
          obtain ⟨-, l6, v6, rfl⟩ := short_inv h6
          refine ⟨hq, 20, by simp only []; omega, by omega, ?_⟩
          have b1 := take_one xs K (by omega)
          have b2 := seg_eight hx l2
          have b3 := take_two xs (K + 9) (by omega)
          have b5 := seg_eight hx l5
          have b6 := take_one xs (K + 19) (by omega)
          have s : (xs.drop K).take 20 = (xs.drop K).take 1 ++ ((xs.drop (K + 1)).take 8 ++ ((xs.drop (K + 9)).take 2 ++ ((xs.drop (K + 11)).take 8 ++ (xs.drop (K + 19)).take 1))) := by
            rw [show 20 = 1 + (8 + (2 + (8 + 1))) from rfl, List.take_add, List.take_add, List.take_add, List.take_add]
            simp only [List.drop_drop, Nat.add_assoc]
          rw [s, b1, b3, b6, ← b2, ← b5, ← v1, ← v2, ← v3, ← v4, ← v5, ← v6]
          simp [htB]
        · rw [if_neg hq] at he; cases he
      · rw [if_neg he6] at he; exact (he6 he).elim
    · have e : P = .no 4 := by rw [← hP]; unfold parseS; simp only [h1, if_neg c0, if_neg c1]
      subst e
      cases he

theorem oparseF_inv {k x : Int} {n : Bool} {t o r d i p q s m : Int} {u : Int × Int} {O : OP} (h : O = oparseF k x n t o r d i p q s m u) (he : O.e = 0) : u.2 = 0 ∧ ObOk k x n t o r d i p q s m ∧ O = ⟨k, x, n, t, o, r, d, i, p, q, s, m, u.1, 0⟩ := by
  subst h
  unfold oparseF at he ⊢
  by_cases h0 : u.2 = 0
  · rw [if_pos h0] at he ⊢
    by_cases hq : ObOk k x n t o r d i p q s m
    · rw [if_pos hq]; exact ⟨h0, hq, rfl⟩
    · rw [if_neg hq] at he; cases he
  · rw [if_neg h0] at he; exact (h0 he).elim
theorem obB_1 (x : Int) (n : Bool) (t o r d i p q s m : Int) : obB 1 x n t o r d i p q s m = [1, x] := rfl
theorem obB_2 (x : Int) (n : Bool) (t o r d i p q s m : Int) : obB 2 x n t o r d i p q s m = [2, x] ++ htB n t o r d i := rfl
theorem obB_3 (x : Int) (n : Bool) (t o r d i p q s m : Int) : obB 3 x n t o r d i p q s m = [3, x] ++ i8 p ++ [q, s] := rfl
theorem obB_4 (x : Int) (n : Bool) (t o r d i p q s m : Int) : obB 4 x n t o r d i p q s m = [4, x] ++ htB n t o r d i ++ [m / 256, m % 256] := rfl

/-- What is parsed at the beginning has just the bytes that it was read from. -/
theorem oparse_inv (xs : List Int) (hx : ∀ x ∈ xs, 0 ≤ x ∧ x < 256) (O : OP) (hO : oparseS xs 0 = O) (he : O.e = 0) :
    ObOk O.k O.x O.n O.t O.o O.r O.d O.i O.p O.q O.s O.m ∧ ∃ T : Nat, O.to = (T : Int) ∧ 2 ≤ T ∧ T ≤ xs.length ∧ xs.take T = obB O.k O.x O.n O.t O.o O.r O.d O.i O.p O.q O.s O.m := by
  obtain ⟨k1, s1, e1, h1⟩ : ∃ x y z, shortS xs (((0 : Nat) : Int), 0) = (x, y, z) := ⟨_, _, _, rfl⟩
  have h1' : shortS xs (0, 0) = (k1, s1, e1) := h1
  obtain ⟨x, s2, e2, h2⟩ : ∃ x y z, shortS xs (s1, e1) = (x, y, z) := ⟨_, _, _, rfl⟩
  by_cases hk : kn k1 = true
  · have e : O = oparseD xs k1 (x, s2, e2) := by rw [← hO]; unfold oparseS; simp only [h1']; rw [if_pos hk, h2]
    have pos : e2 = 0 → e1 = 0 ∧ 1 < xs.length ∧ k1 = xs.getD 0 0 ∧ x = xs.getD 1 0 ∧ s2 = ((2 : Nat) : Int) := by
      intro z2
      subst z2
      have z1 := short_pos h2
      simp only [] at z1
      subst z1
      obtain ⟨-, l1, v1, rfl⟩ := short_inv h1
      rw [show (((0 : Nat) : Int) + 1) = ((1 : Nat) : Int) by omega] at h2
      obtain ⟨-, l2, v2, rfl⟩ := short_inv h2
      exact ⟨rfl, l2, v1, v2, by omega⟩
    have two : 1 < xs.length → xs.take 2 = [xs.getD 0 0, xs.getD 1 0] := fun h => by
      have := take_two xs 0 (by omega)
      rwa [List.drop_zero] at this
    have hk4 : k1 = 1 ∨ k1 = 2 ∨ k1 = 3 ∨ k1 = 4 := by
      simp only [kn, Bool.or_eq_true, beq_iff_eq] at hk; exact hk
    clear hk hO
    rcases hk4 with rfl | rfl | rfl | rfl
    · have e' : O = oparseF 1 x false 0 0 0 0 0 0 0 0 0 (s2, e2) := by rw [e]; unfold oparseD; rw [if_pos rfl]
      obtain ⟨z2, hq, rfl⟩ := oparseF_inv e' he
      simp only [] at z2
      obtain ⟨-, l1, v1, v2, rfl⟩ := pos z2
      refine ⟨hq, 2, rfl, by omega, by omega, ?_⟩
      rw [obB_1, two l1, ← v1, ← v2]
    · obtain ⟨P, hP⟩ : ∃ P, nextP xs (s2, e2) = P := ⟨_, rfl⟩
      have e' : O = oparseF 2 x P.n P.t P.o P.r P.d P.i 0 0 0 0 (P.to, P.e) := by rw [e]; unfold oparseD; rw [if_neg (by decide), if_pos rfl]; simp only [hP]; rfl
      obtain ⟨zp, hq, rfl⟩ := oparseF_inv e' he
      simp only [] at zp
      have z2 : e2 = 0 := by
        by_cases z : e2 = 0
        · exact z
        · rw [nextP, if_neg z] at hP; rw [← hP] at zp; exact zp
      obtain ⟨-, l1, v1, v2, rfl⟩ := pos z2
      subst z2
      rw [nextP, if_pos rfl] at hP
      obtain ⟨-, T, hT, hl, hb⟩ := parse_inv_at xs hx 2 P hP zp
      refine ⟨hq, 2 + T, hT, by omega, hl, ?_⟩
      rw [obB_2, List.take_add, two l1, hb, ← v1, ← v2]
    · obtain ⟨p, s3, e3, h3⟩ : ∃ x y z, longS xs (s2, e2) = (x, y, z) := ⟨_, _, _, rfl⟩
      obtain ⟨q, s4, e4, h4⟩ : ∃ x y z, shortS xs (s3, e3) = (x, y, z) := ⟨_, _, _, rfl⟩
      obtain ⟨s, s5, e5, h5⟩ : ∃ x y z, shortS xs (s4, e4) = (x, y, z) := ⟨_, _, _, rfl⟩
      have e' : O = oparseF 3 x false 0 0 0 0 0 p q s 0 (s5, e5) := by rw [e]; unfold oparseD; rw [if_neg (by decide), if_neg (by decide), if_pos rfl]; simp only [h3, h4, h5]; rfl
      obtain ⟨z5, hq, rfl⟩ := oparseF_inv e' he
      simp only [] at z5
      subst z5
      have z4 := short_pos h5
      simp only [] at z4
      subst z4
      have z3 := short_pos h4
      simp only [] at z3
      subst z3
      have z2 := long_pos h3
      simp only [] at z2
      obtain ⟨-, l1, v1, v2, rfl⟩ := pos z2
      subst z2
      obtain ⟨-, l3, v3, rfl⟩ := long_inv h3
      rw [show (((2 : Nat) : Int) + 8) = ((10 : Nat) : Int) by omega] at h4
      obtain ⟨-, l4, v4, rfl⟩ := short_inv h4
      rw [show (((10 : Nat) : Int) + 1) = ((11 : Nat) : Int) by omega] at h5
      obtain ⟨-, l5, v5, rfl⟩ := short_inv h5
      refine ⟨hq, 12, rfl, by omega, by omega, ?_⟩
      have b3 := seg_eight hx l3
      have b4 := take_two xs 10 (by omega)
      rw [obB_3, show 12 = 2 + (8 + 2) from rfl, List.take_add, List.take_add, List.drop_drop, two l1, b4, ← b3, ← v1, ← v2, ← v3, ← v4, ← v5]
      simp
    · obtain ⟨P, hP⟩ : ∃ P, nextP xs (s2, e2) = P := ⟨_, rfl⟩
      obtain ⟨m, s4, e4, h4⟩ : ∃ x y z, numS xs 2 (P.to, P.e) = (x, y, z) := ⟨_, _, _, rfl⟩
      have e' : O = oparseF 4 x P.n P.t P.o P.r P.d P.i 0 0 0 m (s4, e4) := by rw [e]; unfold oparseD; rw [if_neg (by decide), if_neg (by decide), if_neg (by decide)]; simp only [hP]; unfold oparse4; simp only [h4]
      obtain ⟨z4, hq, rfl⟩ := oparseF_inv e' he
      simp only [] at z4
      subst z4
      have zp : P.e = 0 := by
        by_cases z : P.e = 0
        · exact z
        · rw [numS, if_neg z] at h4
          simp only [Prod.mk.injEq] at h4
          exact h4.2.2
      have z2 : e2 = 0 := by
        by_cases z : e2 = 0
        · exact z
        · rw [nextP, if_neg z] at hP; rw [← hP] at zp; exact zp
      obtain ⟨-, l1, v1, v2, rfl⟩ := pos z2
      subst z2
      rw [nextP, if_pos rfl] at hP
      obtain ⟨-, T, hT, hl, hb⟩ := parse_inv_at xs hx 2 P hP zp
      rw [hT] at h4
      obtain ⟨-, l4, v4, rfl⟩ := num2_inv h4
      obtain ⟨-, bm⟩ := seg_two hx l4
      refine ⟨hq, 2 + T + 2, by simp only []; omega, by omega, by omega, ?_⟩
      rw [obB_4, List.take_add, List.take_add, two l1, hb, bm, ← v1, ← v2, ← v4]
  · have e : O = .no (needE e1 false) := by rw [← hO]; unfold oparseS; simp only [h1']; rw [if_neg hk]
    subst e
    have : needE e1 false ≠ 0 := by unfold needE; by_cases h : e1 = 0 <;> simp [h]
    exact (this he).elim

theorem ht_i64' {n : Bool} {t o r d i : Int} (h : HtOk n t o r d i) : -9223372036854775808 ≤ t ∧ t < 9223372036854775808 := by
  rcases h.2 with ⟨_, h⟩ | ⟨_, h⟩
  · unfold NullOk at h; omega
  · unfold RowOk at h; omega
/-- What has bytes is parsed as itself, wherever it stands. -/
theorem oparse_fwd (f M : List Int) {k x : Int} {n : Bool} {t o r d i p q s m : Int} (h : ObOk k x n t o r d i p q s m) :
    oparseS (f ++ (obB k x n t o r d i p q s m ++ M)) f.length = ⟨k, x, n, t, o, r, d, i, p, q, s, m, (f.length : Int) + ((obB k x n t o r d i p q s m).length : Int), 0⟩ := by
  have hk := h.1
  have fin : ∀ u : Int, oparseF k x n t o r d i p q s m (u, 0) = ⟨k, x, n, t, o, r, d, i, p, q, s, m, u, 0⟩ := fun u => by unfold oparseF; rw [if_pos rfl, if_pos h]
  have start : ∀ (k' : Int) (R : List Int), shortS (f ++ (k' :: (x :: R))) (f.length, 0) = (k', (f.length : Int) + 1, 0) ∧ shortS (f ++ (k' :: (x :: R))) ((f.length : Int) + 1, 0) = (x, ((f.length + 2 : Nat) : Int), 0) := fun k' R => by
    refine ⟨short_mid f (x :: R) k' f.length rfl, ?_⟩
    have h2 := short_mid (f ++ [k']) R x (f.length + 1) (by simp)
    rw [List.append_assoc, List.singleton_append] at h2
    rw [show ((f.length : Int) + 1) = ((f.length + 1 : Nat) : Int) by omega, h2]
    congr 2
  rcases kind_of h with rfl | rfl | rfl | rfl
  · have z : n = false ∧ t = 0 ∧ o = 0 ∧ r = 0 ∧ d = 0 ∧ i = 0 := by have := h.2.2.2.2.1; simpa [HgOk, hgB] using this
    have z' : p = 0 ∧ q = 0 ∧ s = 0 := by have := h.2.2.2.1; simpa [LvOk, lvB] using this
    have z'' : m = 0 := by have := h.2.2.2.2.2; simpa [NumOk, nuB] using this
    obtain ⟨rfl, rfl, rfl, rfl, rfl, rfl⟩ := z
    obtain ⟨rfl, rfl, rfl⟩ := z'
    subst z''
    rw [obB_1]
    have e : f ++ ([1, x] ++ M) = f ++ (1 :: (x :: M)) := rfl
    rw [e]
    obtain ⟨g1, g2⟩ := start 1 M
    unfold oparseS
    rw [g1]
    simp only []
    rw [if_pos hk, g2]
    unfold oparseD
    rw [if_pos rfl]
    simp only []
    rw [fin]
    congr 1
  · have z' : p = 0 ∧ q = 0 ∧ s = 0 := by have := h.2.2.2.1; simpa [LvOk, lvB] using this
    have z'' : m = 0 := by have := h.2.2.2.2.2; simpa [NumOk, nuB] using this
    have hh : HtOk n t o r d i := by have := h.2.2.2.2.1; simpa [HgOk, hgB] using this
    obtain ⟨rfl, rfl, rfl⟩ := z'
    subst z''
    rw [obB_2]
    have e : f ++ ([2, x] ++ htB n t o r d i ++ M) = f ++ (2 :: (x :: (htB n t o r d i ++ M))) := by simp
    have e' : f ++ (2 :: (x :: (htB n t o r d i ++ M))) = (f ++ [2, x]) ++ (htB n t o r d i ++ M) := by simp
    obtain ⟨g1, g2⟩ := start 2 (htB n t o r d i ++ M)
    have g3 := parse_fwd (f ++ [2, x]) M hh
    rw [← e', show (((f ++ [2, x]).length : Nat) : Int) = ((f.length + 2 : Nat) : Int) by simp] at g3
    rw [e]
    unfold oparseS
    rw [g1]
    simp only []
    rw [if_pos hk, g2]
    unfold oparseD
    rw [if_neg (by decide), if_pos rfl]
    unfold oparse2 nextP
    simp only [if_true]
    rw [g3]
    simp only []
    rw [fin]
    congr 1
    simp; omega
  · have z : n = false ∧ t = 0 ∧ o = 0 ∧ r = 0 ∧ d = 0 ∧ i = 0 := by have := h.2.2.2.2.1; simpa [HgOk, hgB] using this
    have z'' : m = 0 := by have := h.2.2.2.2.2; simpa [NumOk, nuB] using this
    have hl : HtOk false p q s 0 0 := by have := h.2.2.2.1; simpa [LvOk, lvB] using this
    have hp := (ht_i64' hl)
    obtain ⟨rfl, rfl, rfl, rfl, rfl, rfl⟩ := z
    subst z''
    rw [obB_3]
    have e : f ++ ([3, x] ++ i8 p ++ [q, s] ++ M) = f ++ (3 :: (x :: (i8 p ++ (q :: (s :: M))))) := by simp
    obtain ⟨g1, g2⟩ := start 3 (i8 p ++ (q :: (s :: M)))
    have g3 := long_mid (f ++ [3, x]) (q :: (s :: M)) (v := p) hp.1 hp.2 (f.length + 2) (by simp)
    have g4 := short_mid (f ++ [3, x] ++ i8 p) (s :: M) q (f.length + 10) (by simp [i8_len])
    have g5 := short_mid (f ++ [3, x] ++ i8 p ++ [q]) M s (f.length + 11) (by simp [i8_len])
    simp only [List.append_assoc, List.nil_append, List.cons_append] at g3 g4 g5
    rw [e]
    unfold oparseS
    rw [g1]
    simp only []
    rw [if_pos hk, g2]
    unfold oparseD
    rw [if_neg (by decide), if_neg (by decide), if_pos rfl]
    simp only []
    rw [g3]
    simp only []
    rw [show (((f.length + 2 : Nat) : Int) + 8) = ((f.length + 10 : Nat) : Int) by omega, g4]
    simp only []
    rw [show (((f.length + 10 : Nat) : Int) + 1) = ((f.length + 11 : Nat) : Int) by omega, g5]
    unfold oparse3
    simp only []
    rw [fin]
    congr 1
  · have z' : p = 0 ∧ q = 0 ∧ s = 0 := by have := h.2.2.2.1; simpa [LvOk, lvB] using this
    have hm : 0 ≤ m ∧ m ≤ 65535 := by have := h.2.2.2.2.2; simpa [NumOk, nuB] using this
    have hh : HtOk n t o r d i := by have := h.2.2.2.2.1; simpa [HgOk, hgB] using this
    obtain ⟨rfl, rfl, rfl⟩ := z'
    rw [obB_4]
    have e : f ++ ([4, x] ++ htB n t o r d i ++ [m / 256, m % 256] ++ M) = f ++ (4 :: (x :: (htB n t o r d i ++ ([m / 256, m % 256] ++ M)))) := by simp
    have e' : f ++ (4 :: (x :: (htB n t o r d i ++ ([m / 256, m % 256] ++ M)))) = (f ++ [4, x]) ++ (htB n t o r d i ++ ([m / 256, m % 256] ++ M)) := by simp
    have e'' : f ++ (4 :: (x :: (htB n t o r d i ++ ([m / 256, m % 256] ++ M)))) = (f ++ [4, x] ++ htB n t o r d i) ++ ([m / 256, m % 256] ++ M) := by simp
    obtain ⟨g1, g2⟩ := start 4 (htB n t o r d i ++ ([m / 256, m % 256] ++ M))
    have g3 := parse_fwd (f ++ [4, x]) ([m / 256, m % 256] ++ M) hh
    rw [← e', show (((f ++ [4, x]).length : Nat) : Int) = ((f.length + 2 : Nat) : Int) by simp] at g3
    have ok : PutOk m 2 := ⟨by decide, by decide, hm.1, by rw [show pow256 (2 : Int).toNat = 65536 by decide]; omega⟩
    have g4 := back_get (f ++ [4, x] ++ htB n t o r d i) M ok
    rw [putB, if_pos ok, show (2 : Int).toNat = 2 from rfl, lo_two hm, ← e'', show (((f ++ [4, x] ++ htB n t o r d i).length : Nat) : Int) = ((f.length + 2 : Nat) : Int) + ((htB n t o r d i).length : Int) by simp; omega] at g4
    rw [e]
    unfold oparseS
    rw [g1]
    simp only []
    rw [if_pos hk, g2]
    unfold oparseD
    rw [if_neg (by decide), if_neg (by decide), if_neg (by decide)]
    unfold oparse4 nextP numS
    simp only [if_true]
    rw [g3]
    simp only [if_true]
    rw [g4]
    simp only []
    rw [fin]
    congr 1
    simp; omega
#print axioms oparse_fwd
#print axioms oparse_inv
end Go.Proofs.Ytfdjaodnmjkpcaa
