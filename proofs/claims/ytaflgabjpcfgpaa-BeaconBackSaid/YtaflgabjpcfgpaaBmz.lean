/- Mathematics of a beacon's bytes: what has bytes is parsed as itself; what is parsed has these bytes. No conditions beyond those of the theorems. -/
import Derived.Test.YtaflgabjpcfgpaaLfx
import Derived.Test.YtaflgabjpcfgpaaPlain
namespace Go.Proofs.Ytaflgabjpcfgpaa

theorem num_fwd (f m : List Int) (v : Int) (n K : Nat) (hK : K = f.length) (h1 : 1 ≤ n) (h7 : n ≤ 7) (hv : 0 ≤ v ∧ v < pow256 n) : numS (f ++ (lo v n ++ m)) (n : Int) ((K : Int), 0) = (v, (K : Int) + (n : Int), 0) := by
  subst hK
  have hp : PutOk v (n : Int) := ⟨by omega, by omega, hv.1, by simpa using hv.2⟩
  have := back_get f m hp
  have hB : putB v (n : Int) = lo v n := by unfold putB; rw [if_pos hp]; simp
  rw [hB] at this
  rw [numS_ok]
  exact this
theorem num_inv {xs : List Int} (hx : ∀ x ∈ xs, 0 ≤ x ∧ x < 256) {n K : Nat} {e v s : Int} (h : numS xs (n : Int) ((K : Int), e) = (v, s, 0)) :
    e = 0 ∧ K + n ≤ xs.length ∧ s = ((K + n : Nat) : Int) ∧ lo v n = (xs.drop K).take n := by
  unfold numS at h
  simp only at h
  by_cases he : e = 0
  · rw [if_pos he] at h
    unfold getS at h
    split at h
    · simp at h
    · rename_i hn
      split at h
      · simp at h
      · rename_i hl
        simp only [Prod.mk.injEq] at h
        obtain ⟨rfl, rfl, _⟩ := h
        have hlen : K + n ≤ xs.length := by omega
        refine ⟨he, hlen, by omega, ?_⟩
        unfold segN
        simp only [Int.toNat_natCast]
        have hl2 : ((xs.drop K).take n).length = n := by simp; omega
        have := lo_be ((xs.drop K).take n) (fun x hx' => hx x (List.drop_subset _ _ (List.take_subset _ _ hx')))
        rw [hl2] at this
        exact this
  · rw [if_neg he] at h
    simp only [Prod.mk.injEq] at h
    exact absurd h.2.2 he
theorem num_no {xs : List Int} {n p e v s : Int} (he : e ≠ 0) (h : numS xs n (p, e) = (v, s, 0)) : False := by
  rw [numS_err he] at h
  simp only [Prod.mk.injEq] at h
  exact he h.2.2
theorem lo_one {v : Int} (h : 0 ≤ v ∧ v ≤ 255) : lo v 1 = [v] := by
  unfold lo
  simp
  omega
theorem it_inv {xs : List Int} (hx : ∀ x ∈ xs, 0 ≤ x ∧ x < 256) : ∀ (n : Nat) (ys : List (Int × Int)) (K : Nat) (e : Int), K ≤ xs.length → (itE xs n (ys, ((K : Int), e))).2.2 = 0 →
    e = 0 ∧ K + 5 * n ≤ xs.length ∧ ∃ zs, itE xs n (ys, ((K : Int), e)) = (ys ++ zs, (((K + 5 * n : Nat) : Int), 0)) ∧ zs.length = n ∧ (zs.map ecB).flatten = (xs.drop K).take (5 * n)
  | 0, ys, K, e, hK, h => by
    have he : e = 0 := h
    subst he
    exact ⟨rfl, by omega, [], by simp [itE], rfl, by simp⟩
  | n + 1, ys, K, e, hK, h => by
    obtain ⟨y1, s1, e1, h1⟩ : ∃ x y z, numS xs 1 ((K : Int), e) = (x, y, z) := ⟨_, _, _, rfl⟩
    obtain ⟨y2, s2, e2, h2⟩ : ∃ x y z, numS xs 4 (s1, e1) = (x, y, z) := ⟨_, _, _, rfl⟩
    have hs : stepE xs (ys, ((K : Int), e)) = (ys ++ [(y1, y2)], (s2, e2)) := by simp only [stepE, h1, h2]
    rw [itE, hs] at h ⊢
    by_cases he2 : e2 = 0
    · subst he2
      by_cases he1 : e1 = 0
      · subst he1
        obtain ⟨i1, i2, i3, i4⟩ := num_inv hx (n := 1) h1
        subst i3
        obtain ⟨_, j2, j3, j4⟩ := num_inv hx (n := 4) h2
        subst j3
        obtain ⟨_, k2, zs, k3, k4, k5⟩ := it_inv hx n (ys ++ [(y1, y2)]) (K + 1 + 4) 0 (by omega) h
        refine ⟨i1, by omega, (y1, y2) :: zs, ?_, by simp [k4], ?_⟩
        · rw [k3]
          simp only [List.append_assoc, List.singleton_append, Prod.mk.injEq, true_and, and_true]
          omega
        · have hy : y1 ∈ xs ∧ [y1] = (xs.drop K).take 1 := by
            have hd : (xs.drop K).take 1 = [xs[K]] := by
              rw [List.drop_eq_getElem_cons (by omega)]; rfl
            have hb := hx xs[K] (List.getElem_mem (by omega))
            have hv : y1 = xs[K] := by
              have hg := h1
              rw [i1, numS_ok] at hg
              unfold getS at hg
              rw [if_neg (by omega), if_neg (by omega)] at hg
              simp only [Prod.mk.injEq] at hg
              rw [← hg.1]
              unfold segN
              simp only [Int.toNat_natCast]
              rw [show (1 : Int).toNat = 1 from rfl, hd]
              simp [be]
            rw [hd, hv]
            exact ⟨List.getElem_mem _, rfl⟩
          rw [List.map_cons, List.flatten_cons, k5, ecB, show 5 * (n + 1) = 1 + (4 + 5 * n) by omega, List.take_add, List.drop_drop, List.take_add, List.drop_drop, ← j4, ← hy.2]
          rfl
      · exact (num_no he1 h2).elim
    · rw [itE_err he2] at h
      exact absurd h he2
/-- What is parsed has these bytes. -/
theorem eparse_inv {xs : List Int} (hx : ∀ x ∈ xs, 0 ≤ x ∧ x < 256) {PM T E : Int} {PY : List (Int × Int)} (hp : eparseS xs 0 = ⟨PM, PY, T, E⟩) (he : E = 0) :
    BeOk PM PY ∧ ∃ T' : Nat, T = (T' : Int) ∧ 5 ≤ T' ∧ T' ≤ xs.length ∧ beB PM PY = xs.take T' := by
  subst he
  have hok : BeOk PM PY := by
    have := eparse_ok (xs := xs) (k := 0) (by rw [hp])
    rw [hp] at this
    exact this
  refine ⟨hok, ?_⟩
  unfold eparseS at hp
  obtain ⟨N1, s1, e1, h1⟩ : ∃ x y z, numS xs 4 (0, 0) = (x, y, z) := ⟨_, _, _, rfl⟩
  obtain ⟨cn, s2, e2, h2⟩ : ∃ x y z, numS xs 1 (s1, e1) = (x, y, z) := ⟨_, _, _, rfl⟩
  simp only [h1, h2] at hp
  have hc : 0 ≤ cn ∧ cn ≤ 255 := by have := num1_bd hx (s1, e1); rw [h2] at this; exact this
  unfold eparseF at hp
  split at hp
  · rename_i hr
    split at hp
    · simp only [EP.mk.injEq, and_true] at hp
      obtain ⟨rfl, hy, ht⟩ := hp
      have he2 : e2 = 0 := by
        by_cases h0 : e2 = 0
        · exact h0
        · rw [itE_err h0] at hr; exact absurd hr h0
      subst he2
      have he1 : e1 = 0 := by
        by_cases h0 : e1 = 0
        · exact h0
        · exact (num_no h0 h2).elim
      subst he1
      obtain ⟨_, i2, i3, i4⟩ := num_inv hx (n := 4) (K := 0) (e := 0) h1
      subst i3
      obtain ⟨_, j2, j3, j4⟩ := num_inv hx (n := 1) h2
      subst j3
      obtain ⟨_, k2, zs, k3, k4, k5⟩ := it_inv hx cn.toNat [] (0 + 4 + 1) 0 (by omega) hr
      rw [k3] at hy ht
      simp only [List.nil_append] at hy ht
      subst hy
      refine ⟨0 + 4 + 1 + 5 * cn.toNat, ht.symm, by omega, k2, ?_⟩
      rw [lo_one hc] at j4
      have hlen : (zs.length : Int) = cn := by rw [k4]; omega
      unfold beB
      rw [hlen, i4, j4, k5, show 0 + 4 + 1 + 5 * cn.toNat = 4 + (1 + 5 * cn.toNat) by omega, List.take_add, List.take_add, List.drop_drop, List.drop_zero]
      simp only [List.append_assoc]
    · cases hp
  · rename_i hr
    simp only [EP.no, EP.mk.injEq] at hp
    exact absurd hp.2.2.2 hr
theorem it_fwd (m : List Int) : ∀ (rem : List (Int × Int)) (f : List Int) (acc : List (Int × Int)) (K : Nat), K = f.length → (∀ y ∈ rem, EcIn y) →
    itE (f ++ ((rem.map ecB).flatten ++ m)) rem.length (acc, ((K : Int), 0)) = (acc ++ rem, (((K + 5 * rem.length : Nat) : Int), 0))
  | [], f, acc, K, _, _ => by simp [itE]
  | y :: rem, f, acc, K, hK, h => by
    have hy := h y List.mem_cons_self
    have e1 : f ++ (((y :: rem).map ecB).flatten ++ m) = f ++ (lo y.1 1 ++ (lo y.2 4 ++ ((rem.map ecB).flatten ++ m))) := by
      rw [lo_one (by have := hy.1; omega)]
      simp [ecB]
    have e2 : f ++ (((y :: rem).map ecB).flatten ++ m) = (f ++ [y.1]) ++ (lo y.2 4 ++ ((rem.map ecB).flatten ++ m)) := by simp [ecB]
    have e3 : f ++ (((y :: rem).map ecB).flatten ++ m) = (f ++ ecB y) ++ ((rem.map ecB).flatten ++ m) := by simp
    have n1 : numS (f ++ (((y :: rem).map ecB).flatten ++ m)) 1 ((K : Int), 0) = (y.1, ((K + 1 : Nat) : Int), 0) := by
      rw [e1]
      have := num_fwd f (lo y.2 4 ++ ((rem.map ecB).flatten ++ m)) y.1 1 K hK (by decide) (by decide) ⟨hy.1.1, by have := hy.1.2; show y.1 < 256 * 1; omega⟩
      simpa using this
    have n2 : numS (f ++ (((y :: rem).map ecB).flatten ++ m)) 4 (((K + 1 : Nat) : Int), 0) = (y.2, ((K + 5 : Nat) : Int), 0) := by
      rw [e2]
      have := num_fwd (f ++ [y.1]) ((rem.map ecB).flatten ++ m) y.2 4 (K + 1) (by simp [hK]) (by decide) (by decide) ⟨hy.2.1, by have := hy.2.2; show y.2 < 256 * (256 * (256 * (256 * 1))); omega⟩
      rw [show (((K + 5 : Nat)) : Int) = ((K + 1 : Nat) : Int) + ((4 : Nat) : Int) by omega]
      exact this
    have hs : stepE (f ++ (((y :: rem).map ecB).flatten ++ m)) (acc, ((K : Int), 0)) = (acc ++ [y], (((K + 5 : Nat) : Int), 0)) := by
      simp only [stepE, n1, n2]
    rw [List.length_cons, itE, hs, e3, it_fwd m rem (f ++ ecB y) (acc ++ [y]) (K + 5) (by rw [List.length_append, ecB_len, hK]) (fun z hz => h z (List.mem_cons_of_mem _ hz))]
    simp only [List.append_assoc, List.singleton_append, Prod.mk.injEq, true_and, and_true]
    omega
/-- What has bytes is parsed as itself. -/
theorem eparse_fwd (f m : List Int) {M : Int} {ys : List (Int × Int)} (h : BeOk M ys) : eparseS (f ++ (beB M ys ++ m)) f.length = ⟨M, ys, (f.length : Int) + ((beB M ys).length : Int), 0⟩ := by
  have hl := h.len
  have hM := h.2
  have e1 : f ++ (beB M ys ++ m) = f ++ (lo M 4 ++ ([(ys.length : Int)] ++ (((ys.map ecB).flatten) ++ m))) := by unfold beB; simp
  have e2 : f ++ (beB M ys ++ m) = (f ++ lo M 4) ++ (lo (ys.length : Int) 1 ++ (((ys.map ecB).flatten) ++ m)) := by
    rw [lo_one (by omega)]; unfold beB; simp
  have e3 : f ++ (beB M ys ++ m) = (f ++ lo M 4 ++ [(ys.length : Int)]) ++ (((ys.map ecB).flatten) ++ m) := by unfold beB; simp
  have n1 : numS (f ++ (beB M ys ++ m)) 4 ((f.length : Int), 0) = (M, ((f.length + 4 : Nat) : Int), 0) := by
    rw [e1]
    have := num_fwd f ([(ys.length : Int)] ++ (((ys.map ecB).flatten) ++ m)) M 4 f.length rfl (by decide) (by decide) ⟨hM.1, by have := hM.2; show M < 256 * (256 * (256 * (256 * 1))); omega⟩
    simpa using this
  have n2 : numS (f ++ (beB M ys ++ m)) 1 (((f.length + 4 : Nat) : Int), 0) = ((ys.length : Int), ((f.length + 5 : Nat) : Int), 0) := by
    rw [e2]
    have := num_fwd (f ++ lo M 4) (((ys.map ecB).flatten) ++ m) (ys.length : Int) 1 (f.length + 4) (by rw [List.length_append, lo_len]) (by decide) (by decide) ⟨by omega, by show (ys.length : Int) < 256 * 1; omega⟩
    rw [show (((f.length + 5 : Nat)) : Int) = ((f.length + 4 : Nat) : Int) + ((1 : Nat) : Int) by omega]
    exact this
  have n3 : itE (f ++ (beB M ys ++ m)) ys.length ([], (((f.length + 5 : Nat) : Int), 0)) = (ys, (((f.length + 5 + 5 * ys.length : Nat) : Int), 0)) := by
    rw [e3, it_fwd m ys (f ++ lo M 4 ++ [(ys.length : Int)]) [] (f.length + 5) (by simp [lo_len]) (beok_iff.1 h).2.1]
    simp
  unfold eparseS
  simp only [n1, n2, Int.toNat_natCast, n3]
  unfold eparseF
  simp only [if_true, if_pos h]
  rw [beB_len]
  simp only [EP.mk.injEq, true_and, and_true]
  omega
#print axioms eparse_inv
#print axioms eparse_fwd
end Go.Proofs.Ytaflgabjpcfgpaa
