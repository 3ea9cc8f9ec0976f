/- Mathematics of acks' bytes: what has bytes is parsed as itself; what is parsed has these bytes. No conditions beyond those of the theorems. -/
import Derived.Test.YtipdjfgaenoepaaAkd
import Derived.Test.YtipdjfgaenoepaaAkb
import Derived.Test.YtipdjfgaenoepaaPlain
namespace Go.Proofs.Ytipdjfgaenoepaa
set_option maxRecDepth 100000

theorem getS_fwd {f m xs : List Int} {v : Int} {n : Nat} {q z : Int} (hxs : xs = f ++ (lo v n ++ m)) (hq : q = (f.length : Int)) (hz : z = (n : Int)) (h1 : 1 ≤ n) (h7 : n ≤ 7) (hv : 0 ≤ v ∧ v < pow256 n) : getS xs q z = (v, q + z, 0) := by
  subst hxs; subst hq; subst hz
  have hp : PutOk v (n : Int) := ⟨by omega, by omega, hv.1, by simpa using hv.2⟩
  have := back_get f m hp
  have hB : putB v (n : Int) = lo v n := by unfold putB; rw [if_pos hp]; simp
  rw [hB] at this
  exact this
theorem getS_inv {xs : List Int} (hx : ∀ x ∈ xs, 0 ≤ x ∧ x < 256) {n K : Nat} (h : (getS xs (K : Int) (n : Int)).2.2 = 0) :
    K + n ≤ xs.length ∧ (getS xs (K : Int) (n : Int)).2.1 = ((K + n : Nat) : Int) ∧ lo (getS xs (K : Int) (n : Int)).1 n = (xs.drop K).take n := by
  unfold getS at h ⊢
  split at h
  · simp at h
  · rename_i hn
    rw [if_neg hn]
    split at h
    · simp at h
    · rename_i hl
      rw [if_neg hl]
      have hlen : K + n ≤ xs.length := by omega
      refine ⟨hlen, by simp, ?_⟩
      unfold segN
      simp only [Int.toNat_natCast]
      have hl2 : ((xs.drop K).take n).length = n := by simp; omega
      have := lo_be ((xs.drop K).take n) (fun x hx' => hx x (List.drop_subset _ _ (List.take_subset _ _ hx')))
      rw [hl2] at this
      exact this
theorem lo_one {v : Int} (h : 0 ≤ v ∧ v ≤ 255) : lo v 1 = [v] := by
  unfold lo
  simp
  omega
theorem getS_one {xs : List Int} (hx : ∀ x ∈ xs, 0 ≤ x ∧ x < 256) {K : Nat} (h : (getS xs (K : Int) 1).2.2 = 0) :
    K + 1 ≤ xs.length ∧ (getS xs (K : Int) 1).2.1 = ((K + 1 : Nat) : Int) ∧ [(getS xs (K : Int) 1).1] = (xs.drop K).take 1 := by
  obtain ⟨h1, h2, h3⟩ := getS_inv hx (n := 1) h
  refine ⟨h1, h2, ?_⟩
  rw [← h3]
  exact (lo_one (getS_byte hx _)).symm
/-- One ack out of its bytes. -/
theorem ak_fwd {f m xs : List Int} {y : Int × Int × Int × Int} {q : Int} (hxs : xs = f ++ (akB y ++ m)) (hq : q = (f.length : Int)) (h : AkOne y) :
    (∀ i, i < 4 → rdE xs q i = 0) ∧ rdP xs q 4 = q + 9 ∧ rdV xs q 0 = y.1 ∧ rdV xs q 1 = y.2.1 ∧ rdV xs q 2 = y.2.2.1 ∧ rdV xs q 3 = y.2.2.2 := by
  obtain ⟨h0, h1, h2, h3⟩ := h
  have e0 : lo y.1 1 = [y.1] := lo_one (by omega)
  have hx0 : xs = f ++ (lo y.1 1 ++ (lo y.2.1 4 ++ (lo y.2.2.1 2 ++ (lo y.2.2.2 2 ++ m)))) := by rw [hxs, akB, e0]; simp
  have g0 : getS xs q 1 = (y.1, q + 1, 0) := getS_fwd hx0 hq rfl (by decide) (by decide) ⟨h0.1, by have := h0.2; show y.1 < 256 * 1; omega⟩
  have g1 : getS xs (q + 1) 4 = (y.2.1, q + 1 + 4, 0) := getS_fwd (f := f ++ lo y.1 1) (m := lo y.2.2.1 2 ++ (lo y.2.2.2 2 ++ m)) (by rw [hx0]; simp) (by rw [hq]; simp [lo_len]) rfl (by decide) (by decide) ⟨h1.1, by have := h1.2; show y.2.1 < 256 * (256 * (256 * (256 * 1))); omega⟩
  have g2 : getS xs (q + 1 + 4) 2 = (y.2.2.1, q + 1 + 4 + 2, 0) := getS_fwd (f := f ++ lo y.1 1 ++ lo y.2.1 4) (m := lo y.2.2.2 2 ++ m) (by rw [hx0]; simp) (by rw [hq]; simp [lo_len]; omega) rfl (by decide) (by decide) ⟨h2.1, by have := h2.2; show y.2.2.1 < 256 * (256 * 1); omega⟩
  have g3 : getS xs (q + 1 + 4 + 2) 2 = (y.2.2.2, q + 1 + 4 + 2 + 2, 0) := getS_fwd (f := f ++ lo y.1 1 ++ lo y.2.1 4 ++ lo y.2.2.1 2) (m := m) (by rw [hx0]; simp) (by rw [hq]; simp [lo_len]; omega) rfl (by decide) (by decide) ⟨h3.1, by have := h3.2; show y.2.2.2 < 256 * (256 * 1); omega⟩
  have p0 : rdP xs q 0 = q := rfl
  have p1 : rdP xs q 1 = q + 1 := by show (getS xs q 1).2.1 = _; rw [g0]
  have p2 : rdP xs q 2 = q + 1 + 4 := by show (getS xs (rdP xs q 1) 4).2.1 = _; rw [p1, g1]
  have p3 : rdP xs q 3 = q + 1 + 4 + 2 := by show (getS xs (rdP xs q 2) 2).2.1 = _; rw [p2, g2]
  have p4 : rdP xs q 4 = q + 1 + 4 + 2 + 2 := by show (getS xs (rdP xs q 3) 2).2.1 = _; rw [p3, g3]
  refine ⟨fun i hi => ?_, by rw [p4]; omega, by show (getS xs q 1).1 = _; rw [g0], by show (getS xs (rdP xs q 1) 4).1 = _; rw [p1, g1], by show (getS xs (rdP xs q 2) 2).1 = _; rw [p2, g2], by show (getS xs (rdP xs q 3) 2).1 = _; rw [p3, g3]⟩
  have : i = 0 ∨ i = 1 ∨ i = 2 ∨ i = 3 := by omega
  rcases this with rfl | rfl | rfl | rfl
  · show (getS xs q 1).2.2 = 0; rw [g0]
  · show (getS xs (rdP xs q 1) 4).2.2 = 0; rw [p1, g1]
  · show (getS xs (rdP xs q 2) 2).2.2 = 0; rw [p2, g2]
  · show (getS xs (rdP xs q 3) 2).2.2 = 0; rw [p3, g3]
theorem akP_fwd {m xs : List Int} : ∀ (ys acc : List (Int × Int × Int × Int)) (f : List Int) (q : Int), xs = f ++ ((ys.map akB).flatten ++ m) → q = (f.length : Int) → (∀ y ∈ ys, AkOne y) → akP xs ys.length q acc = .inr (acc ++ ys, q + 9 * ys.length)
  | [], acc, f, q, _, _, _ => by simp [akP]
  | y :: ys, acc, f, q, hxs, hq, h => by
    obtain ⟨h0, h1, h2, h3, h4, h5⟩ := ak_fwd (f := f) (m := (ys.map akB).flatten ++ m) (y := y) (q := q) (xs := xs) (by rw [hxs]; simp) hq (h y (by simp))
    rw [List.length_cons, akP_go h0, h1, h2, h3, h4, h5, akP_fwd (m := m) ys (acc ++ [y]) (f ++ akB y) (q + 9) (by rw [hxs]; simp) (by rw [hq]; simp [akB_len]) (fun z hz => h z (List.mem_cons_of_mem _ hz))]
    simp
    omega
/-- What has bytes is parsed as itself, wherever it stands. -/
theorem acPF_fwd {f m : List Int} {ys : List (Int × Int × Int × Int)} (h : AksOk ys) : acPF (f ++ (acB ys ++ m)) f.length = .inr (ys, (f.length : Int) + (acB ys).length) := by
  have hl := h.2.2
  have hone : ∀ y ∈ ys, AkOne y := fun y hy => by
    obtain ⟨i, hi, rfl⟩ := List.mem_iff_getElem.1 hy
    have := (h.1 i hi).1
    simpa [List.getD, hi] using this
  obtain ⟨xs, hxs⟩ : ∃ xs, f ++ (acB ys ++ m) = xs := ⟨_, rfl⟩
  have hx0 : xs = f ++ (lo (ys.length : Int) 1 ++ ((ys.map akB).flatten ++ m)) := by rw [← hxs, acB, lo_one (by omega)]; simp
  have g0 : getS xs (f.length : Int) 1 = ((ys.length : Int), (f.length : Int) + 1, 0) := getS_fwd hx0 rfl rfl (by decide) (by decide) ⟨by omega, by show (ys.length : Int) < 256 * 1; omega⟩
  have hr := akP_fwd (xs := xs) (m := m) ys [] (f ++ lo (ys.length : Int) 1) ((f.length : Int) + 1) (by rw [hx0]; simp) (by simp [lo_len]) hone
  rw [hxs]
  unfold acPF
  rw [g0]
  simp only [ne_eq, not_true_eq_false, if_false, Int.toNat_natCast, hr, List.nil_append]
  rw [if_pos h, acB, List.length_append, akB_flat_len]
  simp
  omega
theorem akP_inv {xs : List Int} (hx : ∀ x ∈ xs, 0 ≤ x ∧ x < 256) : ∀ (n K : Nat) (acc l : List (Int × Int × Int × Int)) (to : Int), K ≤ xs.length → akP xs n (K : Int) acc = .inr (l, to) →
    ∃ zs, l = acc ++ zs ∧ zs.length = n ∧ to = ((K + 9 * n : Nat) : Int) ∧ K + 9 * n ≤ xs.length ∧ (zs.map akB).flatten = (xs.drop K).take (9 * n)
  | 0, K, acc, l, to, hK, h => by
    simp only [akP, Sum.inr.injEq, Prod.mk.injEq] at h
    exact ⟨[], by simp [h.1], rfl, by simp [h.2], by omega, by simp⟩
  | n + 1, K, acc, l, to, hK, h => by
    rw [akP] at h
    by_cases e0 : rdE xs (K : Int) 0 = 0
    · rw [if_neg (not_not_intro e0)] at h
      by_cases e1 : rdE xs (K : Int) 1 = 0
      · rw [if_neg (not_not_intro e1)] at h
        by_cases e2 : rdE xs (K : Int) 2 = 0
        · rw [if_neg (not_not_intro e2)] at h
          by_cases e3 : rdE xs (K : Int) 3 = 0
          · rw [if_neg (not_not_intro e3)] at h
            have e0' : (getS xs (K : Int) 1).2.2 = 0 := e0
            obtain ⟨a1, a2, a3⟩ := getS_one hx e0'
            have p1 : rdP xs (K : Int) 1 = ((K + 1 : Nat) : Int) := a2
            have e1' : (getS xs (rdP xs (K : Int) 1) 4).2.2 = 0 := e1
            rw [p1] at e1'
            obtain ⟨b1, b2, b3⟩ := getS_inv hx (n := 4) e1'
            have p2 : rdP xs (K : Int) 2 = ((K + 1 + 4 : Nat) : Int) := by show (getS xs (rdP xs (K : Int) 1) 4).2.1 = _; rw [p1]; exact b2
            have e2' : (getS xs (rdP xs (K : Int) 2) 2).2.2 = 0 := e2
            rw [p2] at e2'
            obtain ⟨c1, c2, c3⟩ := getS_inv hx (n := 2) e2'
            have p3 : rdP xs (K : Int) 3 = ((K + 1 + 4 + 2 : Nat) : Int) := by show (getS xs (rdP xs (K : Int) 2) 2).2.1 = _; rw [p2]; exact c2
            have e3' : (getS xs (rdP xs (K : Int) 3) 2).2.2 = 0 := e3
            rw [p3] at e3'
            obtain ⟨d1, d2, d3⟩ := getS_inv hx (n := 2) e3'
            have p4 : rdP xs (K : Int) 4 = ((K + 1 + 4 + 2 + 2 : Nat) : Int) := by show (getS xs (rdP xs (K : Int) 3) 2).2.1 = _; rw [p3]; exact d2
            rw [p4] at h
            obtain ⟨zs, k1, k2, k3, k4, k5⟩ := akP_inv hx n (K + 1 + 4 + 2 + 2) _ l to d1 h
            have v1 : rdV xs (K : Int) 1 = (getS xs ((K + 1 : Nat) : Int) (4 : Nat)).1 := by show (getS xs (rdP xs (K : Int) 1) 4).1 = _; rw [p1]; rfl
            have v2 : rdV xs (K : Int) 2 = (getS xs ((K + 1 + 4 : Nat) : Int) (2 : Nat)).1 := by show (getS xs (rdP xs (K : Int) 2) 2).1 = _; rw [p2]; rfl
            have v3 : rdV xs (K : Int) 3 = (getS xs ((K + 1 + 4 + 2 : Nat) : Int) (2 : Nat)).1 := by show (getS xs (rdP xs (K : Int) 3) 2).1 = _; rw [p3]; rfl
            have v0 : rdV xs (K : Int) 0 = (getS xs (K : Int) 1).1 := rfl
            refine ⟨(rdV xs (K : Int) 0, rdV xs (K : Int) 1, rdV xs (K : Int) 2, rdV xs (K : Int) 3) :: zs, by rw [k1]; simp, by simp [k2], by rw [k3]; congr 1; omega, by omega, ?_⟩
            rw [List.map_cons, List.flatten_cons, k5, akB]
            simp only
            rw [v0, v1, v2, v3, b3, c3, d3, show 9 * (n + 1) = 1 + (4 + (2 + (2 + 9 * n))) by omega, List.take_add, List.drop_drop, List.take_add, List.drop_drop, List.take_add, List.drop_drop, List.take_add, List.drop_drop, ← a3]
            simp
          · rw [if_pos e3] at h; cases h
        · rw [if_pos e2] at h; cases h
      · rw [if_pos e1] at h; cases h
    · rw [if_pos e0] at h; cases h
/-- What is parsed is right, and has these bytes. -/
theorem acPF_inv {xs : List Int} (hx : ∀ x ∈ xs, 0 ≤ x ∧ x < 256) {ys : List (Int × Int × Int × Int)} {to : Int} (h : acPF xs 0 = .inr (ys, to)) :
    AksOk ys ∧ ∃ T : Nat, to = (T : Int) ∧ 10 ≤ T ∧ T ≤ xs.length ∧ acB ys = xs.take T := by
  unfold acPF at h
  by_cases e : (getS xs 0 1).2.2 = 0
  · rw [if_neg (not_not_intro e)] at h
    obtain ⟨a1, a2, a3⟩ := getS_one hx (K := 0) e
    have hb := getS_byte hx 0
    obtain ⟨c, hc⟩ : ∃ c, (getS xs 0 1).1 = c := ⟨_, rfl⟩
    have a2' : (getS xs 0 1).2.1 = ((1 : Nat) : Int) := by simpa using a2
    have a3' : [c] = xs.take 1 := by rw [← hc]; simpa using a3
    rw [hc] at h hb
    rw [a2'] at h
    cases hr : akP xs c.toNat ((1 : Nat) : Int) [] with
    | inl e => rw [hr] at h; cases h
    | inr r =>
      obtain ⟨l, t⟩ := r
      rw [hr] at h
      simp only at h
      split at h
      · rename_i hok
        simp only [Sum.inr.injEq, Prod.mk.injEq] at h
        obtain ⟨rfl, rfl⟩ := h
        obtain ⟨zs, k1, k2, k3, k4, k5⟩ := akP_inv hx c.toNat 1 [] l t (by omega) hr
        rw [List.nil_append] at k1
        subst k1
        refine ⟨hok, 1 + 9 * c.toNat, k3, ?_, k4, ?_⟩
        · have := hok.2.1; omega
        · have hlen : (l.length : Int) = c := by rw [k2]; omega
          unfold acB
          rw [hlen, k5, a3', List.take_add]
      · cases h
  · rw [if_pos e] at h; cases h
#print axioms acPF_fwd
#print axioms acPF_inv
end Go.Proofs.Ytipdjfgaenoepaa
