/- Mathematics of packets' bytes: what has bytes is parsed as itself; what is parsed has these bytes; no packet's bytes begin another one's. No conditions beyond those of the theorems. -/
import Derived.Test.YteleedpiadcfjaaPkd
import Derived.Test.YteleedpiadcfjaaPut
import Derived.Test.YteleedpiadcfjaaPlain
namespace Go.Proofs.Yteleedpiadcfjaa
set_option maxRecDepth 100000

theorem g8_fwd {f m xs : List Int} {v : Int} {n : Nat} {q z : Int} (hxs : xs = f ++ (lo v n ++ m)) (hq : q = (f.length : Int)) (hz : z = (n : Int)) (h1 : 1 ≤ n) (h7 : n ≤ 7) (hv : 0 ≤ v ∧ v < pow256 n) : getS xs q z = (v, q + z, 0) := by
  subst hxs; subst hq; subst hz
  have hp : PutOk v (n : Int) := ⟨by omega, by omega, hv.1, by simpa using hv.2⟩
  have := back_get f m hp
  have hB : putB v (n : Int) = lo v n := by unfold putB; rw [if_pos hp]; simp
  rw [hB] at this
  exact this
theorem g8_inv {xs : List Int} (hx : ∀ x ∈ xs, 0 ≤ x ∧ x < 256) {n K : Nat} (h : (getS xs (K : Int) (n : Int)).2.2 = 0) :
    K + n ≤ xs.length ∧ (getS xs (K : Int) (n : Int)).2.1 = ((K + n : Nat) : Int) ∧ lo (getS xs (K : Int) (n : Int)).1 n = (xs.drop K).take n := by
  unfold getS at h ⊢
  split at h
  · simp at h
  · rename_i hn
    rw [if_neg hn]
    split at h
    · simp at h
    · rename_i hl
      rw [if_neg hl]
      have hlen : K + n ≤ xs.length := by omega
      refine ⟨hlen, by simp, ?_⟩
      unfold segN
      simp only [Int.toNat_natCast]
      have hl2 : ((xs.drop K).take n).length = n := by simp; omega
      have := lo_be ((xs.drop K).take n) (fun x hx' => hx x (List.drop_subset _ _ (List.take_subset _ _ hx')))
      rw [hl2] at this
      exact this
theorem lo8_one {v : Int} (h : 0 ≤ v ∧ v ≤ 255) : lo v 1 = [v] := by
  unfold lo
  simp
  omega
theorem lo8_two {v : Int} (h : 0 ≤ v ∧ v ≤ 65535) : lo v 2 = [v / 256, v % 256] := by
  have e : lo v 2 = [v / 256 ^ 1 % 256, v / 256 ^ 0 % 256] := rfl
  rw [e, Int.pow_succ, Int.pow_zero, Int.one_mul, Int.ediv_one]
  have : v / 256 % 256 = v / 256 := by omega
  rw [this]
theorem strOf_bl (x : ByteArray) : strOfNums (bl x) = x := by
  apply ByteArray.ext
  unfold strOfNums bl
  simp only [List.map_map]
  have : ((fun n : Int => UInt8.ofNat n.toNat) ∘ fun b : UInt8 => (b.toNat : Int)) = id := by
    funext b
    simp
  rw [this, List.map_id]
theorem bl_str {xs : List Int} (h : ∀ v ∈ xs, 0 ≤ v ∧ v < 256) : bl (strOfNums xs) = xs := by
  unfold strOfNums bl
  rw [List.toList_toArray, List.map_map]
  conv => rhs; rw [← List.map_id xs]
  apply List.map_congr_left
  intro v hv
  have := h v hv
  simp
  omega
theorem sub_size {xs : List Int} {i k : Nat} (h : i + k ≤ xs.length) : (strOfNums ((xs.drop i).take k)).size = k := by
  rw [strOfNums_size, List.length_take, List.length_drop]; omega
theorem hd_lo {s d t n k : Int} (hs : 0 ≤ s ∧ s ≤ 255) (hd : 0 ≤ d ∧ d ≤ 255) (ht : 0 ≤ t ∧ t ≤ 255) (hn : 0 ≤ n ∧ n ≤ 65535) (hk : 0 ≤ k ∧ k ≤ 65535) (m : List Int) : hdB s d t n k ++ m = lo s 1 ++ (lo d 1 ++ (lo t 1 ++ (lo n 2 ++ (lo k 2 ++ m)))) := by
  rw [lo8_one hs, lo8_one hd, lo8_one ht, lo8_two hn, lo8_two hk]; rfl
/-- The numbers out of a packet's first bytes. -/
theorem hd_fwd {f m xs : List Int} {s d t n k q : Int} (hs : 0 ≤ s ∧ s ≤ 255) (hd : 0 ≤ d ∧ d ≤ 255) (ht : 0 ≤ t ∧ t ≤ 255) (hn : 0 ≤ n ∧ n ≤ 65535) (hk : 0 ≤ k ∧ k ≤ 65535) (hxs : xs = f ++ (hdB s d t n k ++ m)) (hq : q = (f.length : Int)) :
    (∀ i, i < 5 → pE xs q i = 0) ∧ pP xs q 5 = q + 7 ∧ pV xs q 0 = s ∧ pV xs q 1 = d ∧ pV xs q 2 = t ∧ pV xs q 3 = n ∧ pV xs q 4 = k := by
  rw [hd_lo hs hd ht hn hk] at hxs
  have g0 : getS xs q 1 = (s, q + 1, 0) := g8_fwd hxs hq rfl (by decide) (by decide) ⟨hs.1, by have := hs.2; show s < 256 * 1; omega⟩
  have g1 : getS xs (q + 1) 1 = (d, q + 1 + 1, 0) := g8_fwd (f := f ++ lo s 1) (m := lo t 1 ++ (lo n 2 ++ (lo k 2 ++ m))) (by rw [hxs]; simp) (by rw [hq]; simp [lo_len]) rfl (by decide) (by decide) ⟨hd.1, by have := hd.2; show d < 256 * 1; omega⟩
  have g2 : getS xs (q + 1 + 1) 1 = (t, q + 1 + 1 + 1, 0) := g8_fwd (f := f ++ lo s 1 ++ lo d 1) (m := lo n 2 ++ (lo k 2 ++ m)) (by rw [hxs]; simp) (by rw [hq]; simp [lo_len]; omega) rfl (by decide) (by decide) ⟨ht.1, by have := ht.2; show t < 256 * 1; omega⟩
  have g3 : getS xs (q + 1 + 1 + 1) 2 = (n, q + 1 + 1 + 1 + 2, 0) := g8_fwd (f := f ++ lo s 1 ++ lo d 1 ++ lo t 1) (m := lo k 2 ++ m) (by rw [hxs]; simp) (by rw [hq]; simp [lo_len]; omega) rfl (by decide) (by decide) ⟨hn.1, by have := hn.2; show n < 256 * (256 * 1); omega⟩
  have g4 : getS xs (q + 1 + 1 + 1 + 2) 2 = (k, q + 1 + 1 + 1 + 2 + 2, 0) := g8_fwd (f := f ++ lo s 1 ++ lo d 1 ++ lo t 1 ++ lo n 2) (m := m) (by rw [hxs]; simp) (by rw [hq]; simp [lo_len]; omega) rfl (by decide) (by decide) ⟨hk.1, by have := hk.2; show k < 256 * (256 * 1); omega⟩
  have p1 : pP xs q 1 = q + 1 := by show (getS xs q 1).2.1 = _; rw [g0]
  have p2 : pP xs q 2 = q + 1 + 1 := by show (getS xs (pP xs q 1) 1).2.1 = _; rw [p1, g1]
  have p3 : pP xs q 3 = q + 1 + 1 + 1 := by show (getS xs (pP xs q 2) 1).2.1 = _; rw [p2, g2]
  have p4 : pP xs q 4 = q + 1 + 1 + 1 + 2 := by show (getS xs (pP xs q 3) 2).2.1 = _; rw [p3, g3]
  have p5 : pP xs q 5 = q + 1 + 1 + 1 + 2 + 2 := by show (getS xs (pP xs q 4) 2).2.1 = _; rw [p4, g4]
  refine ⟨fun i hi => ?_, by rw [p5]; omega, by show (getS xs q 1).1 = _; rw [g0], by show (getS xs (pP xs q 1) 1).1 = _; rw [p1, g1], by show (getS xs (pP xs q 2) 1).1 = _; rw [p2, g2], by show (getS xs (pP xs q 3) 2).1 = _; rw [p3, g3], by show (getS xs (pP xs q 4) 2).1 = _; rw [p4, g4]⟩
  have : i = 0 ∨ i = 1 ∨ i = 2 ∨ i = 3 ∨ i = 4 := by omega
  rcases this with rfl | rfl | rfl | rfl | rfl
  · show (getS xs q 1).2.2 = 0; rw [g0]
  · show (getS xs (pP xs q 1) 1).2.2 = 0; rw [p1, g1]
  · show (getS xs (pP xs q 2) 1).2.2 = 0; rw [p2, g2]
  · show (getS xs (pP xs q 3) 2).2.2 = 0; rw [p3, g3]
  · show (getS xs (pP xs q 4) 2).2.2 = 0; rw [p4, g4]
/-- What has bytes is parsed as itself, wherever it stands. -/
theorem pkPF_fwd {f m : List Int} {s d t n : Int} {x : ByteArray} (h : PkOk s d t n x) : pkPF (f ++ (pkB s d t n x ++ m)) f.length = .inr ((s, d, t, n, x), (f.length : Int) + (7 + x.size)) := by
  obtain ⟨h0, h1, h2, h3, h4⟩ := h
  obtain ⟨xs, hxs⟩ : ∃ xs, f ++ (pkB s d t n x ++ m) = xs := ⟨_, rfl⟩
  have hx1 : xs = f ++ (hdB s d t n x.size ++ (bl x ++ m)) := by rw [← hxs, pkB, List.append_assoc]
  obtain ⟨e, p5, v0, v1, v2, v3, v4⟩ := hd_fwd (q := (f.length : Int)) (by omega) (by omega) h2 h3 ⟨Int.natCast_nonneg _, by omega⟩ hx1 rfl
  rw [hxs, pkPF_go e, v0, v1, v2, v3, v4, p5]
  have hsub : sub xs ((f.length : Int) + 7) (x.size : Int) = x := by
    unfold sub
    have e1 : ((f.length : Int) + 7).toNat = (f ++ hdB s d t n x.size).length := by simp [hdB]; omega
    have e2 : xs = (f ++ hdB s d t n x.size) ++ (bl x ++ m) := by rw [hx1, List.append_assoc]
    rw [e1, e2, List.drop_left, Int.toNat_natCast, ← bl_len, List.take_left]
    exact strOf_bl x
  have hlen : (xs.length : Int) - ((f.length : Int) + 7) = x.size + m.length := by
    rw [hx1]; simp [hdB, bl_len]; omega
  unfold endP
  rw [if_neg (by omega), if_neg (by rw [hlen]; omega), hsub, if_pos ⟨h0, h1, h2, h3, h4⟩]
  simp
  omega
/-- What is parsed has these bytes. -/
theorem pkPF_inv {xs : List Int} (hx : ∀ v ∈ xs, 0 ≤ v ∧ v < 256) {s d t n : Int} {x : ByteArray} {to : Int} (h : pkPF xs 0 = .inr ((s, d, t, n, x), to)) :
    PkOk s d t n x ∧ ∃ K : Nat, to = (K : Int) ∧ 7 ≤ K ∧ K ≤ xs.length ∧ pkB s d t n x = xs.take K := by
  have he : ∀ i, i < 5 → pE xs 0 i = 0 := fun i hi => by
    rcases Classical.em (pE xs 0 i = 0) with h9 | h9
    · exact h9
    · exfalso
      induction i using Nat.strongRecOn with
      | _ i ih =>
        rcases Classical.em (∃ j, j < i ∧ pE xs 0 j ≠ 0) with ⟨j, hj, hj2⟩ | hno
        · exact ih j hj (by omega) hj2
        · rw [pkPF_err hi (fun j hj => Classical.byContradiction fun hh => hno ⟨j, hj, hh⟩) h9] at h
          cases h
  rw [pkPF_go he] at h
  obtain ⟨_, p5, hl⟩ := pP_in he
  have b4 := pV_bd hx 0 (j := 4) (by decide)
  have b3 := pV_bd hx 0 (j := 3) (by decide)
  have q0 : pP xs 0 0 = ((0 : Nat) : Int) := rfl
  have a0 := g8_inv hx (K := 0) (n := 1) (he 0 (by decide))
  have q1 : pP xs 0 1 = ((1 : Nat) : Int) := a0.2.1
  have a1 := g8_inv hx (K := 1) (n := 1) (by have := he 1 (by decide); unfold pE at this; rw [q1] at this; exact this)
  have q2 : pP xs 0 2 = ((2 : Nat) : Int) := by rw [pP, q1]; exact a1.2.1
  have a2 := g8_inv hx (K := 2) (n := 1) (by have := he 2 (by decide); unfold pE at this; rw [q2] at this; exact this)
  have q3 : pP xs 0 3 = ((3 : Nat) : Int) := by rw [pP, q2]; exact a2.2.1
  have a3 := g8_inv hx (K := 3) (n := 2) (by have := he 3 (by decide); unfold pE at this; rw [q3] at this; exact this)
  have q4 : pP xs 0 4 = ((5 : Nat) : Int) := by rw [pP, q3]; exact a3.2.1
  have a4 := g8_inv hx (K := 5) (n := 2) (by have := he 4 (by decide); unfold pE at this; rw [q4] at this; exact this)
  have w0 : lo (pV xs 0 0) 1 = (xs.drop 0).take 1 := a0.2.2
  have w1 : lo (pV xs 0 1) 1 = (xs.drop 1).take 1 := by unfold pV; rw [q1]; exact a1.2.2
  have w2 : lo (pV xs 0 2) 1 = (xs.drop 2).take 1 := by unfold pV; rw [q2]; exact a2.2.2
  have w3 : lo (pV xs 0 3) 2 = (xs.drop 3).take 2 := by unfold pV; rw [q3]; exact a3.2.2
  have w4 : lo (pV xs 0 4) 2 = (xs.drop 5).take 2 := by unfold pV; rw [q4]; exact a4.2.2
  generalize pV xs 0 0 = m0 at *
  generalize pV xs 0 1 = m1 at *
  generalize pV xs 0 2 = m2 at *
  generalize pV xs 0 3 = m3 at *
  generalize pV xs 0 4 = m4 at *
  rw [p5] at h
  unfold endP at h
  split at h
  · cases h
  · rename_i k1
    split at h
    · cases h
    · rename_i k2
      split at h
      · rename_i hok
        simp only [Sum.inr.injEq, Prod.mk.injEq] at h
        obtain ⟨⟨rfl, rfl, rfl, rfl, rfl⟩, rfl⟩ := h
        obtain ⟨k, rfl⟩ := Int.eq_ofNat_of_zero_le b4.1
        have hk : 7 + k ≤ xs.length := by omega
        have hsz : (sub xs (0 + 7) (k : Int)).size = k := by unfold sub; exact sub_size hk
        refine ⟨hok, 7 + k, by omega, by omega, hk, ?_⟩
        have hb : bl (sub xs (0 + 7) (k : Int)) = (xs.drop 7).take k := by
          unfold sub
          exact bl_str (fun v hv => hx v (List.drop_subset _ _ (List.take_subset _ _ hv)))
        obtain ⟨o0, o1, o2, o3, -⟩ := hok
        unfold pkB
        rw [hsz, hb]
        have e1 := hd_lo (s := m0) (d := m1) (t := m2) (n := m3) (k := (k : Int)) (by omega) (by omega) o2 o3 ⟨Int.natCast_nonneg _, by omega⟩ ((xs.drop 7).take k)
        rw [e1, w0, w1, w2, w3, w4]
        rw [show xs.take (7 + k) = (xs.drop 0).take (7 + k) by simp]
        have st : ∀ i a b (r : List Int), (xs.drop (i + a)).take b = r → (xs.drop i).take a ++ r = (xs.drop i).take (a + b) := fun i a b r hr => by
          rw [List.take_add, List.drop_drop, ← hr]
        rw [st 5 2 k _ rfl, st 3 2 (2 + k) _ rfl, st 2 1 (2 + (2 + k)) _ rfl, st 1 1 (1 + (2 + (2 + k))) _ rfl, st 0 1 (1 + (1 + (2 + (2 + k)))) _ rfl]
        congr 1
        omega
      · cases h
/-- Two whose bytes begin alike are the same. -/
theorem pk_apart {s d t n : Int} {x : ByteArray} {s' d' t' n' : Int} {x' : ByteArray} 
    (he : (pkB s d t n x).take (min (7 + x.size) (7 + x'.size)) = (pkB s' d' t' n' x').take (min (7 + x.size) (7 + x'.size))) : (s, d, t, n, x) = (s', d', t', n', x') := by
  have h7 : ∀ (a b c e : Int) (y : ByteArray) (k : Nat), 7 ≤ k → ((pkB a b c e y).take k).take 7 = hdB a b c e y.size := fun a b c e y k hk => by
    rw [List.take_take, show min 7 k = 7 by omega]
    unfold pkB
    exact List.take_left' rfl
  have e7 : hdB s d t n x.size = hdB s' d' t' n' x'.size := by
    rw [← h7 s d t n x _ (show 7 ≤ min (7 + x.size) (7 + x'.size) by omega), he, h7 _ _ _ _ _ _ (by omega)]
  simp only [hdB, List.cons.injEq, and_true] at e7
  obtain ⟨rfl, rfl, rfl, e3, e4, e5, e6⟩ := e7
  have en : n = n' := by omega
  have ex : x.size = x'.size := by omega
  subst en
  have hb : bl x = bl x' := by
    have l1 : (pkB s d t n x).take (7 + x.size) = pkB s d t n x := by rw [← pkB_len s d t n x, List.take_length]
    have l2 : (pkB s d t n x').take (7 + x'.size) = pkB s d t n x' := by rw [← pkB_len s d t n x', List.take_length]
    rw [ex, Nat.min_self, l2, ← ex, l1] at he
    unfold pkB at he
    rw [ex] at he
    exact List.append_cancel_left he
  rw [← strOf_bl x, ← strOf_bl x', hb]
#print axioms pkPF_fwd
#print axioms pkPF_inv
#print axioms pk_apart
end Go.Proofs.Yteleedpiadcfjaa
