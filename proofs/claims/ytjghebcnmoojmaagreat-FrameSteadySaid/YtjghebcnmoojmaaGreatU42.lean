/- Parts one behind the other, as the program reads them; a frame out of bytes. No conditions beyond those of the theorems. -/
import Derived.Test.YtjghebcnmoojmaaGreatU40
namespace Go.Proofs.YtjghebcnmoojmaaGreat
set_option maxRecDepth 100000

def rdOne (xs : List Int) (q : Int) : Option (Pt × Int) :=
 if (numS xs 2 (numS xs 1 (q, 0)).2).2.2 = 0 then (rdAtS xs (numS xs 2 (numS xs 1 (q, 0)).2).2.1 (numS xs 1 (q, 0)).1 (numS xs 2 (numS xs 1 (q, 0)).2).1).map fun p => (p, (numS xs 2 (numS xs 1 (q, 0)).2).2.1 + (numS xs 2 (numS xs 1 (q, 0)).2).1) else none
theorem num_get {xs : List Int} {n : Nat} {p e M s e' : Int} (_ : 1 ≤ n) (_ : n ≤ 7) (h : numS xs n (p, e) = (M, s, e')) (h0 : e' = 0) : e = 0 ∧ 0 ≤ p ∧ p + n ≤ xs.length ∧ s = p + n ∧ M = segN xs p.toNat n := by
 subst h0
 unfold numS at h
 split at h
 ·rename_i he
  simp only at he h
  refine ⟨he, ?_⟩
  unfold getS at h
  split at h
  ·simp at h
  split at h
  ·simp at h
  ·simp only [Prod.mk.injEq, Int.toNat_natCast] at h
   exact ⟨by omega, by omega, by omega, h.1.symm⟩
 ·rename_i he
  simp only [Prod.mk.injEq] at h
  exact absurd h.2.2 he
theorem num_ok9 (xs : List Int) (n : Nat) (p : Nat) (h1 : 1 ≤ n) (h7 : n ≤ 7) (h : p + n ≤ xs.length) : numS xs n ((p : Int), 0) = (segN xs p n, (p : Int) + n, 0) := by
 unfold numS getS
 rw [if_pos rfl, if_neg (by omega), if_neg (by simp only; omega)]
 simp
def rd1 (r : List Int) : Option (Pt × List Int) := if r.length < 3 then none else if r.length - 3 < szR r then none else (rdPart (r.getD 0 0) ((r.drop 3).take (szR r))).map fun p => (p, r.drop (3 + szR r))
theorem drop_getD (xs : List Int) (q i : Nat) : (xs.drop q).getD i 0 = xs.getD (q + i) 0 := by simp [List.getD, List.getElem?_drop]
theorem getD_pos {xs : List Int} (hx : ∀ x ∈ xs, 0 ≤ x ∧ x < 256) (i : Nat) : 0 ≤ xs.getD i 0 ∧ xs.getD i 0 < 256 := by
 by_cases h : i < xs.length
 ·exact getD_byte hx h
 ·rw [List.getD, List.getElem?_eq_none (by omega)]; simp
theorem rdOne_cases {xs : List Int} (hx : ∀ x ∈ xs, 0 ≤ x ∧ x < 256) {q : Nat} (hq : q ≤ xs.length) :
  (rdOne xs q = none ∧ rd1 (xs.drop q) = none) ∨ ∃ (p : Pt) (t : Nat), rdOne xs q = some (p, (t : Int)) ∧ q + 3 ≤ t ∧ t ≤ xs.length ∧ rd1 (xs.drop q) = some (p, xs.drop t) := by
 by_cases h3 : q + 3 ≤ xs.length
 ·have e1 := num_ok9 xs 1 q (by decide) (by decide) (by omega)
  have e2 := num_ok9 xs 2 (q + 1) (by decide) (by decide) (by omega)
  rw [show ((q + 1 : Nat) : Int) = (q : Int) + 1 by omega] at e2
  have hz : szR (xs.drop q) = (segN xs (q + 1) 2).toNat := by
   unfold szR
   rw [drop_getD, drop_getD, seg_two8 (by omega)]
  have hb : 0 ≤ segN xs (q + 1) 2 := by
   have h1 := getD_pos hx (q + 1)
   have h2 := getD_pos hx (q + 1 + 1)
   rw [seg_two8 (by omega)]; omega
  obtain ⟨z, hz2⟩ : ∃ z : Nat, segN xs (q + 1) 2 = z := ⟨(segN xs (q + 1) 2).toNat, by omega⟩
  have ho : rdOne xs q = if (xs.length : Int) - ((q : Int) + 3) < z then none else (rdPart (xs.getD q 0) ((xs.drop (q + 3)).take z)).map fun p => (p, (q : Int) + 3 + z) := by
   unfold rdOne
   rw [show (1 : Int) = ((1 : Nat) : Int) from rfl, show (2 : Int) = ((2 : Nat) : Int) from rfl, e1]
   simp only [show ((1 : Nat) : Int) = 1 from rfl]
   rw [e2]
   simp only [if_true]
   unfold rdAtS
   rw [hz2, seg_one xs q (by omega), show (q : Int) + 1 + ((2 : Nat) : Int) = (q : Int) + 3 by omega, show ((q : Int) + 3).toNat = q + 3 by omega, Int.toNat_natCast]
   split
   ·rfl
   ·rfl
  have hr : rd1 (xs.drop q) = if xs.length - (q + 3) < z then none else (rdPart (xs.getD q 0) ((xs.drop (q + 3)).take z)).map fun p => (p, xs.drop (q + 3 + z)) := by
   unfold rd1
   rw [if_neg (by rw [List.length_drop]; omega), hz, hz2, Int.toNat_natCast, List.length_drop, show xs.length - q - 3 = xs.length - (q + 3) by omega, drop_getD, List.drop_drop, List.drop_drop, show q + (3 + z) = q + 3 + z by omega, Nat.add_zero q]
  rw [ho, hr]
  by_cases hl : xs.length - (q + 3) < z
  ·rw [if_pos (by omega), if_pos hl]; exact .inl ⟨rfl, rfl⟩
  ·rw [if_neg (by omega), if_neg hl]
   cases hp : rdPart (xs.getD q 0) ((xs.drop (q + 3)).take z) with
   | none => exact .inl ⟨rfl, rfl⟩
   | some p => exact .inr ⟨p, q + 3 + z, by simp, by omega, by omega, rfl⟩
 ·refine .inl ⟨?_, ?_⟩
  ·unfold rdOne
   obtain ⟨⟨N1, s1, e1⟩, h1⟩ : ∃ r, numS xs 1 ((q : Int), 0) = r := ⟨_, rfl⟩
   rw [h1]
   simp only
   obtain ⟨⟨N2, s2, e2⟩, h2⟩ : ∃ r, numS xs 2 (s1, e1) = r := ⟨_, rfl⟩
   rw [h2]
   simp only
   rw [if_neg]
   intro h0
   have a := num_get (n := 2) (by decide) (by decide) h2 h0
   have b := num_get (n := 1) (by decide) (by decide) h1 a.1
   omega
  ·unfold rd1
   rw [if_pos (by rw [List.length_drop]; omega)]
theorem rd1_parts {r r' : List Int} {p : Pt} (h : rd1 r = some (p, r')) : rdParts r = (rdParts r').map fun l => p :: l := by
 unfold rd1 at h
 split at h
 ·cases h
 split at h
 ·cases h
 cases hp : rdPart (r.getD 0 0) ((r.drop 3).take (szR r)) with
 | none => rw [hp] at h; cases h
 | some p' =>
  rw [hp] at h
  simp only [Option.map_some, Option.some.injEq, Prod.mk.injEq] at h
  obtain ⟨rfl, rfl⟩ := h
  exact rdParts_step (by omega) (by omega) hp
theorem rd1_no {r : List Int} (h : rd1 r = none) (h0 : r.length ≠ 0) : rdParts r = none := by
 unfold rd1 at h
 split at h
 ·exact rdParts_short h0 (by assumption)
 split at h
 ·exact rdParts_long (by omega) (by assumption)
 cases hp : rdPart (r.getD 0 0) ((r.drop 3).take (szR r)) with
 | none => exact rdParts_no (by omega) (by omega) hp
 | some p' => rw [hp] at h; cases h
def rdN : Nat → List Int → Option (List Pt × List Int)
 | 0, r => some ([], r)
 | n + 1, r => match rdN n r with
  | none => none
  | some (l, r') => match rd1 r' with
   | none => none
   | some (p, r'') => some (l ++ [p], r'')
theorem rdN_none {n : Nat} {r : List Int} (h : rdN n r = none) : rdN (n + 1) r = none := by simp [rdN, h]
theorem rdN_step {n : Nat} {r r' : List Int} {l : List Pt} (h : rdN n r = some (l, r')) (h' : rd1 r' = none) : rdN (n + 1) r = none := by simp [rdN, h, h']
theorem rdN_snoc {n : Nat} {r r' r'' : List Int} {l : List Pt} {p : Pt} (h : rdN n r = some (l, r')) (h' : rd1 r' = some (p, r'')) : rdN (n + 1) r = some (l ++ [p], r'') := by simp [rdN, h, h']
theorem rdN_parts : ∀ (n : Nat) (r r' : List Int) (l : List Pt), rdN n r = some (l, r') → l.length = n ∧ rdParts r = (rdParts r').map fun m => l ++ m
 | 0, r, r', l, h => by
  simp only [rdN, Option.some.injEq, Prod.mk.injEq] at h
  obtain ⟨rfl, rfl⟩ := h
  exact ⟨rfl, by simp⟩
 | n + 1, r, r', l, h => by
  unfold rdN at h
  cases h1 : rdN n r with
  | none => rw [h1] at h; cases h
  | some x =>
   obtain ⟨l1, r1⟩ := x
   rw [h1] at h
   simp only at h
   cases h2 : rd1 r1 with
   | none => rw [h2] at h; cases h
   | some y =>
    obtain ⟨p, r2⟩ := y
    rw [h2] at h
    simp only [Option.some.injEq, Prod.mk.injEq] at h
    obtain ⟨rfl, rfl⟩ := h
    obtain ⟨a, b⟩ := rdN_parts n r r1 l1 h1
    refine ⟨by simp [a], ?_⟩
    rw [b, rd1_parts h2, Option.map_map]
    congr 1
    funext m
    simp
theorem rdN_fwd {r : List Int} {ps : List Pt} (h : rdParts r = some ps) : ∀ k, k ≤ ps.length → ∃ r', rdN k r = some (ps.take k, r') ∧ rdParts r' = some (ps.drop k)
 | 0, _ => ⟨r, rfl, h⟩
 | k + 1, hk => by
  obtain ⟨r', h1, h2⟩ := rdN_fwd h k (by omega)
  have hd : ps.drop k = ps[k] :: ps.drop (k + 1) := List.drop_eq_getElem_cons (by omega)
  rw [hd] at h2
  cases h3 : rd1 r' with
  | none =>
   by_cases h0 : r'.length = 0
   ·have e : r' = [] := List.length_eq_zero_iff.1 h0
    rw [e, rdParts_nil] at h2
    cases h2
   ·rw [rd1_no h3 h0] at h2; cases h2
  | some y =>
   obtain ⟨p, r2⟩ := y
   rw [rd1_parts h3] at h2
   cases h4 : rdParts r2 with
   | none => rw [h4] at h2; cases h2
   | some t =>
    rw [h4] at h2
    simp only [Option.map_some, Option.some.injEq, List.cons.injEq] at h2
    obtain ⟨rfl, rfl⟩ := h2
    refine ⟨r2, ?_, h4⟩
    rw [rdN_snoc h1 h3, List.take_succ_eq_append_getElem (by omega)]
theorem ck_ok {xs : List Int} (h : ckE xs = 0) : 17 ≤ xs.length ∧ frPF xs = match rdParts ((xs.drop 15).take (xs.length - 17)) with
  | none => .inl 4
  | some ps => if (ps.length : Int) = xs.getD 14 0 ∧ FrOk (xs.getD 2 0) (segN xs 4 4) (xs.getD 3 0) (segN xs 8 4) ps then .inr ⟨xs.getD 2 0, segN xs 4 4, xs.getD 3 0, segN xs 8 4, ps⟩ else .inl 4 := by
 unfold ckE at h
 split at h
 ·simp at h
 split at h
 ·simp at h
 split at h
 ·simp at h
 split at h
 ·simp at h
 split at h
 ·simp at h
 rename_i h1 h2 h3 h4 h5
 refine ⟨by omega, ?_⟩
 unfold frPF
 rw [if_neg h1, if_neg h2, if_neg h3, if_neg h4, if_neg h5]
 rfl
theorem ck_no {xs : List Int} (h : ckE xs ≠ 0) : frPF xs = .inl (ckE xs) := by
 unfold ckE at h ⊢
 unfold frPF
 split
 ·rfl
 split
 ·rfl
 split
 ·rfl
 split
 ·rfl
 split
 ·rfl
 rename_i h1 h2 h3 h4 h5
 rw [if_neg h1, if_neg h2, if_neg h3, if_neg h4, if_neg h5] at h
 exact absurd rfl h
def frR (xs : List Int) : List Int := (xs.drop 15).take (xs.length - 17)
theorem frR_in (xs : List Int) : (xs.take (xs.length - 2)).drop 15 = frR xs := by
 unfold frR
 rw [List.drop_take, show xs.length - 2 - 15 = xs.length - 17 by omega]
theorem parse_ok9 {xs : List Int} {c : Nat} {ps : List Pt} (hk : ckE xs = 0) (hc : xs.getD 14 0 = c) (hr : rdN c (frR xs) = some (ps, [])) (ho : FrOk (xs.getD 2 0) (segN xs 4 4) (xs.getD 3 0) (segN xs 8 4) ps) : frPF xs = .inr ⟨xs.getD 2 0, segN xs 4 4, xs.getD 3 0, segN xs 8 4, ps⟩ := by
 obtain ⟨h1, h2⟩ := ck_ok hk
 obtain ⟨a, b⟩ := rdN_parts _ _ _ _ hr
 rw [rdParts_nil] at b
 have e : rdParts ((xs.drop 15).take (xs.length - 17)) = some ps := by rw [show (xs.drop 15).take (xs.length - 17) = frR xs from rfl, b]; simp
 rw [h2, e]
 simp only
 rw [if_pos ⟨by rw [hc, a], ho⟩]
theorem parse_no9 {xs : List Int} {c : Nat} (hk : ckE xs = 0) (hc : xs.getD 14 0 = c) (hr : ∀ ps, rdN c (frR xs) = some (ps, []) → ¬ FrOk (xs.getD 2 0) (segN xs 4 4) (xs.getD 3 0) (segN xs 8 4) ps) : frPF xs = .inl 4 := by
 obtain ⟨h1, h2⟩ := ck_ok hk
 rw [h2]
 cases e : rdParts ((xs.drop 15).take (xs.length - 17)) with
 | none => rfl
 | some ps =>
  simp only
  rw [if_neg]
  rintro ⟨hl, ho⟩
  obtain ⟨r', h3, h4⟩ := rdN_fwd (show rdParts (frR xs) = some ps from e) c (by omega)
  have hl2 : ps.length = c := by omega
  rw [← hl2, List.drop_length] at h4
  rw [← hl2, List.take_length, hl2] at h3
  have h5 : r' = [] := by
   by_cases h0 : r'.length = 0
   ·exact List.length_eq_zero_iff.1 h0
   ·cases h6 : rd1 r' with
    | none => rw [rd1_no h6 h0] at h4; cases h4
    | some y =>
     obtain ⟨p, r2⟩ := y
     rw [rd1_parts h6] at h4
     cases h7 : rdParts r2 with
     | none => rw [h7] at h4; cases h4
     | some t => rw [h7] at h4; simp at h4
  subst h5
  exact hr ps h3 ho
end Go.Proofs.YtjghebcnmoojmaaGreat
