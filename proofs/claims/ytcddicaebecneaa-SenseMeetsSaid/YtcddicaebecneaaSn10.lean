/- Mathematics of sensors: two that hear one another; what is refused. No walks. -/
import Derived.Test.YtcddicaebecneaaSn9
namespace Go.Proofs.Ytcddicaebecneaa
set_option maxRecDepth 100000

/-- One alone is remembered. -/
def L1 (i : Nat) (z : Hd) : List Hd := (List.replicate 64 zHd).set i z
theorem l1_at (i : Nat) (z : Hd) (hi : i < 64) (k : Nat) : (L1 i z).getD k zHd = if i = k then z else zHd := by
  unfold L1
  by_cases e : i = k
  · subst e
    rw [if_pos rfl]
    have : i < (List.replicate 64 zHd).length := by rw [List.length_replicate]; exact hi
    simp only [List.getD]
    rw [List.getElem?_set_self this]
    rfl
  · rw [if_neg e]
    simp only [List.getD]
    rw [List.getElem?_set_ne e]
    exact rep_at 64 k
theorem l1_set (i : Nat) (y z : Hd) : (L1 i y).set i z = L1 i z := by unfold L1; rw [List.set_set]
theorem l1_len (i : Nat) (z : Hd) : (L1 i z).length = 64 := by unfold L1; rw [List.length_set, List.length_replicate]
theorem ech_zero (f : Hd → Bool) (hf : f zHd = false) (k : Nat) : echF f (List.replicate 64 zHd) k = [] := by
  induction k with
  | zero => rfl
  | succ k ih =>
    show echF f _ k ++ (if f ((List.replicate 64 zHd).getD k zHd) = true then _ else []) = []
    rw [ih, rep_at, if_neg (by rw [hf]; decide)]
    rfl
theorem ech_one (f : Hd → Bool) (hf : f zHd = false) (i : Nat) (hi : i < 64) (z : Hd) : echF f (L1 i z) 64 = if f z = true then [((i : Int), z.2.1)] else [] := by
  have key : ∀ k, echF f (L1 i z) k = if i < k ∧ f z = true then [((i : Int), z.2.1)] else [] := by
    intro k
    induction k with
    | zero => rw [if_neg (fun h => absurd h.1 (Nat.not_lt_zero _))]; rfl
    | succ k ih =>
      show echF f (L1 i z) k ++ (if f ((L1 i z).getD k zHd) = true then [((k : Int), ((L1 i z).getD k zHd).2.1)] else []) = _
      rw [ih, l1_at i z hi k]
      by_cases e : i = k
      · subst e
        rw [if_neg (fun h => absurd h.1 (Nat.lt_irrefl _)), if_pos rfl]
        by_cases h : f z = true
        · rw [if_pos h, if_pos ⟨Nat.lt_succ_self _, h⟩]; rfl
        · rw [if_neg h, if_neg (fun g => h g.2)]; rfl
      · have hz : ¬ f zHd = true := by rw [hf]; decide
        rw [if_neg e, if_neg hz, List.append_nil]
        by_cases h : i < k ∧ f z = true
        · rw [if_pos h, if_pos ⟨by omega, h.2⟩]
        · rw [if_neg h, if_neg (fun g => h ⟨by omega, g.2⟩)]
  rw [key 64]
  by_cases h : f z = true
  · rw [if_pos h, if_pos ⟨hi, h⟩]
  · rw [if_neg h, if_neg (fun g => h g.2)]
theorem gon_zero (now hold : Int) : gon now hold zHd = false := rfl
theorem tkO_one (now hold : Int) (i : Nat) (hi : i < 64) (z : Hd) : tkO now hold (L1 i z) 64 = if gon now hold z = true ∧ z.2.2.2 = true then [(2, (i : Int), z.2.1)] else [] := by
  have key : ∀ k, tkO now hold (L1 i z) k = if i < k ∧ gon now hold z = true ∧ z.2.2.2 = true then [(2, (i : Int), z.2.1)] else [] := by
    intro k
    induction k with
    | zero => rw [if_neg (fun h => absurd h.1 (Nat.not_lt_zero _))]; rfl
    | succ k ih =>
      show tkO now hold (L1 i z) k ++ (if gon now hold ((L1 i z).getD k zHd) = true ∧ ((L1 i z).getD k zHd).2.2.2 = true then [(2, (k : Int), ((L1 i z).getD k zHd).2.1)] else []) = _
      rw [ih, l1_at i z hi k]
      by_cases e : i = k
      · subst e
        rw [if_neg (fun h => absurd h.1 (Nat.lt_irrefl _)), if_pos rfl]
        by_cases h : gon now hold z = true ∧ z.2.2.2 = true
        · rw [if_pos h, if_pos ⟨Nat.lt_succ_self _, h⟩]; rfl
        · rw [if_neg h, if_neg (fun g => h g.2)]; rfl
      · have hz : ¬ (gon now hold zHd = true ∧ zHd.2.2.2 = true) := fun h => by cases h.2
        rw [if_neg e, if_neg hz, List.append_nil]
        by_cases h : i < k ∧ gon now hold z = true ∧ z.2.2.2 = true
        · rw [if_pos h, if_pos ⟨by omega, h.2⟩]
        · rw [if_neg h, if_neg (fun g => h ⟨by omega, g.2⟩)]
  rw [key 64]
  by_cases h : gon now hold z = true ∧ z.2.2.2 = true
  · rw [if_pos h, if_pos ⟨hi, h⟩]
  · rw [if_neg h, if_neg (fun g => h g.2)]
theorem tkL_one (now hold : Int) (i : Nat) (hi : i < 64) (z : Hd) : tkL now hold (L1 i z) 64 = L1 i (frg now hold z) := by
  have hl := l1_len i z
  refine List.ext_getElem ?_ fun j h1 h2 => ?_
  · unfold tkL
    rw [List.length_append, List.length_map, List.length_take, List.length_drop, hl, l1_len]
    rfl
  · have hj : j < 64 := by rw [l1_len] at h2; exact h2
    have e1 := tkL_get now hold (L1 i z) hl j hj
    rw [l1_at i z hi j] at e1
    have e2 := l1_at i (frg now hold z) hi j
    simp only [List.getD, List.getElem?_eq_getElem h1, List.getElem?_eq_getElem h2, Option.getD_some] at e1 e2
    rw [e1, e2]
    by_cases e : i = j
    · rw [if_pos e, if_pos e]
    · rw [if_neg e, if_neg e]; rfl
/-- A beacon that one who has remembered no one hears. -/
theorem hear_first {s : Sn} {fr M : Int} {ys : List (Int × Int)} (hL : s.L = List.replicate 64 zHd) (hok : okH s 0 fr M ys) :
    hearR s 0 fr M ys = (if seesB s ys = true then [(1, fr, M)] else [], 0, { s with now := 0, L := L1 fr.toNat (true, M, 0, seesB s ys) }) := by
  have hz : hdAt s fr = zHd := by unfold hdAt; rw [hL]; exact rep_at 64 _
  unfold hearR
  rw [if_pos hok, hz, if_neg (show ¬ old1 zHd M = true from fun h => by cases h), hL]
  cases seesB s ys <;> rfl
/-- .. and one who remembers it, with no link. -/
theorem hear_again {s : Sn} {fr M : Int} {ys : List (Int × Int)} (h0 : 0 ≤ fr) (h1 : fr < 64) (hL : s.L = L1 fr.toNat (true, M, 0, false)) (hok : okH s 0 fr M ys) :
    hearR s 0 fr M ys = (if seesB s ys = true then [(1, fr, M)] else [], 0, { s with now := 0, L := L1 fr.toNat (true, M, 0, seesB s ys) }) := by
  have hz : hdAt s fr = (true, M, 0, false) := by unfold hdAt; rw [hL, l1_at _ _ (by omega), if_pos rfl]
  have e1 : old1 (true, M, 0, false) M = false := by unfold old1; rw [decide_eq_false (Int.lt_irrefl M)]; rfl
  have e2 : dn1 (true, M, 0, false) M = false := by unfold dn1; rw [decide_eq_false (Int.lt_irrefl M)]; rfl
  unfold hearR
  rw [if_pos hok, hz, if_neg (by rw [e1]; decide), hL, l1_set]
  unfold out1 th1
  rw [if_neg (by rw [e2]; decide), if_neg (by rw [e2]; decide)]
  cases seesB s ys <;> rfl
/-- What is refused turns nothing. -/
theorem keeps_hear {s : Sn} {now fr M : Int} {ys : List (Int × Int)} (h : (hearR s now fr M ys).2.1 ≠ 0) : (hearR s now fr M ys).1 = [] ∧ (hearR s now fr M ys).2.2 = s := by
  rcases hearR_cases s now fr M ys with e | e | ⟨_, _, e⟩
  · rw [e]; exact ⟨rfl, rfl⟩
  · rw [e]; exact ⟨rfl, rfl⟩
  · rw [e] at h; exact absurd rfl h
theorem keeps_tick {s : Sn} {now : Int} (h : tickE s now ≠ 0) : tickO s now = [] ∧ tickS s now = s := by
  unfold tickE at h
  unfold tickO tickS
  cases ht : tmB s now with
  | true => rw [ht] at h; exact absurd rfl h
  | false => exact ⟨rfl, rfl⟩
end Go.Proofs.Ytcddicaebecneaa
