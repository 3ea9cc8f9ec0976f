/- Numbers one behind the other: cmp.Compare, cmp.Or, the reference's compare. No conditions. -/
import Derived.Test.YtmimgpnogjgliaaHt
namespace Go.Proofs.Ytmimgpnogjgliaa
set_option maxRecDepth 100000
open Go.RowKit Go.Sort

theorem bel_drewN {B : Nat} {a w : World} (h : Below B a w) (n : Nat) : Below B a (w.drewN n) := ⟨h.os, h.tape, h.output, h.size, h.block⟩
theorem isNaN_any (x : Int) (w : World) : Calls Try.prog 60 #[.int .i64 x] w fun e w' => e = .returned (.bool false) ∧ w = w' := by
  go_enter Try.func60, Try.ntmps60
  go_wp2
  go_ret
  exact ⟨rfl, rfl⟩
def cmpI (x y : Int) : Int := if x < y then -1 else if y < x then 1 else 0
theorem cmpI_lt {x y : Int} (h : x < y) : cmpI x y = -1 := by unfold cmpI; rw [if_pos h]
theorem cmpI_gt {x y : Int} (h : y < x) : cmpI x y = 1 := by unfold cmpI; rw [if_neg (by omega), if_pos h]
theorem cmpI_eq {x y : Int} (h : x = y) : cmpI x y = 0 := by unfold cmpI; rw [if_neg (by omega), if_neg (by omega)]
theorem compare_any (x y : Int) (w : World) : Calls Try.prog 47 #[.int .i64 x, .int .i64 y] w fun e w' => e = .returned (.int .i64 (cmpI x y)) ∧ w = w' := by
  rcases Int.lt_trichotomy x y with h | h | h
  · rw [cmpI_lt h]
    go_enter Try.func47, Try.ntmps47
    go_wp2_with (go_at_call 60; refine (isNaN_any _ _).mono ?_; rintro e w' ⟨rfl, rfl⟩)
    go_ret
    exact ⟨rfl, rfl⟩
  · rw [cmpI_eq h]
    subst h
    go_enter Try.func47, Try.ntmps47
    go_wp2_with (go_at_call 60; refine (isNaN_any _ _).mono ?_; rintro e w' ⟨rfl, rfl⟩)
    go_ret
    exact ⟨rfl, rfl⟩
  · rw [cmpI_gt h]
    go_enter Try.func47, Try.ntmps47
    go_wp2_with (go_at_call 60; refine (isNaN_any _ _).mono ?_; rintro e w' ⟨rfl, rfl⟩)
    go_ret
    exact ⟨rfl, rfl⟩
/-- A slice of numbers that reads as xs. -/
def Ints (w : World) (v : Value) (xs : List Int) : Prop :=
  ∃ b, v = .slice (some ⟨b, 0, none⟩) xs.length xs.length ∧ xs.length ≤ 1000 ∧ ∀ i, i < xs.length → w.cell? ⟨b, i, none⟩ = some (.int .i64 (xs.getD i 0))
theorem Ints.below {w w' : World} {v : Value} {xs : List Int} (h : Ints w v xs) (hb : Below w.heap.size w w') : Ints w' v xs := by
  obtain ⟨b, h1, h2, h3⟩ := h
  exact ⟨b, h1, h2, fun i hi => by rw [hb.cell (World.block_lt_of_cell? w _ (h3 i hi))]; exact h3 i hi⟩
theorem ints3 (w : World) (x y z : Int) (T : TypeId) (g : Nat) (hg : g = w.heap.size) : Ints (w.alloc (.cells #[.int .i64 x, .int .i64 y, .int .i64 z] T)) (.slice (some ⟨g, 0, none⟩) 3 3) [x, y, z] := by
  subst hg
  refine ⟨w.heap.size, rfl, by simp, fun i hi => ?_⟩
  have : i = 0 ∨ i = 1 ∨ i = 2 := by simp at hi; omega
  rcases this with rfl | rfl | rfl <;> simp
theorem ints5 (w : World) (x y z u v : Int) (T : TypeId) (g : Nat) (hg : g = w.heap.size) : Ints (w.alloc (.cells #[.int .i64 x, .int .i64 y, .int .i64 z, .int .i64 u, .int .i64 v] T)) (.slice (some ⟨g, 0, none⟩) 5 5) [x, y, z, u, v] := by
  subst hg
  refine ⟨w.heap.size, rfl, by simp, fun i hi => ?_⟩
  have : i = 0 ∨ i = 1 ∨ i = 2 ∨ i = 3 ∨ i = 4 := by simp at hi; omega
  rcases this with rfl | rfl | rfl | rfl | rfl <;> simp
def orL : List Int → Int
  | [] => 0
  | x :: xs => if x = 0 then orL xs else x
theorem orL_drop (xs : List Int) (k : Nat) (h : k < xs.length) : orL (xs.drop k) = if xs.getD k 0 = 0 then orL (xs.drop (k + 1)) else xs.getD k 0 := by
  rw [List.drop_eq_getElem_cons h]
  simp [orL, List.getD, h]
theorem or_any (v : Value) (xs : List Int) (w : World) (h : Ints w v xs) : Calls Try.prog 46 #[v] w fun e w' => e = .returned (.int .i64 (orL xs)) ∧ w = w' := by
  obtain ⟨b, rfl, hl, hc⟩ := h
  go_enter Try.func46, Try.ntmps46
  go_wp2
  go_loop [5, 8] (fun _ i => ∃ k : Nat, k ≤ xs.length ∧ i = .int .i64 k ∧ orL xs = orL (xs.drop k)) (fun _ i => xs.length - (intOf i).toNat)
  case atStart => exact ⟨0, Nat.zero_le _, rfl, rfl⟩
  case round =>
    obtain ⟨k, hk, rfl, hor⟩ := hrel
    by_cases hlt : k < xs.length
    · have hck := hc k hlt
      have hd := orL_drop xs k hlt
      generalize xs.getD k 0 = c at *
      rw [← hor] at hd
      have H := Lib.hid hd
      clear hc hd hor
      by_cases h0 : c = 0
      · subst h0
        go_wp2
        go_round
        case rel => exact ⟨k + 1, by omega, by go_num, by rw [H.out, if_pos rfl]⟩
        case measure => simp [intOf]; omega
      · have hne : (c == 0) = false := by simpa using h0
        rw [if_neg h0] at H
        have H0 := Lib.hid h0
        clear h0
        go_wp2
        go_ret
        exact ⟨ret_int H.out.symm, rfl⟩
    · obtain rfl : k = xs.length := by omega
      rw [List.drop_length] at hor
      clear hc
      go_wp2
      go_ret
      exact ⟨ret_int rfl, rfl⟩
def cmpL : List Int → List Int → Int
  | x :: xs, y :: ys => if x < y then -1 else if y < x then 1 else cmpL xs ys
  | _, _ => 0
theorem cmpL_drop (xs ys : List Int) (k : Nat) (h : k < xs.length) (h' : k < ys.length) : cmpL (xs.drop k) (ys.drop k) = if xs.getD k 0 < ys.getD k 0 then -1 else if ys.getD k 0 < xs.getD k 0 then 1 else cmpL (xs.drop (k + 1)) (ys.drop (k + 1)) := by
  rw [List.drop_eq_getElem_cons h, List.drop_eq_getElem_cons h']
  simp [cmpL, List.getD, h, h']
set_option maxHeartbeats 1000000 in
theorem rcompare_any (v u : Value) (xs ys : List Int) (w : World) (h : Ints w v xs) (h' : Ints w u ys) (he : xs.length = ys.length) :
    Calls Try.prog 55 #[v, u] w fun e w' => e = .returned (.int .i64 (cmpL xs ys)) ∧ Below w.heap.size w w' := by
  obtain ⟨b, rfl, hl, hc⟩ := h
  obtain ⟨b', rfl, hl', hc'⟩ := h'
  have HE := Lib.hid he
  rw [← he]
  clear he
  go_enter Try.func55, Try.ntmps55
  go_wp2
  go_loopw [5] (fun i wr => ∃ k : Nat, k ≤ xs.length ∧ i = .int .i64 k ∧ cmpL xs ys = cmpL (xs.drop k) (ys.drop k) ∧ Below w.heap.size w wr) (fun i _ => xs.length - (intOf i).toNat)
  case atStart => exact ⟨0, Nat.zero_le _, rfl, rfl, Below.refl _ _⟩
  case round =>
    obtain ⟨k, hk, rfl, hor, hbel⟩ := hrel
    have HB := Lib.hid hbel
    by_cases hlt : k < xs.length
    · have hck : wr.cell? ⟨b, k, none⟩ = some (.int .i64 (xs.getD k 0)) := by rw [hbel.cell (World.block_lt_of_cell? w _ (hc k hlt))]; exact hc k hlt
      have hlt' : k < ys.length := by have := HE.out; omega
      have hck' : wr.cell? ⟨b', k, none⟩ = some (.int .i64 (ys.getD k 0)) := by rw [hbel.cell (World.block_lt_of_cell? w _ (hc' k hlt'))]; exact hc' k hlt'
      have hd := cmpL_drop xs ys k hlt hlt'
      generalize xs.getD k 0 = c at *
      generalize ys.getD k 0 = c' at *
      rw [← hor] at hd
      have H := Lib.hid hd
      have hi : (k : Int) < (xs.length : Int) := by omega
      clear hc hc' hd hor hbel
      rcases Int.lt_trichotomy c c' with h0 | h0 | h0
      · rw [if_pos h0] at H
        go_wp2
        go_quiet (fail)
        go_wp2
        go_ret
        exact ⟨ret_int H.out.symm, bel_drewN HB.out _⟩
      · subst h0
        rw [if_neg (by omega), if_neg (by omega)] at H
        go_wp2
        go_quiet (fail)
        go_wp2
        go_quiet (fail)
        go_wp2
        go_roundw
        case rel => exact ⟨k + 1, by omega, by go_num, H.out, bel_drewN HB.out _⟩
        case measure => simp [intOf]; omega
      · rw [if_neg (by omega), if_pos h0] at H
        go_wp2
        go_quiet (fail)
        go_wp2
        go_quiet (fail)
        go_wp2
        go_ret
        exact ⟨ret_int H.out.symm, bel_drewN (bel_drewN HB.out _) _⟩
    · obtain rfl : k = xs.length := by omega
      rw [List.drop_length] at hor
      clear hc hc' hbel
      go_wp2
      go_ret
      exact ⟨ret_int (by rw [hor]; rfl), HB.out⟩
theorem or_cmp3 (t o r t' o' r' : Int) : orL [cmpI t t', cmpI o o', cmpI r r'] = cmpL [t, o, r] [t', o', r'] := by
  unfold cmpI
  simp only [orL, cmpL]
  repeat' split
  all_goals first | rfl | omega
end Go.Proofs.Ytmimgpnogjgliaa

