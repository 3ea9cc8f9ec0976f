/- The comparison of two timers: by their times, then by their keys. -/
import Derived.Test.YtmgipedpggpkoaaMso
import Derived.Test.YtmgipedpggpkoaaMpg
import Derived.Deep.RegionHeld
namespace Go.Proofs.Ytmgipedpggpkoaa
set_option maxRecDepth 100000
open Go.RowKit Go.Sort

theorem ret_int {k : IntKind} {a b : Int} (h : a = b) : Ending.returned (.int k a) = .returned (.int k b) := by rw [h]
theorem isNaN_any (x : Int) (w : World) : Calls Try.prog 35 #[.int .i64 x] w fun e w' => e = .returned (.bool false) ∧ w = w' := by
  go_enter Try.func35, Try.ntmps35
  go_wp2
  go_ret
  exact ⟨rfl, rfl⟩

def cmpI (x y : Int) : Int := if x < y then -1 else if y < x then 1 else 0
theorem cmpI_lt {x y : Int} (h : x < y) : cmpI x y = -1 := by unfold cmpI; rw [if_pos h]
theorem cmpI_gt {x y : Int} (h : y < x) : cmpI x y = 1 := by unfold cmpI; rw [if_neg (by omega), if_pos h]
theorem cmpI_eq {x y : Int} (h : x = y) : cmpI x y = 0 := by unfold cmpI; rw [if_neg (by omega), if_neg (by omega)]
theorem compare_any (x y : Int) (w : World) : Calls Try.prog 30 #[.int .i64 x, .int .i64 y] w fun e w' => e = .returned (.int .i64 (cmpI x y)) ∧ w = w' := by
  rcases Int.lt_trichotomy x y with h | h | h
  · rw [cmpI_lt h]
    go_enter Try.func30, Try.ntmps30
    go_wp2_with (go_at_call 35; refine (isNaN_any _ _).mono ?_; rintro e w' ⟨rfl, rfl⟩)
    go_ret
    exact ⟨rfl, rfl⟩
  · rw [cmpI_eq h]
    subst h
    go_enter Try.func30, Try.ntmps30
    go_wp2_with (go_at_call 35; refine (isNaN_any _ _).mono ?_; rintro e w' ⟨rfl, rfl⟩)
    go_ret
    exact ⟨rfl, rfl⟩
  · rw [cmpI_gt h]
    go_enter Try.func30, Try.ntmps30
    go_wp2_with (go_at_call 35; refine (isNaN_any _ _).mono ?_; rintro e w' ⟨rfl, rfl⟩)
    go_ret
    exact ⟨rfl, rfl⟩

/-- A slice of numbers that reads as xs. -/
def Ints (w : World) (v : Value) (xs : List Int) : Prop :=
  ∃ b, v = .slice (some ⟨b, 0, none⟩) xs.length xs.length ∧ xs.length ≤ 1000 ∧ ∀ i, i < xs.length → w.cell? ⟨b, i, none⟩ = some (.int .i64 (xs.getD i 0))
theorem Ints.below {w w' : World} {v : Value} {xs : List Int} (h : Ints w v xs) (hb : Below w.heap.size w w') : Ints w' v xs := by
  obtain ⟨b, h1, h2, h3⟩ := h
  exact ⟨b, h1, h2, fun i hi => by rw [hb.cell (World.block_lt_of_cell? w _ (h3 i hi))]; exact h3 i hi⟩
def orL : List Int → Int
  | [] => 0
  | x :: xs => if x = 0 then orL xs else x
theorem orL_drop (xs : List Int) (k : Nat) (h : k < xs.length) : orL (xs.drop k) = if xs.getD k 0 = 0 then orL (xs.drop (k + 1)) else xs.getD k 0 := by
  rw [List.drop_eq_getElem_cons h]
  simp [orL, List.getD, h]

theorem or_any (v : Value) (xs : List Int) (w : World) (h : Ints w v xs) : Calls Try.prog 29 #[v] w fun e w' => e = .returned (.int .i64 (orL xs)) ∧ w = w' := by
  obtain ⟨b, rfl, hl, hc⟩ := h
  go_enter Try.func29, Try.ntmps29
  go_wp2
  go_loop [5, 8] (fun _ i => ∃ k : Nat, k ≤ xs.length ∧ i = .int .i64 k ∧ orL xs = orL (xs.drop k)) (fun _ i => xs.length - (intOf i).toNat)
  case atStart => exact ⟨0, Nat.zero_le _, rfl, rfl⟩
  case round =>
    obtain ⟨k, hk, rfl, hor⟩ := hrel
    by_cases hlt : k < xs.length
    · have hck := hc k hlt
      have hd := orL_drop xs k hlt
      generalize xs.getD k 0 = c at *
      rw [← hor] at hd
      have H := Lib.hid hd
      clear hc hd hor
      by_cases h0 : c = 0
      · subst h0
        go_wp2
        go_round
        case rel => exact ⟨k + 1, by omega, by go_num, by rw [H.out, if_pos rfl]⟩
        case measure => simp [intOf]; omega
      · have hne : (c == 0) = false := by simpa using h0
        rw [if_neg h0] at H
        have H0 := Lib.hid h0
        clear h0
        go_wp2
        go_ret
        exact ⟨ret_int H.out.symm, rfl⟩
    · obtain rfl : k = xs.length := by omega
      rw [List.drop_length] at hor
      clear hc
      go_wp2
      go_ret
      exact ⟨ret_int rfl, rfl⟩


theorem ints2 (w : World) (x y : Int) (T : TypeId) (g : Nat) (hg : g = w.heap.size) : Ints (w.alloc (.cells #[.int .i64 x, .int .i64 y] T)) (.slice (some ⟨g, 0, none⟩) 2 2) [x, y] := by
  subst hg
  refine ⟨w.heap.size, rfl, by simp, fun i hi => ?_⟩
  have : i = 0 ∨ i = 1 := by simp at hi; omega
  rcases this with rfl | rfl <;> simp
def cmpT (x y : Tm) : Int := orL [cmpI x.1 y.1, cmpI x.2 y.2]
theorem cmpT_lt : CmpTm cmpT where
  lt x y := by
    unfold cmpT orL orL orL cmpI ltT
    split <;> split <;> (try split) <;> (try split) <;> omega
set_option maxHeartbeats 4000000 in
theorem earlier_any (x y : Tm) (W : World) : Calls Try.prog 28 #[.agg (tmc x).toArray, .agg (tmc y).toArray] W fun e w' => e = .returned (.int .i64 (cmpT x y)) ∧ ∃ q os', w' = grow (W.drewN q) os' := by
  have C1 := fun a b W' => Lib.hid (compare_any a b W')
  have C3 := fun (W' : World) (g : Nat) (hg : g = W'.heap.size) (r1 r2 : Int) => Lib.hid (or_any (.slice (some ⟨g, 0, none⟩) 2 2) [r1, r2] (W'.alloc (.cells #[.int .i64 r1, .int .i64 r2] 3)).drew (show Ints _ _ _ from ints2 W' r1 r2 3 g hg))
  unfold cmpT
  show Calls Try.prog 28 #[.agg #[.int .i64 x.1, .int .i64 x.2], .agg #[.int .i64 y.1, .int .i64 y.2]] W _
  go_enter Try.func28, Try.ntmps28
  go_wp2_with fail
  obtain ⟨W2, hW2⟩ : ∃ W2, (W.alloc (.cells #[.int .i64 x.1, .int .i64 x.2] 32)).alloc (.cells #[.int .i64 y.1, .int .i64 y.2] 32) = W2 := ⟨_, rfl⟩
  have HW := Lib.hid hW2
  have c0 : W2.cell? ⟨W.heap.size, 0, none⟩ = some (.int .i64 x.1) := by rw [← hW2]; simp
  have c1 : W2.cell? ⟨W.heap.size, 1, none⟩ = some (.int .i64 x.2) := by rw [← hW2]; simp
  have c2 : W2.cell? ⟨W.heap.size + 1, 0, none⟩ = some (.int .i64 y.1) := by rw [← hW2]; simp
  have c3 : W2.cell? ⟨W.heap.size + 1, 1, none⟩ = some (.int .i64 y.2) := by rw [← hW2]; simp
  try rw [hW2]
  clear hW2
  go_region_held (fun w' => w'.cell? ⟨W.heap.size, 0, none⟩ = some (.int .i64 x.1) ∧ w'.cell? ⟨W.heap.size, 1, none⟩ = some (.int .i64 x.2) ∧ w'.cell? ⟨W.heap.size + 1, 0, none⟩ = some (.int .i64 y.1) ∧ w'.cell? ⟨W.heap.size + 1, 1, none⟩ = some (.int .i64 y.2)) (first | exact ⟨c0, c1, c2, c3⟩ | go_keep) (first
    | (go_at_call 29; refine (C3 _ _ (by simp) _ _).out.mono ?_; rintro e w' ⟨rfl, rfl⟩)
    | (go_at_call 30; refine (C1 _ _ _).out.mono ?_; rintro e w' ⟨rfl, rfl⟩))
  all_goals try go_wp2_with fail
  all_goals try go_ret
  all_goals first
    | exact ⟨rfl, 1, _, by rw [← HW.out, alloc_eq_grow, alloc_eq_grow, alloc_eq_grow, grow_grow, grow_grow]; rfl⟩
theorem sorts_tm : SortsTm := sortsTm cmpT_lt earlier_any
theorem wc : Wc PWI := wc_of sorts_tm
end Go.Proofs.Ytmgipedpggpkoaa
