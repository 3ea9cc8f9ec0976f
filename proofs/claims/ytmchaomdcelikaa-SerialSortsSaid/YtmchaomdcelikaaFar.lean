/- Next, Far, Less, Within: the program's and the reference's. No conditions. -/
import Derived.Test.YtmchaomdcelikaaBase
namespace Go.Proofs.Ytmchaomdcelikaa
open Go.RowKit

def far (a b : Int) : Int := (b - a) % 65536
def nxt (a : Int) : Int := (a + 1) % 65536
def lessB (a b : Int) : Bool := decide (0 < far a b) && decide (far a b < 32768)
def withB (a f s : Int) : Bool := decide (far f a < s)
theorem far_bd (a b : Int) : 0 ≤ far a b ∧ far a b < 65536 := by unfold far; omega
theorem nxt_bd (a : Int) : 0 ≤ nxt a ∧ nxt a < 65536 := by unfold nxt; omega

theorem next_any (a : Int) (w : World) : Calls Try.prog 11 #[.int .i64 a] w fun e w' => e = .returned (.int .i64 (nxt a)) ∧ Below w.heap.size w w' := by
  go_enter Try.func11, Try.ntmps11
  go_wp2_with (go_at_call 23; refine (and_any 1 _ [a] _ (by omega) (by omega) (is_lit w [a] 3 _ 1 rfl rfl (by simp) _ rfl)).mono ?_; rintro e w' ⟨rfl, rfl⟩)
  go_ret
  exact ⟨ret_int (by simp [nxt]; omega), (Below.refl _ w).alloc (Nat.le_refl _) _⟩

theorem far_any (a b : Int) (w : World) : Calls Try.prog 13 #[.int .i64 a, .int .i64 b] w fun e w' => e = .returned (.int .i64 (far a b)) ∧ Below w.heap.size w w' := by
  go_enter Try.func13, Try.ntmps13
  go_wp2_with (go_at_call 23; refine (and_any 0 _ [b, wrap64 (-a)] _ (by omega) (by omega) (is_lit w [b, wrap64 (-a)] 3 _ 2 rfl rfl (by simp) _ rfl)).mono ?_; rintro e w' ⟨rfl, rfl⟩)
  go_ret
  exact ⟨ret_int (by unfold far wrap64; omega), (Below.refl _ w).alloc (Nat.le_refl _) _⟩

theorem less_any (a b : Int) (w : World) : Calls Try.prog 15 #[.int .i64 a, .int .i64 b] w fun e w' => e = .returned (.bool (lessB a b)) ∧ Below w.heap.size w w' := by
  unfold lessB
  generalize hc : far a b = c
  have HC := Lib.hid hc
  clear hc
  by_cases h0 : 0 < c
  · by_cases h1 : c < 32768
    · rw [decide_eq_true h0, decide_eq_true h1]
      go_enter Try.func15, Try.ntmps15
      go_wp2_with (go_at_call 13; refine (far_any a b _).mono ?_; rintro e w' ⟨rfl, hb⟩; rw [HC.out])
      go_ret
      exact ⟨rfl, hb⟩
    · rw [decide_eq_true h0, decide_eq_false h1]
      have h1' : decide (c < 32768) = false := decide_eq_false h1
      go_enter Try.func15, Try.ntmps15
      go_wp2_with (go_at_call 13; refine (far_any a b _).mono ?_; rintro e w' ⟨rfl, hb⟩; rw [HC.out])
      go_ret
      exact ⟨rfl, hb⟩
  · rw [decide_eq_false h0]
    have h0' : decide (0 < c) = false := decide_eq_false h0
    go_enter Try.func15, Try.ntmps15
    go_wp2_with (go_at_call 13; refine (far_any a b _).mono ?_; rintro e w' ⟨rfl, hb⟩; rw [HC.out])
    go_ret
    exact ⟨rfl, hb⟩

theorem within_any (a f s : Int) (w : World) : Calls Try.prog 17 #[.int .i64 a, .int .i64 f, .int .i64 s] w fun e w' => e = .returned (.bool (withB a f s)) ∧ Below w.heap.size w w' := by
  unfold withB
  generalize hc : far f a = c
  have HC := Lib.hid hc
  clear hc
  go_enter Try.func17, Try.ntmps17
  go_wp2_with (go_at_call 13; refine (far_any f a _).mono ?_; rintro e w' ⟨rfl, hb⟩; rw [HC.out])
  go_ret
  exact ⟨rfl, hb⟩

def left (a : Int) : Int := a % 65536
theorem left_any (a : Int) (w : World) : Calls Try.prog 24 #[.int .i64 a] w fun e w' => e = .returned (.int .i64 (left a)) ∧ w = w' := by
  have h1 : -65536 < a.tmod 65536 ∧ a.tmod 65536 < 65536 := by
    rcases Int.lt_or_le a 0 with h | h
    · have := Int.neg_tmod (-a) 65536
      have h2 := Int.tmod_eq_emod_of_nonneg (a := -a) (b := 65536) (by omega)
      rw [Int.neg_neg] at this
      omega
    · rw [Int.tmod_eq_emod_of_nonneg h]; omega
  have h2 : left a = if a.tmod 65536 < 0 then a.tmod 65536 + 65536 else a.tmod 65536 := by
    have h3 := Int.mul_tdiv_add_tmod a 65536
    unfold left
    generalize a.tmod 65536 = m at *
    generalize a.tdiv 65536 = q at *
    split <;> omega
  rw [h2]
  clear h2
  by_cases hm : a.tmod 65536 < 0
  · rw [if_pos hm]
    go_enter Try.func24, Try.ntmps24
    go_wp2
    go_ret
    exact ⟨rfl, rfl⟩
  · rw [if_neg hm]
    have hm' : decide (a.tmod 65536 < 0) = false := decide_eq_false hm
    go_enter Try.func24, Try.ntmps24
    go_wp2
    go_ret
    exact ⟨rfl, rfl⟩

theorem left_bd (a : Int) : 0 ≤ left a ∧ left a < 65536 := by unfold left; omega
theorem rnext_any (a : Int) (w : World) : Calls Try.prog 12 #[.int .i64 a] w fun e w' => e = .returned (.int .i64 (nxt a)) ∧ w = w' := by
  have h2 : (left a + 1).tmod 65536 = nxt a := by
    have := left_bd a
    rw [Int.tmod_eq_emod_of_nonneg (by omega)]
    unfold left nxt; omega
  have hb := left_bd a
  have h3 : wrap64 (left a + 1) = left a + 1 := by unfold wrap64; omega
  have h4 := nxt_bd a
  go_enter Try.func12, Try.ntmps12
  go_wp2_with (go_at_call 24; refine (left_any a _).mono ?_; rintro e w' ⟨rfl, rfl⟩)
  go_ret
  exact ⟨ret_int (by first | assumption | (unfold wrap64; omega) | omega), rfl⟩

theorem left_far (a b : Int) : left (left b - left a) = far a b := by unfold left far; omega
theorem rfar_any (a b : Int) (w : World) : Calls Try.prog 14 #[.int .i64 a, .int .i64 b] w fun e w' => e = .returned (.int .i64 (far a b)) ∧ w = w' := by
  have ha := left_bd a
  have hb := left_bd b
  go_enter Try.func14, Try.ntmps14
  go_wp2_with (go_at_call 24; refine (left_any _ _).mono ?_; rintro e w' ⟨rfl, rfl⟩)
  go_ret
  exact ⟨ret_int (by first | exact left_far a b | (rw [← left_far]; congr 1; unfold wrap64; omega)), rfl⟩

theorem rless_any (a b : Int) (w : World) : Calls Try.prog 16 #[.int .i64 a, .int .i64 b] w fun e w' => e = .returned (.bool (lessB a b)) ∧ w = w' := by
  unfold lessB
  have hb := far_bd a b
  generalize hc : far a b = c at *
  have HC := Lib.hid hc
  clear hc
  by_cases h0 : 0 < c
  · have h0' : (1 : Int) ≤ c := h0
    by_cases h1 : c < 32768
    · rw [decide_eq_true h0, decide_eq_true h1]
      have h1' : c ≤ 32767 := by omega
      go_enter Try.func16, Try.ntmps16
      go_wp2_with (go_at_call 14; refine (rfar_any a b _).mono ?_; rintro e w' ⟨rfl, rfl⟩; rw [HC.out])
      go_ret
      exact ⟨rfl, rfl⟩
    · rw [decide_eq_true h0, decide_eq_false h1]
      have h1' : decide (c ≤ 32767) = false := decide_eq_false (by omega)
      go_enter Try.func16, Try.ntmps16
      go_wp2_with (go_at_call 14; refine (rfar_any a b _).mono ?_; rintro e w' ⟨rfl, rfl⟩; rw [HC.out])
      go_ret
      exact ⟨rfl, rfl⟩
  · rw [decide_eq_false h0]
    have h0' : decide (1 ≤ c) = false := decide_eq_false (by omega)
    go_enter Try.func16, Try.ntmps16
    go_wp2_with (go_at_call 14; refine (rfar_any a b _).mono ?_; rintro e w' ⟨rfl, rfl⟩; rw [HC.out])
    go_ret
    exact ⟨rfl, rfl⟩

theorem rwithin_any (a f s : Int) (w : World) : Calls Try.prog 18 #[.int .i64 a, .int .i64 f, .int .i64 s] w fun e w' => e = .returned (.bool (withB a f s)) ∧ w = w' := by
  unfold withB
  generalize hc : far f a = c
  have HC := Lib.hid hc
  clear hc
  go_enter Try.func18, Try.ntmps18
  go_wp2_with (go_at_call 14; refine (rfar_any f a _).mono ?_; rintro e w' ⟨rfl, rfl⟩; rw [HC.out])
  go_ret
  exact ⟨rfl, rfl⟩
#print axioms rwithin_any
end Go.Proofs.Ytmchaomdcelikaa
