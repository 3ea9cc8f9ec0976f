/- Which packets are right, their hops, their bytes: the program's Check, Hop, Bytes. No conditions but on lengths. -/
import Derived.Test.YtgcjmnjepnmaeaaPkf
import Derived.Test.YtgcjmnjepnmaeaaPkt
import Derived.Test.YtgcjmnjepnmaeaaRint
import Derived.Test.YtgcjmnjepnmaeaaRead
import Derived.Test.YtgcjmnjepnmaeaaGrw
import Derived.Test.YtgcjmnjepnmaeaaOpk
import Derived.Test.YtgcjmnjepnmaeaaByt
namespace Go.Proofs.Ytgcjmnjepnmaeaa
set_option maxRecDepth 100000
open Go.RowKit

theorem upto_fix (n m : Int) (Q : Bool) (hQ : Q = true ↔ 0 ≤ n ∧ n ≤ m) (w : World) :
    Calls Try.prog 28 #[.int .i64 n, .int .i64 m] w fun e w' => e = .returned (.bool Q) ∧ w = w' := by
  by_cases h0 : 0 ≤ n
  · by_cases h1 : n ≤ m
    · obtain rfl : Q = true := hQ.2 ⟨h0, h1⟩
      clear hQ
      go_enter Try.func28, Try.ntmps28
      go_wp2_with fail
      go_ret
      exact ⟨rfl, rfl⟩
    · obtain rfl : Q = false := by
        cases Q with
        | false => rfl
        | true => exact absurd (hQ.1 rfl).2 h1
      have d9 : decide (n ≤ m) = false := decide_eq_false h1
      clear hQ
      go_enter Try.func28, Try.ntmps28
      go_wp2_with fail
      go_ret
      exact ⟨rfl, rfl⟩
  · obtain rfl : Q = false := by
      cases Q with
      | false => rfl
      | true => exact absurd (hQ.1 rfl).1 h0
    have d9 : decide (0 ≤ n) = false := decide_eq_false h0
    clear hQ
    go_enter Try.func28, Try.ntmps28
    go_wp2_with fail
    go_ret
    exact ⟨rfl, rfl⟩
theorem node_fix (n : Int) (Q : Bool) (hQ : Q = true ↔ 0 ≤ n ∧ n < 64) (w : World) :
    Calls Try.prog 27 #[.int .i64 n] w fun e w' => e = .returned (.bool Q) ∧ w = w' := by
  have cU := upto_fix n 63 Q (hQ.trans (by omega))
  clear hQ
  go_enter Try.func27, Try.ntmps27
  go_wp2_with fail
  refine (cU _).mono ?_
  rintro e w1 ⟨rfl, hw⟩
  subst hw
  go_wp2_with fail
  go_ret
  exact ⟨rfl, rfl⟩
set_option maxHeartbeats 8000000 in
theorem kcheck_any (s d t n : Int) (x : ByteArray) (w : World) : Calls Try.prog 23 #[.agg #[.int .i64 s, .int .i64 d, .int .i64 t, .int .i64 n, .string x]] w fun e w' => e = .returned (.int .i64 (kP s d t n x)) ∧ Below w.heap.size w w' := by
  have HB : Hid (Below w.heap.size w (w.alloc (.cells #[.int .i64 s, .int .i64 d, .int .i64 t, .int .i64 n, .string x] 34))) := (Below.refl _ w).alloc (Nat.le_refl _) _
  by_cases h0 : 0 ≤ s ∧ s < 64
  · skip
    by_cases h1 : 0 ≤ d ∧ d < 64
    · skip
      by_cases h2 : 0 ≤ t ∧ t ≤ 255
      · skip
        by_cases h3 : 0 ≤ n ∧ n ≤ 65535
        · skip
          by_cases h4 : (x.size : Int) ≤ 256
          · skip
            rw [show kP s d t n x = 0 from if_pos ⟨h0, h1, h2, h3, by omega⟩]
            have d9 : decide ((x.size : Int) > 256) = false := decide_eq_false (by omega)
            have c0 := fun W => node_fix s true ⟨fun _ => h0, fun _ => rfl⟩ W
            have c1 := fun W => node_fix d true ⟨fun _ => h1, fun _ => rfl⟩ W
            have c2 := fun W => upto_fix t 255 true ⟨fun _ => h2, fun _ => rfl⟩ W
            have c3 := fun W => upto_fix n 65535 true ⟨fun _ => h3, fun _ => rfl⟩ W
            clear h0 h1 h2 h3
            go_enter Try.func23, Try.ntmps23
            go_wp2_with fail
            refine (c0 _).mono ?_
            rintro e w0 ⟨rfl, hw⟩
            subst hw
            go_wp2_with fail
            refine (c1 _).mono ?_
            rintro e w1 ⟨rfl, hw⟩
            subst hw
            go_wp2_with fail
            refine (c2 _).mono ?_
            rintro e w2 ⟨rfl, hw⟩
            subst hw
            go_wp2_with fail
            refine (c3 _).mono ?_
            rintro e w3 ⟨rfl, hw⟩
            subst hw
            go_wp2_with fail
            go_ret
            exact ⟨rfl, HB.out⟩
          · skip
            rw [show kP s d t n x = 1 from if_neg (fun h => h4 (by have := h.2.2.2.2; omega))]
            have d9 : decide ((x.size : Int) > 256) = true := decide_eq_true (by omega)
            have c0 := fun W => node_fix s true ⟨fun _ => h0, fun _ => rfl⟩ W
            have c1 := fun W => node_fix d true ⟨fun _ => h1, fun _ => rfl⟩ W
            have c2 := fun W => upto_fix t 255 true ⟨fun _ => h2, fun _ => rfl⟩ W
            have c3 := fun W => upto_fix n 65535 true ⟨fun _ => h3, fun _ => rfl⟩ W
            clear h0 h1 h2 h3
            go_enter Try.func23, Try.ntmps23
            go_wp2_with fail
            refine (c0 _).mono ?_
            rintro e w0 ⟨rfl, hw⟩
            subst hw
            go_wp2_with fail
            refine (c1 _).mono ?_
            rintro e w1 ⟨rfl, hw⟩
            subst hw
            go_wp2_with fail
            refine (c2 _).mono ?_
            rintro e w2 ⟨rfl, hw⟩
            subst hw
            go_wp2_with fail
            refine (c3 _).mono ?_
            rintro e w3 ⟨rfl, hw⟩
            subst hw
            go_wp2_with fail
            go_ret
            exact ⟨rfl, HB.out⟩
        · skip
          rw [show kP s d t n x = 1 from if_neg (fun h => h3 h.2.2.2.1)]
          have c0 := fun W => node_fix s true ⟨fun _ => h0, fun _ => rfl⟩ W
          have c1 := fun W => node_fix d true ⟨fun _ => h1, fun _ => rfl⟩ W
          have c2 := fun W => upto_fix t 255 true ⟨fun _ => h2, fun _ => rfl⟩ W
          have c3 := fun W => upto_fix n 65535 false ⟨fun h => (by cases h), fun h => absurd h h3⟩ W
          clear h0 h1 h2 h3
          go_enter Try.func23, Try.ntmps23
          go_wp2_with fail
          refine (c0 _).mono ?_
          rintro e w0 ⟨rfl, hw⟩
          subst hw
          go_wp2_with fail
          refine (c1 _).mono ?_
          rintro e w1 ⟨rfl, hw⟩
          subst hw
          go_wp2_with fail
          refine (c2 _).mono ?_
          rintro e w2 ⟨rfl, hw⟩
          subst hw
          go_wp2_with fail
          refine (c3 _).mono ?_
          rintro e w3 ⟨rfl, hw⟩
          subst hw
          go_wp2_with fail
          go_ret
          exact ⟨rfl, HB.out⟩
      · skip
        rw [show kP s d t n x = 1 from if_neg (fun h => h2 h.2.2.1)]
        have c0 := fun W => node_fix s true ⟨fun _ => h0, fun _ => rfl⟩ W
        have c1 := fun W => node_fix d true ⟨fun _ => h1, fun _ => rfl⟩ W
        have c2 := fun W => upto_fix t 255 false ⟨fun h => (by cases h), fun h => absurd h h2⟩ W
        clear h0 h1 h2
        go_enter Try.func23, Try.ntmps23
        go_wp2_with fail
        refine (c0 _).mono ?_
        rintro e w0 ⟨rfl, hw⟩
        subst hw
        go_wp2_with fail
        refine (c1 _).mono ?_
        rintro e w1 ⟨rfl, hw⟩
        subst hw
        go_wp2_with fail
        refine (c2 _).mono ?_
        rintro e w2 ⟨rfl, hw⟩
        subst hw
        go_wp2_with fail
        go_ret
        exact ⟨rfl, HB.out⟩
    · skip
      rw [show kP s d t n x = 1 from if_neg (fun h => h1 h.2.1)]
      have c0 := fun W => node_fix s true ⟨fun _ => h0, fun _ => rfl⟩ W
      have c1 := fun W => node_fix d false ⟨fun h => (by cases h), fun h => absurd h h1⟩ W
      clear h0 h1
      go_enter Try.func23, Try.ntmps23
      go_wp2_with fail
      refine (c0 _).mono ?_
      rintro e w0 ⟨rfl, hw⟩
      subst hw
      go_wp2_with fail
      refine (c1 _).mono ?_
      rintro e w1 ⟨rfl, hw⟩
      subst hw
      go_wp2_with fail
      go_ret
      exact ⟨rfl, HB.out⟩
  · skip
    rw [show kP s d t n x = 1 from if_neg (fun h => h0 h.1)]
    have c0 := fun W => node_fix s false ⟨fun h => (by cases h), fun h => absurd h h0⟩ W
    clear h0
    go_enter Try.func23, Try.ntmps23
    go_wp2_with fail
    refine (c0 _).mono ?_
    rintro e w0 ⟨rfl, hw⟩
    subst hw
    go_wp2_with fail
    go_ret
    exact ⟨rfl, HB.out⟩
end Go.Proofs.Ytgcjmnjepnmaeaa

