/- Texts Aq1, Aq3 of this proof, in one. No conditions but on lengths. -/
import Derived.Test.YtdigjklhfimnbaaGreatRows
import Derived.Test.YtdigjklhfimnbaaGreatU13
import Derived.Test.YtdigjklhfimnbaaGreatU15
import Derived.ArgAppend
import Derived.Below
import Derived.BigQuiet
import Derived.Calls
import Derived.ChangeArms
import Derived.ChangeOld
import Derived.Deep.QuietTactic
import Derived.Deep.RegionLaw
import Derived.Deep.Slices
import Derived.Laws.AppendOwnNone
import Derived.Laws.BitsLemmas
import Derived.Laws.BytesArg
import Derived.Laws.OwnMore
import Derived.Laws.StructEq
import Derived.Lib.Hide
import Derived.Lib.QuietBelow
import Derived.LoopTactic
import Derived.Maps.AppendAt
import Derived.OpenShut
import Derived.Orders
import Derived.Outline
import Derived.ProofKit
import Derived.ShutString
import Derived.StillTail
import Derived.WalkKit
import Derived.WalkSpells
import Derived.WideShapes
namespace Go.Proofs.YtdigjklhfimnbaaGreat
set_option maxRecDepth 100000
open Go.RowKit

def shB (n : Int) : Bool := decide (0 ≤ n) && decide (n ≤ 65535)
theorem akshort_any (n : Int) (w : World) : Calls Tryz.prog 235 #[.int .i64 n] w fun e w' => e = .returned (.bool (shB n)) ∧ w = w' := by
  unfold shB
  by_cases h1 : 0 ≤ n
  · by_cases h2 : n ≤ 65535
    · go_enter Tryz.func235, Tryz.ntmps235
      go_wp2
      go_ret
      exact ⟨by simp [h1, h2], rfl⟩
    · have d2 : decide (n ≤ 65535) = false := decide_eq_false h2
      go_enter Tryz.func235, Tryz.ntmps235
      go_wp2
      go_ret
      exact ⟨by simp, rfl⟩
  · have d1 : decide (0 ≤ n) = false := decide_eq_false h1
    go_enter Tryz.func235, Tryz.ntmps235
    go_wp2
    go_ret
    exact ⟨by simp, rfl⟩
theorem shB_iff (n : Int) : shB n = true ↔ 0 ≤ n ∧ n ≤ 65535 := by simp [shB]
set_option maxHeartbeats 8000000 in
theorem akone_fix (i p n m : Int) (Q : Bool) (hQ : Q = true ↔ AkOne (i, p, n, m)) (w : World) :
    Calls Tryz.prog 197 #[.agg #[.int .i64 i, .int .i64 p, .int .i64 n, .int .i64 m]] w fun e w' => e = .returned (.bool Q) ∧ Below w.heap.size w w' := by
  unfold AkOne EpOk at hQ
  simp only at hQ
  rw [← shB_iff n, ← shB_iff m] at hQ
  have CN := Lib.hid (akshort_any n)
  have CM := Lib.hid (akshort_any m)
  have HB : Hid (Below w.heap.size w (w.alloc (.cells #[.int .i64 i, .int .i64 p, .int .i64 n, .int .i64 m] 212))) := (Below.refl _ w).alloc (Nat.le_refl _) _
  generalize shB n = qn at *
  generalize shB m = qm at *
  by_cases h0 : 0 ≤ i
  · skip
    by_cases h1 : i < 64
    · skip
      by_cases h2 : 0 ≤ p
      · skip
        by_cases h3 : p ≤ 4294967295
        · skip
          cases qn with
          | false =>
            have HQ : Hid (Q = false) := by
              cases Q with
              | false => rfl
              | true => have h9 := hQ.1 rfl; first | (exact absurd h9.2.2.1 (by decide)) | omega
            clear hQ
            go_enter Tryz.func197, Tryz.ntmps197
            go_wp2_with fail
            refine (CN.out _).mono ?_
            rintro e w' ⟨rfl, hw⟩
            subst hw
            go_wp2_with fail
            go_ret
            exact ⟨by rw [HQ.out]; rfl, HB.out⟩
          | true =>
            have HQ : Hid (Q = qm) := by
              show Q = qm
              rw [Bool.eq_iff_iff, hQ]
              exact ⟨fun h => h.2.2.2, fun h => ⟨⟨h0, h1⟩, ⟨h2, h3⟩, rfl, h⟩⟩
            clear hQ
            go_enter Tryz.func197, Tryz.ntmps197
            go_wp2_with fail
            refine (CN.out _).mono ?_
            rintro e w' ⟨rfl, hw⟩
            subst hw
            go_wp2_with fail
            refine (CM.out _).mono ?_
            rintro e w' ⟨rfl, hw⟩
            subst hw
            go_wp2_with fail
            go_ret
            exact ⟨by rw [HQ.out]; rfl, HB.out⟩
        · skip
          have d : decide (p ≤ 4294967295) = false := decide_eq_false h3
          have HQ : Hid (Q = false) := by
            cases Q with
            | false => rfl
            | true => have h9 := hQ.1 rfl; first | (exact absurd h9.1 (by decide)) | omega
          clear hQ
          go_enter Tryz.func197, Tryz.ntmps197
          go_wp2_with fail
          go_ret
          exact ⟨by rw [HQ.out]; rfl, HB.out⟩
      · skip
        have d : decide (0 ≤ p) = false := decide_eq_false h2
        have HQ : Hid (Q = false) := by
          cases Q with
          | false => rfl
          | true => have h9 := hQ.1 rfl; first | (exact absurd h9.1 (by decide)) | omega
        clear hQ
        go_enter Tryz.func197, Tryz.ntmps197
        go_wp2_with fail
        go_ret
        exact ⟨by rw [HQ.out]; rfl, HB.out⟩
    · skip
      have d : decide (i < 64) = false := decide_eq_false h1
      have HQ : Hid (Q = false) := by
        cases Q with
        | false => rfl
        | true => have h9 := hQ.1 rfl; first | (exact absurd h9.1 (by decide)) | omega
      clear hQ
      go_enter Tryz.func197, Tryz.ntmps197
      go_wp2_with fail
      go_ret
      exact ⟨by rw [HQ.out]; rfl, HB.out⟩
  · skip
    have d : decide (0 ≤ i) = false := decide_eq_false h0
    have HQ : Hid (Q = false) := by
      cases Q with
      | false => rfl
      | true => have h9 := hQ.1 rfl; first | (exact absurd h9.1 (by decide)) | omega
    clear hQ
    go_enter Tryz.func197, Tryz.ntmps197
    go_wp2_with fail
    go_ret
    exact ⟨by rw [HQ.out]; rfl, HB.out⟩
/-- The bit that tells of a number that is so far behind. -/
def bitF (k : Int) : Int := if 1 ≤ k ∧ k ≤ 16 then pow2 (k - 1).toNat else 0
theorem akbit_any (x n : Int) (w : World) : Calls Tryz.prog 196 #[.int .i64 x, .int .i64 n] w fun e w' => e = .returned (.int .i64 (bitF (far x n))) ∧ Below w.heap.size w w' := by
  have CF := Lib.hid (far_any x n w)
  generalize far x n = k at *
  by_cases h1 : 1 ≤ k
  · have d1 : decide (k < 1) = false := decide_eq_false (by omega)
    by_cases h2 : k ≤ 16
    · have d2 : decide (k > 16) = false := decide_eq_false (by omega)
      have hkw : IntKind.i64.wrap (k - 1) = k - 1 := by rw [IntKind.wrap_i64]; omega
      have hk0 : 0 ≤ k - 1 := by omega
      go_enter Tryz.func196, Tryz.ntmps196
      go_wp2_with fail
      refine CF.out.mono ?_
      rintro e w2 ⟨rfl, hb⟩
      have HB := Lib.hid hb
      clear hb
      go_wp2_with fail
      go_ret
      refine ⟨?_, HB.out⟩
      unfold bitF
      rw [if_pos ⟨h1, h2⟩]
      obtain ⟨j, hj⟩ : ∃ j : Nat, k - 1 = j := ⟨(k - 1).toNat, by omega⟩
      rw [hj]
      refine congrArg (fun z => Ending.returned (Value.int .i64 z)) ?_
      have hk : k.toNat - 1 = j := by omega
      have hp := pow2_small (n := j) (by omega)
      have hp0 := pow2_pos j
      rw [hk, Int.toNat_natCast, ← pow2_eq']
      unfold wrap64
      omega
    · have d2 : decide (k > 16) = true := decide_eq_true (by omega)
      go_enter Tryz.func196, Tryz.ntmps196
      go_wp2_with fail
      refine CF.out.mono ?_
      rintro e w2 ⟨rfl, hb⟩
      have HB := Lib.hid hb
      clear hb
      go_wp2_with fail
      go_ret
      exact ⟨by unfold bitF; rw [if_neg (by omega)]; rfl, HB.out⟩
  · have d1 : decide (k < 1) = true := decide_eq_true (by omega)
    go_enter Tryz.func196, Tryz.ntmps196
    go_wp2_with fail
    refine CF.out.mono ?_
    rintro e w2 ⟨rfl, hb⟩
    have HB := Lib.hid hb
    clear hb
    go_wp2_with fail
    go_ret
    exact ⟨by unfold bitF; rw [if_neg (by omega)]; rfl, HB.out⟩
def ahB (k : Int) : Bool := decide (1 ≤ k) && decide (k ≤ 32768)
theorem akahead_any (n x : Int) (w : World) : Calls Tryz.prog 198 #[.int .i64 n, .int .i64 x] w fun e w' => e = .returned (.bool (ahB (far n x))) ∧ Below w.heap.size w w' := by
  have CF := Lib.hid (far_any n x w)
  generalize far n x = k at *
  unfold ahB
  by_cases h1 : 1 ≤ k
  · by_cases h2 : k ≤ 32768
    · go_enter Tryz.func198, Tryz.ntmps198
      go_wp2_with fail
      refine CF.out.mono ?_
      rintro e w2 ⟨rfl, hb⟩
      have HB := Lib.hid hb
      clear hb
      go_wp2_with fail
      go_ret
      exact ⟨by simp [h1, h2], HB.out⟩
    · have d2 : decide (k ≤ 32768) = false := decide_eq_false h2
      go_enter Tryz.func198, Tryz.ntmps198
      go_wp2_with fail
      refine CF.out.mono ?_
      rintro e w2 ⟨rfl, hb⟩
      have HB := Lib.hid hb
      clear hb
      go_wp2_with fail
      go_ret
      exact ⟨by simp [d2], HB.out⟩
  · have d1 : decide (1 ≤ k) = false := decide_eq_false h1
    go_enter Tryz.func198, Tryz.ntmps198
    go_wp2_with fail
    refine CF.out.mono ?_
    rintro e w2 ⟨rfl, hb⟩
    have HB := Lib.hid hb
    clear hb
    go_wp2_with fail
    go_ret
    exact ⟨by simp [d1], HB.out⟩
end Go.Proofs.YtdigjklhfimnbaaGreat
namespace Go.Proofs.YtdigjklhfimnbaaGreat
set_option maxRecDepth 100000
open Go.RowKit

theorem bitF_and {m k : Int} (h : 0 ≤ m ∧ m ≤ 65535) : (bits .and .i64 m (bitF k) != 0) = (decide (1 ≤ k) && decide (k ≤ 16) && decide (m / pow2 (k - 1).toNat % 2 = 1)) := by
  unfold bitF
  by_cases hk : 1 ≤ k ∧ k ≤ 16
  · rw [if_pos hk, and_bit h.1 h.2 (by omega)]
    have hp := pow2_pos (k - 1).toNat
    split
    · rename_i hd
      have h9 : pow2 (k - 1).toNat ≠ 0 := by omega
      rw [decide_eq_true hk.1, decide_eq_true hk.2, decide_eq_true hd]
      simpa using h9
    · rename_i hd
      rw [decide_eq_true hk.1, decide_eq_true hk.2, decide_eq_false hd]
      rfl
  · rw [if_neg hk]
    have h0 : bits .and .i64 m 0 = 0 := by
      obtain ⟨a, rfl⟩ := Int.eq_ofNat_of_zero_le h.1
      have := (bits_nat .i64 62 (by decide) wr62 a 0 (by have : (2 : Nat) ^ 62 = 4611686018427387904 := by decide
                                                         omega) (by decide)).1
      simpa using this
    rw [h0]
    by_cases h1 : 1 ≤ k
    · have : ¬ k ≤ 16 := fun h => hk ⟨h1, h⟩
      simp [this]
    · simp [h1]
set_option maxHeartbeats 16000000 in
theorem akhas_fix (i p x m n : Int) (q : Bool) (hq : q = true ↔ AkOne (i, p, x, m)) (w : World) :
    Calls Tryz.prog 168 #[.agg #[.int .i64 i, .int .i64 p, .int .i64 x, .int .i64 m], .int .i64 n] w fun e w' => e = .returned (.bool (q && hasN x m n)) ∧ Below w.heap.size w w' := by
  have CO := fun W => akone_fix i p x m q hq W
  have CA := fun W => akahead_any n x W
  have CB := fun W => akbit_any x n W
  have hm : q = true → 0 ≤ m ∧ m ≤ 65535 := fun h => (hq.1 h).2.2.2
  have HB : Hid (Below w.heap.size w (w.alloc (.cells #[.int .i64 i, .int .i64 p, .int .i64 x, .int .i64 m] 212))) := (Below.refl _ w).alloc (Nat.le_refl _) _
  have hE : hasN x m n = (ahB (far n x) || (decide (1 ≤ far x n) && decide (far x n ≤ 16) && decide (m / pow2 (far x n - 1).toNat % 2 = 1))) := rfl
  rw [hE]
  have hz := fun h => bitF_and (m := m) (k := far x n) (hm h)
  clear hE hq
  generalize ahB (far n x) = A at *
  generalize bitF (far x n) = B at *
  generalize (decide (1 ≤ far x n) && decide (far x n ≤ 16) && decide (m / pow2 (far x n - 1).toNat % 2 = 1)) = R at *
  have kv : Cells4a (w.alloc (.cells #[.int .i64 i, .int .i64 p, .int .i64 x, .int .i64 m] 212)) w.heap.size 0 (i, p, x, m) := by refine ⟨?_, ?_, ?_, ?_⟩ <;> simp
  go_enter Tryz.func168, Tryz.ntmps168
  go_wp2_with fail
  obtain ⟨V, hV⟩ : ∃ V, V = w.alloc (.cells #[.int .i64 i, .int .i64 p, .int .i64 x, .int .i64 m] 212) := ⟨_, rfl⟩
  rw [← hV] at kv HB ⊢
  clear hV
  have kc : ∀ w', Below V.heap.size V w' → Cells4a w' w.heap.size 0 (i, p, x, m) := fun w' h => kv.below h
  simp only [Cells4a, Nat.zero_add] at kc
  cases q with
  | false =>
    refine wp_region_typed (C := fun w' => Below V.heap.size V w') (X := fun w w' => Below w.heap.size w w') (n := 26) (by kernel_rfl) (by kernel_rfl) rfl (fun w => Below.refl _ w) (Below.refl _ _).drew ?_
    refine w_is (fun w => Below.refl _ w) _ (.inl rfl) (fun ρ w hC hc hfn hf => by have e2 : ρ (.tmp 2) = _ := hf 2 (by decide); (conv => lhs; simp [execOp, go_sem, hc, e2, kc w hC])) ?_
    refine w_call (Is _) (fun _ _ _ h _ => h) 197 (.inl rfl) (fun ρ w hC hc hfn hf => by have e9 : ρ (.tmp 9) = _ := hf 9 (by decide); exact ⟨_, by (conv => lhs; simp [execOp, resolve, invoke, go_sem, hc, hfn, e9]), tc_below hC (CO w)⟩) ?_
    refine w_is (fun w => Below.refl _ w) _ (.inl rfl) (fun ρ w hC hc hfn hf => by have e10 : ρ (.tmp 10) = _ := hf 10 (by decide); (conv => lhs; simp [execOp, go_sem, hc, e10])) ?_
    refine w_skip rfl rfl (known_is rfl) ?_
    refine w_skip rfl rfl (known_is rfl) ?_
    refine w_skip rfl rfl (known_is rfl) ?_
    refine w_skip rfl rfl (known_is rfl) ?_
    refine w_skip rfl rfl (known_is rfl) ?_
    refine w_skipU rfl rfl (known_is rfl) ?_
    refine w_skipU rfl rfl (known_is rfl) ?_
    refine w_skipU rfl rfl (known_is rfl) ?_
    refine w_skipU rfl rfl (known_is rfl) ?_
    refine w_skipU rfl rfl (known_is rfl) ?_
    refine w_skipU rfl rfl (known_is rfl) ?_
    refine w_skipU rfl rfl (known_is rfl) ?_
    refine w_skip rfl rfl (known_is rfl) ?_
    refine w_is (fun w => Below.refl _ w) _ (.inl rfl) (fun ρ w hC hc hfn hf => by have e11 : ρ (.tmp 11) = _ := hf 11 (by decide); have e24 : ρ (.tmp 24) = _ := hf 24 (by decide); (conv => lhs; simp [execOp, go_sem, hc, e11, e24])) ?_
    refine w_is (fun w => Below.refl _ w) _ (.inl rfl) (fun ρ w hC hc hfn hf => by have e25 : ρ (.tmp 25) = _ := hf 25 (by decide); (conv => lhs; simp [execOp, go_sem, hc, e25])) ?_
    intro A V5 hC hn hd hf
    have y0 : A.eval (.tmp 0) = _ := Eq.trans (hf 0) (by conv => lhs; simp [go_sem])
    have y1 : A.eval (.tmp 1) = _ := Eq.trans (hf 1) (by conv => lhs; simp [go_sem])
    have y2 : A.eval (.tmp 2) = _ := Eq.trans (hf 2) (by conv => lhs; simp [go_sem])
    have y3 : A.eval (.tmp 3) = _ := Eq.trans (hf 3) (by conv => lhs; simp [go_sem])
    have y4 : A.eval (.tmp 4) = _ := hf 4
    have y5 : A.eval (.tmp 5) = _ := Eq.trans (hf 5) (by conv => lhs; simp [go_sem])
    have y6 : A.eval (.tmp 6) = _ := Eq.trans (hf 6) (by conv => lhs; simp [go_sem])
    have y7 : A.eval (.tmp 7) = _ := Eq.trans (hf 7) (by conv => lhs; simp [go_sem])
    have y8 : A.eval (.tmp 8) = _ := Eq.trans (hf 8) (by conv => lhs; simp [go_sem])
    have y9 : A.eval (.tmp 9) = _ := hf 9
    have y10 : A.eval (.tmp 10) = _ := hf 10
    have y11 : A.eval (.tmp 11) = _ := hf 11
    have y12 : A.eval (.tmp 12) = _ := hf 12
    have y13 : A.eval (.tmp 13) = _ := hf 13
    have y14 : A.eval (.tmp 14) = _ := hf 14
    have y15 : A.eval (.tmp 15) = _ := hf 15
    have y16 : A.eval (.tmp 16) = _ := hf 16
    have y17 : A.eval (.tmp 17) = _ := hf 17
    have y18 : A.eval (.tmp 18) = _ := hf 18
    have y19 : A.eval (.tmp 19) = _ := hf 19
    have y20 : A.eval (.tmp 20) = _ := hf 20
    have y21 : A.eval (.tmp 21) = _ := hf 21
    have y22 : A.eval (.tmp 22) = _ := hf 22
    have y23 : A.eval (.tmp 23) = _ := hf 23
    have y24 : A.eval (.tmp 24) = _ := hf 24
    have y25 : A.eval (.tmp 25) = _ := hf 25
    clear hf
    have hA := frame_eq hn
    rw [show List.range 26 = [0, 1, 2, 3, 4, 5, 6, 7, 8, 9, 10, 11, 12, 13, 14, 15, 16, 17, 18, 19, 20, 21, 22, 23, 24, 25] from rfl, hd] at hA
    simp only [List.map_cons, List.map_nil, y0, y1, y2, y3, y4, y5, y6, y7, y8, y9, y10, y11, y12, y13, y14, y15, y16, y17, y18, y19, y20, y21, y22, y23, y24, y25] at hA
    clear y0 y1 y2 y3 y4 y5 y6 y7 y8 y9 y10 y11 y12 y13 y14 y15 y16 y17 y18 y19 y20 y21 y22 y23 y24 y25
    clear hn hd
    subst hA
    go_wp2_with fail
    go_ret
    exact ⟨ret_bool (by rfl), HB.out.trans (hC.mono HB.out.size)⟩

  | true =>
    cases A with
    | true =>
      refine wp_region_typed (C := fun w' => Below V.heap.size V w') (X := fun w w' => Below w.heap.size w w') (n := 26) (by kernel_rfl) (by kernel_rfl) rfl (fun w => Below.refl _ w) (Below.refl _ _).drew ?_
      refine w_is (fun w => Below.refl _ w) _ (.inl rfl) (fun ρ w hC hc hfn hf => by have e2 : ρ (.tmp 2) = _ := hf 2 (by decide); (conv => lhs; simp [execOp, go_sem, hc, e2, kc w hC])) ?_
      refine w_call (Is _) (fun _ _ _ h _ => h) 197 (.inl rfl) (fun ρ w hC hc hfn hf => by have e9 : ρ (.tmp 9) = _ := hf 9 (by decide); exact ⟨_, by (conv => lhs; simp [execOp, resolve, invoke, go_sem, hc, hfn, e9]), tc_below hC (CO w)⟩) ?_
      refine w_is (fun w => Below.refl _ w) _ (.inl rfl) (fun ρ w hC hc hfn hf => by have e10 : ρ (.tmp 10) = _ := hf 10 (by decide); (conv => lhs; simp [execOp, go_sem, hc, e10])) ?_
      refine w_is (fun w => Below.refl _ w) _ (.inr ⟨2, 11, true, rfl, rfl, known_is rfl⟩) (fun ρ w hC hc hfn hf => by have e1 : ρ (.tmp 1) = _ := hf 1 (by decide); (conv => lhs; simp [execOp, go_sem, hc, e1])) ?_
      refine w_is (fun w => Below.refl _ w) _ (.inr ⟨2, 11, true, rfl, rfl, known_is rfl⟩) (fun ρ w hC hc hfn hf => by have e2 : ρ (.tmp 2) = _ := hf 2 (by decide); (conv => lhs; simp [execOp, go_sem, hc, e2])) ?_
      refine w_is (fun w => Below.refl _ w) _ (.inr ⟨2, 11, true, rfl, rfl, known_is rfl⟩) (fun ρ w hC hc hfn hf => by have e13 : ρ (.tmp 13) = _ := hf 13 (by decide); (conv => lhs; simp [execOp, go_sem, hc, e13, kc w hC])) ?_
      refine w_call (Is _) (fun _ _ _ h _ => h) 198 (.inr ⟨2, 11, true, rfl, rfl, known_is rfl⟩) (fun ρ w hC hc hfn hf => by have e12 : ρ (.tmp 12) = _ := hf 12 (by decide); have e14 : ρ (.tmp 14) = _ := hf 14 (by decide); exact ⟨_, by (conv => lhs; simp [execOp, resolve, invoke, go_sem, hc, hfn, e12, e14]), tc_below hC (CA w)⟩) ?_
      refine w_is (fun w => Below.refl _ w) _ (.inr ⟨2, 11, true, rfl, rfl, known_is rfl⟩) (fun ρ w hC hc hfn hf => by have e15 : ρ (.tmp 15) = _ := hf 15 (by decide); (conv => lhs; simp [execOp, go_sem, hc, e15])) ?_
      refine w_skip rfl rfl (known_is rfl) ?_
      refine w_skip rfl rfl (known_is rfl) ?_
      refine w_skip rfl rfl (known_is rfl) ?_
      refine w_skip rfl rfl (known_is rfl) ?_
      refine w_skip rfl rfl (known_is rfl) ?_
      refine w_skip rfl rfl (known_is rfl) ?_
      refine w_skip rfl rfl (known_is rfl) ?_
      refine w_is (fun w => Below.refl _ w) _ (.inr ⟨2, 11, true, rfl, rfl, known_is rfl⟩) (fun ρ w hC hc hfn hf => by have e16 : ρ (.tmp 16) = _ := hf 16 (by decide); have e23 : ρ (.tmp 23) = _ := hf 23 (by decide); (conv => lhs; simp [execOp, go_sem, hc, e16, e23])) ?_
      refine w_is (fun w => Below.refl _ w) _ (.inl rfl) (fun ρ w hC hc hfn hf => by have e11 : ρ (.tmp 11) = _ := hf 11 (by decide); have e24 : ρ (.tmp 24) = _ := hf 24 (by decide); (conv => lhs; simp [execOp, go_sem, hc, e11, e24])) ?_
      refine w_is (fun w => Below.refl _ w) _ (.inl rfl) (fun ρ w hC hc hfn hf => by have e25 : ρ (.tmp 25) = _ := hf 25 (by decide); (conv => lhs; simp [execOp, go_sem, hc, e25])) ?_
      intro A V5 hC hn hd hf
      have y0 : A.eval (.tmp 0) = _ := Eq.trans (hf 0) (by conv => lhs; simp [go_sem])
      have y1 : A.eval (.tmp 1) = _ := Eq.trans (hf 1) (by conv => lhs; simp [go_sem])
      have y2 : A.eval (.tmp 2) = _ := Eq.trans (hf 2) (by conv => lhs; simp [go_sem])
      have y3 : A.eval (.tmp 3) = _ := Eq.trans (hf 3) (by conv => lhs; simp [go_sem])
      have y4 : A.eval (.tmp 4) = _ := hf 4
      have y5 : A.eval (.tmp 5) = _ := Eq.trans (hf 5) (by conv => lhs; simp [go_sem])
      have y6 : A.eval (.tmp 6) = _ := Eq.trans (hf 6) (by conv => lhs; simp [go_sem])
      have y7 : A.eval (.tmp 7) = _ := Eq.trans (hf 7) (by conv => lhs; simp [go_sem])
      have y8 : A.eval (.tmp 8) = _ := Eq.trans (hf 8) (by conv => lhs; simp [go_sem])
      have y9 : A.eval (.tmp 9) = _ := hf 9
      have y10 : A.eval (.tmp 10) = _ := hf 10
      have y11 : A.eval (.tmp 11) = _ := hf 11
      have y12 : A.eval (.tmp 12) = _ := hf 12
      have y13 : A.eval (.tmp 13) = _ := hf 13
      have y14 : A.eval (.tmp 14) = _ := hf 14
      have y15 : A.eval (.tmp 15) = _ := hf 15
      have y16 : A.eval (.tmp 16) = _ := hf 16
      have y17 : A.eval (.tmp 17) = _ := hf 17
      have y18 : A.eval (.tmp 18) = _ := hf 18
      have y19 : A.eval (.tmp 19) = _ := hf 19
      have y20 : A.eval (.tmp 20) = _ := hf 20
      have y21 : A.eval (.tmp 21) = _ := hf 21
      have y22 : A.eval (.tmp 22) = _ := hf 22
      have y23 : A.eval (.tmp 23) = _ := hf 23
      have y24 : A.eval (.tmp 24) = _ := hf 24
      have y25 : A.eval (.tmp 25) = _ := hf 25
      clear hf
      have hA := frame_eq hn
      rw [show List.range 26 = [0, 1, 2, 3, 4, 5, 6, 7, 8, 9, 10, 11, 12, 13, 14, 15, 16, 17, 18, 19, 20, 21, 22, 23, 24, 25] from rfl, hd] at hA
      simp only [List.map_cons, List.map_nil, y0, y1, y2, y3, y4, y5, y6, y7, y8, y9, y10, y11, y12, y13, y14, y15, y16, y17, y18, y19, y20, y21, y22, y23, y24, y25] at hA
      clear y0 y1 y2 y3 y4 y5 y6 y7 y8 y9 y10 y11 y12 y13 y14 y15 y16 y17 y18 y19 y20 y21 y22 y23 y24 y25
      clear hn hd
      subst hA
      go_wp2_with fail
      go_ret
      exact ⟨ret_bool (by rfl), HB.out.trans (hC.mono HB.out.size)⟩

    | false =>
      have hz' := hz rfl
      obtain ⟨Z, hZ⟩ : ∃ Z, bits .and .i64 m B = Z := ⟨_, rfl⟩
      rw [hZ] at hz'
      cases R with
      | true =>
        refine wp_region_typed (C := fun w' => Below V.heap.size V w') (X := fun w w' => Below w.heap.size w w') (n := 26) (by kernel_rfl) (by kernel_rfl) rfl (fun w => Below.refl _ w) (Below.refl _ _).drew ?_
        refine w_is (fun w => Below.refl _ w) _ (.inl rfl) (fun ρ w hC hc hfn hf => by have e2 : ρ (.tmp 2) = _ := hf 2 (by decide); (conv => lhs; simp [execOp, go_sem, hc, e2, kc w hC])) ?_
        refine w_call (Is _) (fun _ _ _ h _ => h) 197 (.inl rfl) (fun ρ w hC hc hfn hf => by have e9 : ρ (.tmp 9) = _ := hf 9 (by decide); exact ⟨_, by (conv => lhs; simp [execOp, resolve, invoke, go_sem, hc, hfn, e9]), tc_below hC (CO w)⟩) ?_
        refine w_is (fun w => Below.refl _ w) _ (.inl rfl) (fun ρ w hC hc hfn hf => by have e10 : ρ (.tmp 10) = _ := hf 10 (by decide); (conv => lhs; simp [execOp, go_sem, hc, e10])) ?_
        refine w_is (fun w => Below.refl _ w) _ (.inr ⟨2, 11, true, rfl, rfl, known_is rfl⟩) (fun ρ w hC hc hfn hf => by have e1 : ρ (.tmp 1) = _ := hf 1 (by decide); (conv => lhs; simp [execOp, go_sem, hc, e1])) ?_
        refine w_is (fun w => Below.refl _ w) _ (.inr ⟨2, 11, true, rfl, rfl, known_is rfl⟩) (fun ρ w hC hc hfn hf => by have e2 : ρ (.tmp 2) = _ := hf 2 (by decide); (conv => lhs; simp [execOp, go_sem, hc, e2])) ?_
        refine w_is (fun w => Below.refl _ w) _ (.inr ⟨2, 11, true, rfl, rfl, known_is rfl⟩) (fun ρ w hC hc hfn hf => by have e13 : ρ (.tmp 13) = _ := hf 13 (by decide); (conv => lhs; simp [execOp, go_sem, hc, e13, kc w hC])) ?_
        refine w_call (Is _) (fun _ _ _ h _ => h) 198 (.inr ⟨2, 11, true, rfl, rfl, known_is rfl⟩) (fun ρ w hC hc hfn hf => by have e12 : ρ (.tmp 12) = _ := hf 12 (by decide); have e14 : ρ (.tmp 14) = _ := hf 14 (by decide); exact ⟨_, by (conv => lhs; simp [execOp, resolve, invoke, go_sem, hc, hfn, e12, e14]), tc_below hC (CA w)⟩) ?_
        refine w_is (fun w => Below.refl _ w) _ (.inr ⟨2, 11, true, rfl, rfl, known_is rfl⟩) (fun ρ w hC hc hfn hf => by have e15 : ρ (.tmp 15) = _ := hf 15 (by decide); (conv => lhs; simp [execOp, go_sem, hc, e15])) ?_
        refine w_is (fun w => Below.refl _ w) _ (.inr ⟨7, 16, false, rfl, rfl, known_is rfl⟩) (fun ρ w hC hc hfn hf => by have e2 : ρ (.tmp 2) = _ := hf 2 (by decide); (conv => lhs; simp [execOp, go_sem, hc, e2])) ?_
        refine w_is (fun w => Below.refl _ w) _ (.inr ⟨7, 16, false, rfl, rfl, known_is rfl⟩) (fun ρ w hC hc hfn hf => by have e17 : ρ (.tmp 17) = _ := hf 17 (by decide); (conv => lhs; simp [execOp, go_sem, hc, e17, kc w hC])) ?_
        refine w_is (fun w => Below.refl _ w) _ (.inr ⟨7, 16, false, rfl, rfl, known_is rfl⟩) (fun ρ w hC hc hfn hf => by have e5 : ρ (.tmp 5) = _ := hf 5 (by decide); (conv => lhs; simp [execOp, go_sem, hc, e5])) ?_
        refine w_is (fun w => Below.refl _ w) _ (.inr ⟨7, 16, false, rfl, rfl, known_is rfl⟩) (fun ρ w hC hc hfn hf => by have e1 : ρ (.tmp 1) = _ := hf 1 (by decide); (conv => lhs; simp [execOp, go_sem, hc, e1])) ?_
        refine w_call (Is _) (fun _ _ _ h _ => h) 196 (.inr ⟨7, 16, false, rfl, rfl, known_is rfl⟩) (fun ρ w hC hc hfn hf => by have e19 : ρ (.tmp 19) = _ := hf 19 (by decide); have e20 : ρ (.tmp 20) = _ := hf 20 (by decide); exact ⟨_, by (conv => lhs; simp [execOp, resolve, invoke, go_sem, hc, hfn, e19, e20]), tc_below hC (CB w)⟩) ?_
        refine w_is (fun w => Below.refl _ w) _ (.inr ⟨7, 16, false, rfl, rfl, known_is rfl⟩) (fun ρ w hC hc hfn hf => by have e18 : ρ (.tmp 18) = _ := hf 18 (by decide); have e21 : ρ (.tmp 21) = _ := hf 21 (by decide); (conv => lhs; simp [execOp, go_sem, hc, e18, e21, hZ])) ?_
        refine w_is (fun w => Below.refl _ w) _ (.inr ⟨7, 16, false, rfl, rfl, known_is rfl⟩) (fun ρ w hC hc hfn hf => by have e22 : ρ (.tmp 22) = _ := hf 22 (by decide); (conv => lhs; simp [execOp, go_sem, hc, e22, hz'])) ?_
        refine w_is (fun w => Below.refl _ w) _ (.inr ⟨2, 11, true, rfl, rfl, known_is rfl⟩) (fun ρ w hC hc hfn hf => by have e16 : ρ (.tmp 16) = _ := hf 16 (by decide); have e23 : ρ (.tmp 23) = _ := hf 23 (by decide); (conv => lhs; simp [execOp, go_sem, hc, e16, e23])) ?_
        refine w_is (fun w => Below.refl _ w) _ (.inl rfl) (fun ρ w hC hc hfn hf => by have e11 : ρ (.tmp 11) = _ := hf 11 (by decide); have e24 : ρ (.tmp 24) = _ := hf 24 (by decide); (conv => lhs; simp [execOp, go_sem, hc, e11, e24])) ?_
        refine w_is (fun w => Below.refl _ w) _ (.inl rfl) (fun ρ w hC hc hfn hf => by have e25 : ρ (.tmp 25) = _ := hf 25 (by decide); (conv => lhs; simp [execOp, go_sem, hc, e25])) ?_
        intro A V5 hC hn hd hf
        have y0 : A.eval (.tmp 0) = _ := Eq.trans (hf 0) (by conv => lhs; simp [go_sem])
        have y1 : A.eval (.tmp 1) = _ := Eq.trans (hf 1) (by conv => lhs; simp [go_sem])
        have y2 : A.eval (.tmp 2) = _ := Eq.trans (hf 2) (by conv => lhs; simp [go_sem])
        have y3 : A.eval (.tmp 3) = _ := Eq.trans (hf 3) (by conv => lhs; simp [go_sem])
        have y4 : A.eval (.tmp 4) = _ := hf 4
        have y5 : A.eval (.tmp 5) = _ := Eq.trans (hf 5) (by conv => lhs; simp [go_sem])
        have y6 : A.eval (.tmp 6) = _ := Eq.trans (hf 6) (by conv => lhs; simp [go_sem])
        have y7 : A.eval (.tmp 7) = _ := Eq.trans (hf 7) (by conv => lhs; simp [go_sem])
        have y8 : A.eval (.tmp 8) = _ := Eq.trans (hf 8) (by conv => lhs; simp [go_sem])
        have y9 : A.eval (.tmp 9) = _ := hf 9
        have y10 : A.eval (.tmp 10) = _ := hf 10
        have y11 : A.eval (.tmp 11) = _ := hf 11
        have y12 : A.eval (.tmp 12) = _ := hf 12
        have y13 : A.eval (.tmp 13) = _ := hf 13
        have y14 : A.eval (.tmp 14) = _ := hf 14
        have y15 : A.eval (.tmp 15) = _ := hf 15
        have y16 : A.eval (.tmp 16) = _ := hf 16
        have y17 : A.eval (.tmp 17) = _ := hf 17
        have y18 : A.eval (.tmp 18) = _ := hf 18
        have y19 : A.eval (.tmp 19) = _ := hf 19
        have y20 : A.eval (.tmp 20) = _ := hf 20
        have y21 : A.eval (.tmp 21) = _ := hf 21
        have y22 : A.eval (.tmp 22) = _ := hf 22
        have y23 : A.eval (.tmp 23) = _ := hf 23
        have y24 : A.eval (.tmp 24) = _ := hf 24
        have y25 : A.eval (.tmp 25) = _ := hf 25
        clear hf
        have hA := frame_eq hn
        rw [show List.range 26 = [0, 1, 2, 3, 4, 5, 6, 7, 8, 9, 10, 11, 12, 13, 14, 15, 16, 17, 18, 19, 20, 21, 22, 23, 24, 25] from rfl, hd] at hA
        simp only [List.map_cons, List.map_nil, y0, y1, y2, y3, y4, y5, y6, y7, y8, y9, y10, y11, y12, y13, y14, y15, y16, y17, y18, y19, y20, y21, y22, y23, y24, y25] at hA
        clear y0 y1 y2 y3 y4 y5 y6 y7 y8 y9 y10 y11 y12 y13 y14 y15 y16 y17 y18 y19 y20 y21 y22 y23 y24 y25
        clear hn hd
        subst hA
        go_wp2_with fail
        go_ret
        exact ⟨ret_bool (by rfl), HB.out.trans (hC.mono HB.out.size)⟩

      | false =>
        refine wp_region_typed (C := fun w' => Below V.heap.size V w') (X := fun w w' => Below w.heap.size w w') (n := 26) (by kernel_rfl) (by kernel_rfl) rfl (fun w => Below.refl _ w) (Below.refl _ _).drew ?_
        refine w_is (fun w => Below.refl _ w) _ (.inl rfl) (fun ρ w hC hc hfn hf => by have e2 : ρ (.tmp 2) = _ := hf 2 (by decide); (conv => lhs; simp [execOp, go_sem, hc, e2, kc w hC])) ?_
        refine w_call (Is _) (fun _ _ _ h _ => h) 197 (.inl rfl) (fun ρ w hC hc hfn hf => by have e9 : ρ (.tmp 9) = _ := hf 9 (by decide); exact ⟨_, by (conv => lhs; simp [execOp, resolve, invoke, go_sem, hc, hfn, e9]), tc_below hC (CO w)⟩) ?_
        refine w_is (fun w => Below.refl _ w) _ (.inl rfl) (fun ρ w hC hc hfn hf => by have e10 : ρ (.tmp 10) = _ := hf 10 (by decide); (conv => lhs; simp [execOp, go_sem, hc, e10])) ?_
        refine w_is (fun w => Below.refl _ w) _ (.inr ⟨2, 11, true, rfl, rfl, known_is rfl⟩) (fun ρ w hC hc hfn hf => by have e1 : ρ (.tmp 1) = _ := hf 1 (by decide); (conv => lhs; simp [execOp, go_sem, hc, e1])) ?_
        refine w_is (fun w => Below.refl _ w) _ (.inr ⟨2, 11, true, rfl, rfl, known_is rfl⟩) (fun ρ w hC hc hfn hf => by have e2 : ρ (.tmp 2) = _ := hf 2 (by decide); (conv => lhs; simp [execOp, go_sem, hc, e2])) ?_
        refine w_is (fun w => Below.refl _ w) _ (.inr ⟨2, 11, true, rfl, rfl, known_is rfl⟩) (fun ρ w hC hc hfn hf => by have e13 : ρ (.tmp 13) = _ := hf 13 (by decide); (conv => lhs; simp [execOp, go_sem, hc, e13, kc w hC])) ?_
        refine w_call (Is _) (fun _ _ _ h _ => h) 198 (.inr ⟨2, 11, true, rfl, rfl, known_is rfl⟩) (fun ρ w hC hc hfn hf => by have e12 : ρ (.tmp 12) = _ := hf 12 (by decide); have e14 : ρ (.tmp 14) = _ := hf 14 (by decide); exact ⟨_, by (conv => lhs; simp [execOp, resolve, invoke, go_sem, hc, hfn, e12, e14]), tc_below hC (CA w)⟩) ?_
        refine w_is (fun w => Below.refl _ w) _ (.inr ⟨2, 11, true, rfl, rfl, known_is rfl⟩) (fun ρ w hC hc hfn hf => by have e15 : ρ (.tmp 15) = _ := hf 15 (by decide); (conv => lhs; simp [execOp, go_sem, hc, e15])) ?_
        refine w_is (fun w => Below.refl _ w) _ (.inr ⟨7, 16, false, rfl, rfl, known_is rfl⟩) (fun ρ w hC hc hfn hf => by have e2 : ρ (.tmp 2) = _ := hf 2 (by decide); (conv => lhs; simp [execOp, go_sem, hc, e2])) ?_
        refine w_is (fun w => Below.refl _ w) _ (.inr ⟨7, 16, false, rfl, rfl, known_is rfl⟩) (fun ρ w hC hc hfn hf => by have e17 : ρ (.tmp 17) = _ := hf 17 (by decide); (conv => lhs; simp [execOp, go_sem, hc, e17, kc w hC])) ?_
        refine w_is (fun w => Below.refl _ w) _ (.inr ⟨7, 16, false, rfl, rfl, known_is rfl⟩) (fun ρ w hC hc hfn hf => by have e5 : ρ (.tmp 5) = _ := hf 5 (by decide); (conv => lhs; simp [execOp, go_sem, hc, e5])) ?_
        refine w_is (fun w => Below.refl _ w) _ (.inr ⟨7, 16, false, rfl, rfl, known_is rfl⟩) (fun ρ w hC hc hfn hf => by have e1 : ρ (.tmp 1) = _ := hf 1 (by decide); (conv => lhs; simp [execOp, go_sem, hc, e1])) ?_
        refine w_call (Is _) (fun _ _ _ h _ => h) 196 (.inr ⟨7, 16, false, rfl, rfl, known_is rfl⟩) (fun ρ w hC hc hfn hf => by have e19 : ρ (.tmp 19) = _ := hf 19 (by decide); have e20 : ρ (.tmp 20) = _ := hf 20 (by decide); exact ⟨_, by (conv => lhs; simp [execOp, resolve, invoke, go_sem, hc, hfn, e19, e20]), tc_below hC (CB w)⟩) ?_
        refine w_is (fun w => Below.refl _ w) _ (.inr ⟨7, 16, false, rfl, rfl, known_is rfl⟩) (fun ρ w hC hc hfn hf => by have e18 : ρ (.tmp 18) = _ := hf 18 (by decide); have e21 : ρ (.tmp 21) = _ := hf 21 (by decide); (conv => lhs; simp [execOp, go_sem, hc, e18, e21, hZ])) ?_
        refine w_is (fun w => Below.refl _ w) _ (.inr ⟨7, 16, false, rfl, rfl, known_is rfl⟩) (fun ρ w hC hc hfn hf => by have e22 : ρ (.tmp 22) = _ := hf 22 (by decide); (conv => lhs; simp [execOp, go_sem, hc, e22, hz'])) ?_
        refine w_is (fun w => Below.refl _ w) _ (.inr ⟨2, 11, true, rfl, rfl, known_is rfl⟩) (fun ρ w hC hc hfn hf => by have e16 : ρ (.tmp 16) = _ := hf 16 (by decide); have e23 : ρ (.tmp 23) = _ := hf 23 (by decide); (conv => lhs; simp [execOp, go_sem, hc, e16, e23])) ?_
        refine w_is (fun w => Below.refl _ w) _ (.inl rfl) (fun ρ w hC hc hfn hf => by have e11 : ρ (.tmp 11) = _ := hf 11 (by decide); have e24 : ρ (.tmp 24) = _ := hf 24 (by decide); (conv => lhs; simp [execOp, go_sem, hc, e11, e24])) ?_
        refine w_is (fun w => Below.refl _ w) _ (.inl rfl) (fun ρ w hC hc hfn hf => by have e25 : ρ (.tmp 25) = _ := hf 25 (by decide); (conv => lhs; simp [execOp, go_sem, hc, e25])) ?_
        intro A V5 hC hn hd hf
        have y0 : A.eval (.tmp 0) = _ := Eq.trans (hf 0) (by conv => lhs; simp [go_sem])
        have y1 : A.eval (.tmp 1) = _ := Eq.trans (hf 1) (by conv => lhs; simp [go_sem])
        have y2 : A.eval (.tmp 2) = _ := Eq.trans (hf 2) (by conv => lhs; simp [go_sem])
        have y3 : A.eval (.tmp 3) = _ := Eq.trans (hf 3) (by conv => lhs; simp [go_sem])
        have y4 : A.eval (.tmp 4) = _ := hf 4
        have y5 : A.eval (.tmp 5) = _ := Eq.trans (hf 5) (by conv => lhs; simp [go_sem])
        have y6 : A.eval (.tmp 6) = _ := Eq.trans (hf 6) (by conv => lhs; simp [go_sem])
        have y7 : A.eval (.tmp 7) = _ := Eq.trans (hf 7) (by conv => lhs; simp [go_sem])
        have y8 : A.eval (.tmp 8) = _ := Eq.trans (hf 8) (by conv => lhs; simp [go_sem])
        have y9 : A.eval (.tmp 9) = _ := hf 9
        have y10 : A.eval (.tmp 10) = _ := hf 10
        have y11 : A.eval (.tmp 11) = _ := hf 11
        have y12 : A.eval (.tmp 12) = _ := hf 12
        have y13 : A.eval (.tmp 13) = _ := hf 13
        have y14 : A.eval (.tmp 14) = _ := hf 14
        have y15 : A.eval (.tmp 15) = _ := hf 15
        have y16 : A.eval (.tmp 16) = _ := hf 16
        have y17 : A.eval (.tmp 17) = _ := hf 17
        have y18 : A.eval (.tmp 18) = _ := hf 18
        have y19 : A.eval (.tmp 19) = _ := hf 19
        have y20 : A.eval (.tmp 20) = _ := hf 20
        have y21 : A.eval (.tmp 21) = _ := hf 21
        have y22 : A.eval (.tmp 22) = _ := hf 22
        have y23 : A.eval (.tmp 23) = _ := hf 23
        have y24 : A.eval (.tmp 24) = _ := hf 24
        have y25 : A.eval (.tmp 25) = _ := hf 25
        clear hf
        have hA := frame_eq hn
        rw [show List.range 26 = [0, 1, 2, 3, 4, 5, 6, 7, 8, 9, 10, 11, 12, 13, 14, 15, 16, 17, 18, 19, 20, 21, 22, 23, 24, 25] from rfl, hd] at hA
        simp only [List.map_cons, List.map_nil, y0, y1, y2, y3, y4, y5, y6, y7, y8, y9, y10, y11, y12, y13, y14, y15, y16, y17, y18, y19, y20, y21, y22, y23, y24, y25] at hA
        clear y0 y1 y2 y3 y4 y5 y6 y7 y8 y9 y10 y11 y12 y13 y14 y15 y16 y17 y18 y19 y20 y21 y22 y23 y24 y25
        clear hn hd
        subst hA
        go_wp2_with fail
        go_ret
        exact ⟨ret_bool (by rfl), HB.out.trans (hC.mono HB.out.size)⟩
end Go.Proofs.YtdigjklhfimnbaaGreat
