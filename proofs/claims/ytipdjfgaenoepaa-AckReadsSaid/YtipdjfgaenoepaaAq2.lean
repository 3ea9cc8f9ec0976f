/- Whether Ids rise; which rows of acks are right: the program's Check. No conditions but on lengths. -/
import Derived.Test.YtipdjfgaenoepaaAq1
import Derived.Test.YtipdjfgaenoepaaAkr
namespace Go.Proofs.Ytipdjfgaenoepaa
set_option maxRecDepth 100000
open Go.RowKit

/-- The Id ahead. -/
def preI (ys : List (Int × Int × Int × Int)) (i : Nat) : Int := if i = 0 then -1 else (ys.getD (i - 1) (0, 0, 0, 0)).1
def Rise (ys : List (Int × Int × Int × Int)) : Prop := ∀ i, i < ys.length → preI ys i < (ys.getD i (0, 0, 0, 0)).1
instance (ys : List (Int × Int × Int × Int)) : Decidable (Rise ys) := by unfold Rise; infer_instance
theorem rise_ge {ys : List (Int × Int × Int × Int)} (h : Rise ys) : ∀ i, i < ys.length → (i : Int) ≤ (ys.getD i (0, 0, 0, 0)).1
  | 0, hi => by have := h 0 hi; simp only [preI, if_true] at this; omega
  | i + 1, hi => by
    have h1 := rise_ge h i (by omega)
    have h2 := h (i + 1) hi
    simp only [preI, Nat.add_sub_cancel] at h2
    rw [if_neg (by omega)] at h2
    omega
theorem aksok_iff (ys : List (Int × Int × Int × Int)) : AksOk ys ↔ ys.length ≠ 0 ∧ Rise ys ∧ ∀ i, i < ys.length → AkOne (ys.getD i (0, 0, 0, 0)) := by
  constructor
  · rintro ⟨h1, h2, h3⟩
    refine ⟨by omega, fun i hi => ?_, fun i hi => (h1 i hi).1⟩
    unfold preI
    by_cases h : i = 0
    · rw [if_pos h]
      have := (h1 i hi).1.1.1
      omega
    · rw [if_neg h]; exact (h1 i hi).2 (by omega)
  · rintro ⟨h1, h2, h3⟩
    refine ⟨fun i hi => ⟨h3 i hi, fun h => ?_⟩, by omega, ?_⟩
    · have := h2 i hi
      unfold preI at this
      rwa [if_neg (by omega)] at this
    · have h4 := rise_ge h2 (ys.length - 1) (by omega)
      have h5 := (h3 (ys.length - 1) (by omega)).1.2
      omega
set_option maxHeartbeats 8000000 in
theorem akrise_fix (v : Value) (ys : List (Int × Int × Int × Int)) (Q : Bool) (hQ : Q = true ↔ Rise ys) (w : World) (hy : As w v ys) (hl : ys.length ≤ 3000) :
    Calls Try.prog 30 #[v] w fun e w' => e = .returned (.bool Q) ∧ Below w.heap.size w w' := by
  obtain ⟨a, c, rfl⟩ := hy.form
  have HQ := Lib.hid hQ
  have HY := Lib.hid hy
  clear hy hQ
  go_enter Try.func30, Try.ntmps30
  go_wp2_with fail
  go_loopw [3, 8] (fun p i wr => ∃ k : Nat, k ≤ ys.length ∧ i = .int .i64 k ∧ p = .int .i64 (preI ys k) ∧ (∀ i, i < k → preI ys i < (ys.getD i (0, 0, 0, 0)).1) ∧ Below w.heap.size w wr) (fun _ i _ => ys.length - (intOf i).toNat)
  case atStart => exact ⟨0, Nat.zero_le _, rfl, rfl, fun i h => absurd h (Nat.not_lt_zero _), Below.refl _ _⟩
  case round =>
    obtain ⟨k, hk, rfl, rfl, hok, hbel⟩ := hrel
    have HO := Lib.hid hok
    have HW := Lib.hid hbel
    clear hok hbel
    by_cases hlt : k < ys.length
    · have YV := Lib.hid (HY.out.below HW.out)
      obtain ⟨b, off, rfl, hB, p0⟩ := YV.out.at hlt
      obtain ⟨⟨y1, y2, y3, y4⟩, hyk⟩ : ∃ y, ys.getD k (0, 0, 0, 0) = y := ⟨_, rfl⟩
      have HS : Hid (preI ys (k + 1) = y1) := by
        show _ = _
        unfold preI
        rw [if_neg (by omega), Nat.add_sub_cancel, hyk]
      obtain ⟨P, hP⟩ : ∃ P, preI ys k = P := ⟨_, rfl⟩
      rw [hyk] at p0
      rw [hP]
      have HK := Lib.hid hyk
      have HP := Lib.hid hP
      have HA : Hid (Below w.heap.size w (wr.alloc (.cells #[.int .i64 y1, .int .i64 y2, .int .i64 y3, .int .i64 y4] 30))) := HW.out.alloc HW.out.size _
      clear hyk hP
      obtain ⟨p0, p1, p2, p3⟩ := p0
      simp only at p0 p1 p2 p3
      by_cases g : y1 ≤ P
      · have F : Hid (Q = false) := by
          show Q = false
          cases hq : Q with
          | false => rfl
          | true => have h9 := (HQ.out.1 hq) k hlt; rw [HK.out, HP.out] at h9; simp only at h9; omega
        go_wp2_with fail
        go_ret
        exact ⟨by rw [F.out]; rfl, HA.out⟩
      · have g' : decide (y1 ≤ P) = false := decide_eq_false g
        go_wp2_with fail
        go_roundw
        case rel =>
          refine ⟨k + 1, by omega, by go_num, by rw [HS.out], fun j hj => ?_, HA.out⟩
          by_cases h : j < k
          · exact HO.out j h
          · obtain rfl : j = k := by omega
            rw [HK.out, HP.out]; simp only; omega
        case measure => simp [intOf]; omega
    · obtain rfl : k = ys.length := by omega
      have F : Hid (Q = true) := HQ.out.2 HO.out
      go_wp2_with fail
      go_ret
      exact ⟨by rw [F.out]; rfl, HW.out⟩
def errQ : Bool → Int
  | true => 0
  | false => 1
set_option maxHeartbeats 8000000 in
theorem akcheck_fix (v : Value) (ys : List (Int × Int × Int × Int)) (Q : Bool) (hQ : Q = true ↔ AksOk ys) (w : World) (hy : As w v ys) (hl : ys.length ≤ 3000) :
    Calls Try.prog 14 #[v] w fun e w' => e = .returned (.int .i64 (errQ Q)) ∧ Below w.heap.size w w' := by
  obtain ⟨a, c, rfl⟩ := hy.form
  rw [aksok_iff] at hQ
  have HQ := Lib.hid hQ
  have HY := Lib.hid hy
  clear hQ
  by_cases h0 : ys.length = 0
  · have F : Hid (Q = false) := by
      show Q = false
      cases hq : Q with
      | false => rfl
      | true => exact absurd h0 (HQ.out.1 hq).1
    have h0' : ((ys.length : Int) == 0) = true := by simp [h0]
    go_enter Try.func14, Try.ntmps14
    go_wp2_with fail
    go_ret
    exact ⟨by rw [F.out]; rfl, Below.refl _ _⟩
  · have h0' : ((ys.length : Int) == 0) = false := beq_eq_false_iff_ne.2 (by omega)
    have HN := Lib.hid h0
    obtain ⟨q, hq⟩ : ∃ q : Bool, q = true ↔ Rise ys := ⟨decide (Rise ys), decide_eq_true_iff⟩
    have CR := Lib.hid (akrise_fix (.slice a ys.length c) ys q hq w hy hl)
    have HR := Lib.hid hq
    clear hq hy
    go_enter Try.func14, Try.ntmps14
    go_wp2_with fail
    refine CR.out.mono ?_
    rintro e w2 ⟨rfl, hb⟩
    have HB := Lib.hid hb
    clear hb CR h0'
    cases q with
    | false =>
      have F : Hid (Q = false) := by
        show Q = false
        cases hq : Q with
        | false => rfl
        | true => have h9 := HR.out.2 (HQ.out.1 hq).2.1; cases h9
      go_wp2_with fail
      go_ret
      exact ⟨by rw [F.out]; rfl, HB.out⟩
    | true =>
      have HR2 : Hid (Rise ys) := HR.out.1 rfl
      go_wp2_with fail
      go_loopw [15] (fun i wr => ∃ k : Nat, k ≤ ys.length ∧ i = .int .i64 k ∧ (∀ i, i < k → AkOne (ys.getD i (0, 0, 0, 0))) ∧ Below w.heap.size w wr) (fun i _ => ys.length - (intOf i).toNat)
      case atStart => exact ⟨0, Nat.zero_le _, rfl, fun i h => absurd h (Nat.not_lt_zero _), HB.out⟩
      case round =>
        obtain ⟨k, hk, rfl, hok, hbel⟩ := hrel
        have HO := Lib.hid hok
        have HW := Lib.hid hbel
        clear hok hbel
        by_cases hlt : k < ys.length
        · have YV := Lib.hid (HY.out.below HW.out)
          obtain ⟨b, off, rfl, hB, p0⟩ := YV.out.at hlt
          obtain ⟨⟨y1, y2, y3, y4⟩, hyk⟩ : ∃ y, ys.getD k (0, 0, 0, 0) = y := ⟨_, rfl⟩
          rw [hyk] at p0
          have HK := Lib.hid hyk
          have HA : Hid (Below w.heap.size w (wr.alloc (.cells #[.int .i64 y1, .int .i64 y2, .int .i64 y3, .int .i64 y4] 30))) := HW.out.alloc HW.out.size _
          obtain ⟨q2, hq2⟩ : ∃ q : Bool, q = true ↔ AkOne (y1, y2, y3, y4) := ⟨decide (AkOne (y1, y2, y3, y4)), decide_eq_true_iff⟩
          have CO := Lib.hid (fun W => akone_fix y1 y2 y3 y4 q2 hq2 W)
          have HE := Lib.hid hq2
          clear hyk hq2
          obtain ⟨p0, p1, p2, p3⟩ := p0
          simp only at p0 p1 p2 p3
          go_wp2_with fail
          refine (CO.out _).mono ?_
          rintro e w3 ⟨rfl, hb⟩
          have HB3 : Hid (Below w.heap.size w w3) := HA.out.trans (hb.mono HA.out.size)
          clear hb
          cases q2 with
          | false =>
            have F : Hid (Q = false) := by
              show Q = false
              cases hq : Q with
              | false => rfl
              | true => have h9 := (HQ.out.1 hq).2.2 k hlt; rw [HK.out] at h9; have h8 := HE.out.2 h9; cases h8
            go_wp2_with fail
            go_ret
            exact ⟨by rw [F.out]; rfl, HB3.out⟩
          | true =>
            have HE2 : Hid (AkOne (y1, y2, y3, y4)) := HE.out.1 rfl
            go_wp2_with fail
            go_roundw
            case rel =>
              refine ⟨k + 1, by omega, by go_num, fun j hj => ?_, HB3.out⟩
              by_cases h : j < k
              · exact HO.out j h
              · obtain rfl : j = k := by omega
                rw [HK.out]; exact HE2.out
            case measure => simp [intOf]; omega
        · obtain rfl : k = ys.length := by omega
          have F : Hid (Q = true) := HQ.out.2 ⟨HN.out, HR2.out, HO.out⟩
          go_wp2_with fail
          go_ret
          exact ⟨by rw [F.out]; rfl, HW.out⟩
#print axioms akrise_fix
#print axioms akcheck_fix
end Go.Proofs.Ytipdjfgaenoepaa
