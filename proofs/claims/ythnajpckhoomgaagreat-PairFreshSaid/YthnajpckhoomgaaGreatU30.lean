/- Texts Aq2, Aq5, Pq6 of this proof, in one. No conditions but on lengths. -/
import Derived.Test.YthnajpckhoomgaaGreatRows
import Derived.Test.YthnajpckhoomgaaGreatU17
import Derived.Test.YthnajpckhoomgaaGreatU21
import Derived.Test.YthnajpckhoomgaaGreatU23
import Derived.Test.YthnajpckhoomgaaGreatU24
import Derived.Test.YthnajpckhoomgaaGreatU28
import Derived.ArgAppend
import Derived.Below
import Derived.BigQuiet
import Derived.Calls
import Derived.ChangeArms
import Derived.ChangeMade
import Derived.ChangeOld
import Derived.Deep.Cut
import Derived.Deep.CutBlock
import Derived.Deep.QuietTactic
import Derived.Deep.RegionHeld
import Derived.Deep.RegionLaw
import Derived.Deep.RegionWith
import Derived.Deep.Slices
import Derived.Laws.AppendOwnNone
import Derived.Laws.BitsLemmas
import Derived.Laws.BytesArg
import Derived.Laws.LoneSync
import Derived.Laws.OwnMore
import Derived.Laws.StructEq
import Derived.Lib.Hide
import Derived.Lib.QuietBelow
import Derived.Lib.SliceRun
import Derived.LoopIn
import Derived.LoopTactic
import Derived.Maps.AppendAt
import Derived.OpenShut
import Derived.Orders
import Derived.Outline
import Derived.OwnWalkIn
import Derived.ProofKit
import Derived.RangeFuncBox
import Derived.RangeFuncCalls
import Derived.RangeFuncLeaves
import Derived.RangeFuncNested
import Derived.Shelf.RegionOpen
import Derived.Shelf.RegionOpenPlain
import Derived.ShutString
import Derived.StillTail
import Derived.TacticsInMore
import Derived.WalkKit
import Derived.WalkLawsBesides
import Derived.WalkSpells
import Derived.WideShapes
namespace Go.Proofs.YthnajpckhoomgaaGreat
set_option maxRecDepth 100000
open Go.RowKit

/-- The Id ahead. -/
def preI (ys : List (Int × Int × Int × Int)) (i : Nat) : Int := if i = 0 then -1 else (ys.getD (i - 1) (0, 0, 0, 0)).1
def Rise (ys : List (Int × Int × Int × Int)) : Prop := ∀ i, i < ys.length → preI ys i < (ys.getD i (0, 0, 0, 0)).1
instance (ys : List (Int × Int × Int × Int)) : Decidable (Rise ys) := by unfold Rise; infer_instance
theorem rise_ge {ys : List (Int × Int × Int × Int)} (h : Rise ys) : ∀ i, i < ys.length → (i : Int) ≤ (ys.getD i (0, 0, 0, 0)).1
  | 0, hi => by have := h 0 hi; simp only [preI, if_true] at this; omega
  | i + 1, hi => by
    have h1 := rise_ge h i (by omega)
    have h2 := h (i + 1) hi
    simp only [preI, Nat.add_sub_cancel] at h2
    rw [if_neg (by omega)] at h2
    omega
theorem aksok_iff (ys : List (Int × Int × Int × Int)) : AksOk ys ↔ ys.length ≠ 0 ∧ Rise ys ∧ ∀ i, i < ys.length → AkOne (ys.getD i (0, 0, 0, 0)) := by
  constructor
  · rintro ⟨h1, h2, h3⟩
    refine ⟨by omega, fun i hi => ?_, fun i hi => (h1 i hi).1⟩
    unfold preI
    by_cases h : i = 0
    · rw [if_pos h]
      have := (h1 i hi).1.1.1
      omega
    · rw [if_neg h]; exact (h1 i hi).2 (by omega)
  · rintro ⟨h1, h2, h3⟩
    refine ⟨fun i hi => ⟨h3 i hi, fun h => ?_⟩, by omega, ?_⟩
    · have := h2 i hi
      unfold preI at this
      rwa [if_neg (by omega)] at this
    · have h4 := rise_ge h2 (ys.length - 1) (by omega)
      have h5 := (h3 (ys.length - 1) (by omega)).1.2
      omega
set_option maxHeartbeats 8000000 in
theorem akrise_fix (v : Value) (ys : List (Int × Int × Int × Int)) (Q : Bool) (hQ : Q = true ↔ Rise ys) (w : World) (hy : As w v ys) (hl : ys.length ≤ 3000) :
    Calls Tryz.prog 241 #[v] w fun e w' => e = .returned (.bool Q) ∧ Below w.heap.size w w' := by
  obtain ⟨a, c, rfl⟩ := hy.form
  have HQ := Lib.hid hQ
  have HY := Lib.hid hy
  clear hy hQ
  go_enter Tryz.func241, Tryz.ntmps241
  go_wp2_with fail
  go_loopw [3, 8] (fun p i wr => ∃ k : Nat, k ≤ ys.length ∧ i = .int .i64 k ∧ p = .int .i64 (preI ys k) ∧ (∀ i, i < k → preI ys i < (ys.getD i (0, 0, 0, 0)).1) ∧ Below w.heap.size w wr) (fun _ i _ => ys.length - (intOf i).toNat)
  case atStart => exact ⟨0, Nat.zero_le _, rfl, rfl, fun i h => absurd h (Nat.not_lt_zero _), Below.refl _ _⟩
  case round =>
    obtain ⟨k, hk, rfl, rfl, hok, hbel⟩ := hrel
    have HO := Lib.hid hok
    have HW := Lib.hid hbel
    clear hok hbel
    by_cases hlt : k < ys.length
    · have YV := Lib.hid (HY.out.below HW.out)
      obtain ⟨b, off, rfl, hB, p0⟩ := YV.out.at hlt
      obtain ⟨⟨y1, y2, y3, y4⟩, hyk⟩ : ∃ y, ys.getD k (0, 0, 0, 0) = y := ⟨_, rfl⟩
      have HS : Hid (preI ys (k + 1) = y1) := by
        show _ = _
        unfold preI
        rw [if_neg (by omega), Nat.add_sub_cancel, hyk]
      obtain ⟨P, hP⟩ : ∃ P, preI ys k = P := ⟨_, rfl⟩
      rw [hyk] at p0
      rw [hP]
      have HK := Lib.hid hyk
      have HP := Lib.hid hP
      have HA : Hid (Below w.heap.size w (wr.alloc (.cells #[.int .i64 y1, .int .i64 y2, .int .i64 y3, .int .i64 y4] 112))) := HW.out.alloc HW.out.size _
      clear hyk hP
      obtain ⟨p0, p1, p2, p3⟩ := p0
      simp only at p0 p1 p2 p3
      by_cases g : y1 ≤ P
      · have F : Hid (Q = false) := by
          show Q = false
          cases hq : Q with
          | false => rfl
          | true => have h9 := (HQ.out.1 hq) k hlt; rw [HK.out, HP.out] at h9; simp only at h9; omega
        go_wp2_with fail
        go_ret
        exact ⟨by rw [F.out]; rfl, HA.out⟩
      · have g' : decide (y1 ≤ P) = false := decide_eq_false g
        go_wp2_with fail
        go_roundw
        case rel =>
          refine ⟨k + 1, by omega, by go_num, by rw [HS.out], fun j hj => ?_, HA.out⟩
          by_cases h : j < k
          · exact HO.out j h
          · obtain rfl : j = k := by omega
            rw [HK.out, HP.out]; simp only; omega
        case measure => simp [intOf]; omega
    · obtain rfl : k = ys.length := by omega
      have F : Hid (Q = true) := HQ.out.2 HO.out
      go_wp2_with fail
      go_ret
      exact ⟨by rw [F.out]; rfl, HW.out⟩
def errQ : Bool → Int
  | true => 0
  | false => 1
set_option maxHeartbeats 8000000 in
theorem akcheck_fix (v : Value) (ys : List (Int × Int × Int × Int)) (Q : Bool) (hQ : Q = true ↔ AksOk ys) (w : World) (hy : As w v ys) (hl : ys.length ≤ 3000) :
    Calls Tryz.prog 221 #[v] w fun e w' => e = .returned (.int .i64 (errQ Q)) ∧ Below w.heap.size w w' := by
  obtain ⟨a, c, rfl⟩ := hy.form
  rw [aksok_iff] at hQ
  have HQ := Lib.hid hQ
  have HY := Lib.hid hy
  clear hQ
  by_cases h0 : ys.length = 0
  · have F : Hid (Q = false) := by
      show Q = false
      cases hq : Q with
      | false => rfl
      | true => exact absurd h0 (HQ.out.1 hq).1
    have h0' : ((ys.length : Int) == 0) = true := by simp [h0]
    go_enter Tryz.func221, Tryz.ntmps221
    go_wp2_with fail
    go_ret
    exact ⟨by rw [F.out]; rfl, Below.refl _ _⟩
  · have h0' : ((ys.length : Int) == 0) = false := beq_eq_false_iff_ne.2 (by omega)
    have HN := Lib.hid h0
    obtain ⟨q, hq⟩ : ∃ q : Bool, q = true ↔ Rise ys := ⟨decide (Rise ys), decide_eq_true_iff⟩
    have CR := Lib.hid (akrise_fix (.slice a ys.length c) ys q hq w hy hl)
    have HR := Lib.hid hq
    clear hq hy
    go_enter Tryz.func221, Tryz.ntmps221
    go_wp2_with fail
    refine CR.out.mono ?_
    rintro e w2 ⟨rfl, hb⟩
    have HB := Lib.hid hb
    clear hb CR h0'
    cases q with
    | false =>
      have F : Hid (Q = false) := by
        show Q = false
        cases hq : Q with
        | false => rfl
        | true => have h9 := HR.out.2 (HQ.out.1 hq).2.1; cases h9
      go_wp2_with fail
      go_ret
      exact ⟨by rw [F.out]; rfl, HB.out⟩
    | true =>
      have HR2 : Hid (Rise ys) := HR.out.1 rfl
      go_wp2_with fail
      go_loopw [15] (fun i wr => ∃ k : Nat, k ≤ ys.length ∧ i = .int .i64 k ∧ (∀ i, i < k → AkOne (ys.getD i (0, 0, 0, 0))) ∧ Below w.heap.size w wr) (fun i _ => ys.length - (intOf i).toNat)
      case atStart => exact ⟨0, Nat.zero_le _, rfl, fun i h => absurd h (Nat.not_lt_zero _), HB.out⟩
      case round =>
        obtain ⟨k, hk, rfl, hok, hbel⟩ := hrel
        have HO := Lib.hid hok
        have HW := Lib.hid hbel
        clear hok hbel
        by_cases hlt : k < ys.length
        · have YV := Lib.hid (HY.out.below HW.out)
          obtain ⟨b, off, rfl, hB, p0⟩ := YV.out.at hlt
          obtain ⟨⟨y1, y2, y3, y4⟩, hyk⟩ : ∃ y, ys.getD k (0, 0, 0, 0) = y := ⟨_, rfl⟩
          rw [hyk] at p0
          have HK := Lib.hid hyk
          have HA : Hid (Below w.heap.size w (wr.alloc (.cells #[.int .i64 y1, .int .i64 y2, .int .i64 y3, .int .i64 y4] 112))) := HW.out.alloc HW.out.size _
          obtain ⟨q2, hq2⟩ : ∃ q : Bool, q = true ↔ AkOne (y1, y2, y3, y4) := ⟨decide (AkOne (y1, y2, y3, y4)), decide_eq_true_iff⟩
          have CO := Lib.hid (fun W => akone_fix y1 y2 y3 y4 q2 hq2 W)
          have HE := Lib.hid hq2
          clear hyk hq2
          obtain ⟨p0, p1, p2, p3⟩ := p0
          simp only at p0 p1 p2 p3
          go_wp2_with fail
          refine (CO.out _).mono ?_
          rintro e w3 ⟨rfl, hb⟩
          have HB3 : Hid (Below w.heap.size w w3) := HA.out.trans (hb.mono HA.out.size)
          clear hb
          cases q2 with
          | false =>
            have F : Hid (Q = false) := by
              show Q = false
              cases hq : Q with
              | false => rfl
              | true => have h9 := (HQ.out.1 hq).2.2 k hlt; rw [HK.out] at h9; have h8 := HE.out.2 h9; cases h8
            go_wp2_with fail
            go_ret
            exact ⟨by rw [F.out]; rfl, HB3.out⟩
          | true =>
            have HE2 : Hid (AkOne (y1, y2, y3, y4)) := HE.out.1 rfl
            go_wp2_with fail
            go_roundw
            case rel =>
              refine ⟨k + 1, by omega, by go_num, fun j hj => ?_, HB3.out⟩
              by_cases h : j < k
              · exact HO.out j h
              · obtain rfl : j = k := by omega
                rw [HK.out]; exact HE2.out
            case measure => simp [intOf]; omega
        · obtain rfl : k = ys.length := by omega
          have F : Hid (Q = true) := HQ.out.2 ⟨HN.out, HR2.out, HO.out⟩
          go_wp2_with fail
          go_ret
          exact ⟨by rw [F.out]; rfl, HW.out⟩
end Go.Proofs.YthnajpckhoomgaaGreat
namespace Go.Proofs.YthnajpckhoomgaaGreat
set_option maxRecDepth 100000
open Go.RowKit

section
variable (R : RowT)
end
theorem brun7 (w : World) (ty : TypeId) (S : Nat) (v : Value) (xs : List Int) (hown : OwB w S v xs) (S' : Nat) (u : Value) (ys : List Int) (hu : OwB w S' u ys) (hl : xs.length + ys.length ≤ 3000) (hS : S ≤ w.heap.size) :
    ∃ r w', (Builtin.append_ #[115, 115] ty #[v, u]).run Tryz.prog w = .ok r w' ∧ OwB w' S r (xs ++ ys) ∧ w.grownBy w' v.ownBlock ∧ ∀ g, r.ownBlock = some g → v.ownBlock = some g ∨ w.heap.size ≤ g := by
  obtain ⟨r, w', hr, h1, h2, h3⟩ := run_gapps3 RB w ty S v xs hown.to S' u ys hu.to hl hS
  exact ⟨r, w', hr, OwB.of h1, h2, h3⟩
/-- 'x = append(x, y...)' of bytes: of the row that it hands back it is the elder one's block, or a new one. -/
theorem app_sep {ops : Array Oper} {rest : List Oper} {o : Oper} {a : Act} {Q : Exit → Act → World → Prop} {w : World} (hgd : o.guard = none) (s x : Operand)
    (ho : o.op = .call { callee := .builtin .append, args := #[s, x], argTypes := #[115, 115] }) (S : Nat) (xs : List Int) (hown : OwB w S (a.eval s) xs) (S' : Nat) (ys : List Int) (hu : OwB w S' (a.eval x) ys) (hl : xs.length + ys.length ≤ 3000) (hS : S ≤ w.heap.size)
    (h : ∀ v' w', OwB w' S v' (xs ++ ys) → w.grownBy w' (a.eval s).ownBlock → (∀ g, v'.ownBlock = some g → (a.eval s).ownBlock = some g ∨ w.heap.size ≤ g) → wpList Tryz.prog ops Q rest (a.put o.dst v') w') : wpList Tryz.prog ops Q (o :: rest) a w := by
  obtain ⟨v', w', hr, h2, h3, h4⟩ := brun7 w o.type S _ xs hown S' _ ys hu hl hS
  refine wpList_plain hgd fun _ hK => ?_
  unfold Oper.wp execOp
  simp only [ho, resolve, invoke, builtin, Sem.run_bind, Sem.run_pure, Result.andThen_ok, List.map_toArray, List.map_cons, List.map_nil, hr]
  exact hK _ _ (h v' w' h2 h3 h4)
/-- A row that none of these blocks holds. -/
def Sep (lo hi : Nat) (v : Value) : Prop := ∀ g, v.ownBlock = some g → g < lo ∨ hi ≤ g
/-- A row between. -/
def Btw (w : World) (lo hi : Nat) (v : Value) (xs : List Int) : Prop := OwB w lo v xs ∧ ∀ g, v.ownBlock = some g → g < hi
theorem Btw.grown {w w' : World} {lo hi : Nat} {r v : Value} {xs : List Int} (h : Btw w lo hi r xs) (hs : Sep lo hi v) (hg : w.grownBy w' v.ownBlock) : Btw w' lo hi r xs := by
  refine ⟨World.ownsRow.kept h.1 hg ?_, h.2⟩
  cases hq : r.ownBlock with
  | none => exact .inl rfl
  | some q => exact .inr (fun e => by have h1 := (h.1.lt q hq).1; have h2 := h.2 q hq; have h3 := hs q e.symm; omega)
theorem Btw.below {w w' : World} {lo hi : Nat} {r : Value} {xs : List Int} (h : Btw w lo hi r xs) (hb : Below w.heap.size w w') : Btw w' lo hi r xs := ⟨h.1.below hb, h.2⟩
theorem Sep.next {lo hi n : Nat} {v v' : Value} (h : Sep lo hi v) (hn : hi ≤ n) (h' : ∀ g, v'.ownBlock = some g → v.ownBlock = some g ∨ n ≤ g) : Sep lo hi v' := fun g hg => by
  rcases h' g hg with h1 | h1
  · exact h g h1
  · exact .inr (Nat.le_trans hn h1)
theorem akputE (v : Int) (w : World) (h : EpOk v) : Calls Tryz.prog 133 #[.int .i64 v, .int .i64 4] w fun e w' => ∃ r, e = .returned (.tuple #[r, .int .i64 0]) ∧ OwB w' w.heap.size r (lo v 4) ∧ Below w.heap.size w w' := by
  refine (put_own v 4 w ⟨h.1, by have := h.2; show v < 256 * (256 * (256 * (256 * 1))); omega⟩ (by decide) (by decide)).mono fun e w' ⟨r, h1, h2, h3⟩ => ⟨r, h1, ?_, h3⟩
  unfold OwB
  rw [lo_len]
  exact h2
theorem akputN (v : Int) (w : World) (h : 0 ≤ v ∧ v ≤ 65535) : Calls Tryz.prog 133 #[.int .i64 v, .int .i64 2] w fun e w' => ∃ r, e = .returned (.tuple #[r, .int .i64 0]) ∧ OwB w' w.heap.size r (lo v 2) ∧ Below w.heap.size w w' := by
  refine (put_own v 2 w ⟨h.1, by have := h.2; show v < 256 * (256 * 1); omega⟩ (by decide) (by decide)).mono fun e w' ⟨r, h1, h2, h3⟩ => ⟨r, h1, ?_, h3⟩
  unfold OwB
  rw [lo_len]
  exact h2
theorem akbytes_no (v : Value) (ys : List (Int × Int × Int × Int)) (w : World) (hy : As w v ys) (hl : ys.length ≤ 3000) (h : ¬ AksOk ys) :
    Calls Tryz.prog 195 #[v] w fun e w' => e = .returned (.tuple #[.slice none 0 0, .int .i64 1]) ∧ Below w.heap.size w w' := by
  have CR := Lib.hid (akcheck_fix v ys false ⟨fun hf => (by cases hf), fun h' => absurd h' h⟩ w hy hl)
  go_enter Tryz.func195, Tryz.ntmps195
  go_wp2_with fail
  refine CR.out.mono ?_
  rintro e w2 ⟨rfl, hb⟩
  have HB2 := Lib.hid hb
  clear hb
  simp only [errQ]
  go_wp2_with fail
  go_ret2
  exact ⟨rfl, HB2.out⟩
set_option maxHeartbeats 16000000 in
theorem akbytes_ok (v : Value) (ys : List (Int × Int × Int × Int)) (w : World) (hy : As w v ys) (h : AksOk ys) :
    Calls Tryz.prog 195 #[v] w fun e w' => (∃ r, e = .returned (.tuple #[r, .int .i64 0]) ∧ OwB w' w.heap.size r (acB ys)) ∧ Below w.heap.size w w' := by
  obtain ⟨a, c, rfl⟩ := hy.form
  have hl := h.2.2
  have HY := Lib.hid hy
  have CR := Lib.hid (akcheck_fix (.slice a ys.length c) ys true ⟨fun _ => h, fun _ => rfl⟩ w hy (by omega))
  have HO := Lib.hid h
  have hwl := u8_len hl
  clear hy h
  go_enter Tryz.func195, Tryz.ntmps195
  go_wp2_with fail
  refine CR.out.mono ?_
  rintro e w2 ⟨rfl, hb⟩
  have HR4 : Hid (OwB (w2.alloc (.cells #[.int .u8 (ys.length : Int)] 5)) w.heap.size (.slice (some ⟨w2.heap.size, 0, none⟩) 1 1) [(ys.length : Int)]) := own_lit1 w2 w.heap.size (ys.length : Int) hb.size w2.heap.size rfl
  have HC4 : Hid (Below w.heap.size w (w2.alloc (.cells #[.int .u8 (ys.length : Int)] 5))) := hb.alloc hb.size _
  clear hb CR
  simp only [errQ]
  go_wp2_with fail
  go_loopw [5, 25] (fun out i wr => ∃ (k : Nat) (v5 : Value), k ≤ ys.length ∧ i = .int .i64 k ∧ v5 = out ∧ OwB wr w.heap.size v5 ([(ys.length : Int)] ++ ((ys.take k).map akB).flatten) ∧ Below w.heap.size w wr) (fun _ i _ => ys.length - (intOf i).toNat)
  case atStart => exact ⟨0, _, Nat.zero_le _, rfl, rfl, by simpa using HR4.out, HC4.out⟩
  case round =>
    obtain ⟨k, v5, hk, rfl, rfl, hrow, hbel⟩ := hrel
    have hPl : ([(ys.length : Int)] ++ ((ys.take k).map akB).flatten).length = 1 + 9 * k := by
      simp only [List.length_append, List.length_cons, List.length_nil, akB_flat_len, List.length_take]; omega
    obtain ⟨P, hP⟩ : ∃ P, [(ys.length : Int)] ++ ((ys.take k).map akB).flatten = P := ⟨_, rfl⟩
    rw [hP] at hrow hPl
    have HPL : Hid (P.length ≤ 600) := by show _ ≤ _; omega
    have HP := Lib.hid hP
    clear hPl hP
    obtain ⟨a5, c5, rfl⟩ := hrow.form
    have HR5 := Lib.hid hrow
    have HC5 := Lib.hid hbel
    have HZ5 : Hid (w.heap.size ≤ wr.heap.size) := hbel.size
    have HY5 : Hid (As wr (.slice a ys.length c) ys) := HY.out.below hbel
    clear hrow hbel HR4 HC4
    by_cases hlt : k < ys.length
    · obtain ⟨b, off, rfl, hB, p0⟩ := HY5.out.at hlt
      have hE := HO.out.1 k hlt
      have hst := akB_step ys k hlt
      obtain ⟨⟨y1, y2, y3, y4⟩, hyk⟩ : ∃ y, ys.getD k (0, 0, 0, 0) = y := ⟨_, rfl⟩
      rw [hyk] at p0 hst
      have hE1 : AkOne (y1, y2, y3, y4) := by rw [← hyk]; exact hE.1
      have HE := Lib.hid hE1
      have HST := Lib.hid hst
      have hw1 : IntKind.u8.wrap y1 = y1 := by have h9 : 0 ≤ y1 ∧ y1 < 64 := HE.out.1; rw [IntKind.wrap_u8]; omega
      clear hE hE1 hst hyk
      obtain ⟨p0, p1, p2, p3⟩ := p0
      simp only at p0 p1 p2 p3
      go_wp2_with fail
      clear p0 p1 p2 p3
      obtain ⟨W5, hW5⟩ : ∃ W5, W5 = wr.alloc (.cells #[.int .i64 y1, .int .i64 y2, .int .i64 y3, .int .i64 y4] 112) := ⟨_, rfl⟩
      have OA : OwnA W5 wr.heap.size (y1, y2, y3, y4) := by rw [hW5]; exact owna_alloc wr y1 y2 y3 y4 112 wr.heap.size rfl
      have hb5 : Below wr.heap.size wr W5 := by rw [hW5]; exact (Below.refl _ wr).alloc (Nat.le_refl _) _
      rw [← hW5]
      clear hW5
      have HB5 := Lib.hid hb5
      have OA5 := Lib.hid OA
      obtain ⟨g, hg⟩ : ∃ g, wr.heap.size = g := ⟨_, rfl⟩
      rw [hg] at OA
      simp only [hg]
      have HG := Lib.hid hg
      clear hg hb5
      obtain ⟨⟨q0, q1, q2, q3⟩, -⟩ := OA
      simp only at q0 q1 q2 q3
      refine (akputE y2 W5 HE.out.2.1).mono ?_
      rintro e w6 ⟨r6, rfl, hr6, hb6⟩
      have HB6 : Hid (Below wr.heap.size wr w6) := HB5.out.trans (hb6.mono HB5.out.size)
      have OA6 := Lib.hid (OA5.out.below hb6)
      have R6 : Hid (Btw w6 wr.heap.size w6.heap.size r6 (lo y2 4)) := ⟨hr6.mono HB5.out.size, fun q hq => (hr6.lt q hq).2⟩
      have D6 := Lib.hid hb6
      clear hb6 hr6 q0 q1 q2 q3
      obtain ⟨⟨q0, q1, q2, q3⟩, -⟩ := OA6.out
      rw [HG.out] at q0 q1 q2 q3
      simp only at q0 q1 q2 q3
      go_wp2_with fail
      refine (akputN y3 w6 HE.out.2.2.1).mono ?_
      rintro e w7 ⟨r7, rfl, hr7, hb7⟩
      have HB7 : Hid (Below wr.heap.size wr w7) := HB6.out.trans (hb7.mono HB6.out.size)
      have OA7 := Lib.hid (OA6.out.below hb7)
      have R7 : Hid (Btw w7 wr.heap.size w7.heap.size r7 (lo y3 2)) := ⟨hr7.mono HB6.out.size, fun q hq => (hr7.lt q hq).2⟩
      have D7 := Lib.hid hb7
      clear hb7 hr7 q0 q1 q2 q3
      obtain ⟨⟨q0, q1, q2, q3⟩, -⟩ := OA7.out
      rw [HG.out] at q0 q1 q2 q3
      simp only at q0 q1 q2 q3
      go_wp2_with fail
      refine (akputN y4 w7 HE.out.2.2.2).mono ?_
      rintro e w8 ⟨r8, rfl, hr8, hb8⟩
      have HB8 : Hid (Below wr.heap.size wr w8) := HB7.out.trans (hb8.mono HB7.out.size)
      have OA8 := Lib.hid (OA7.out.below hb8)
      have R8 : Hid (Btw w8 wr.heap.size w8.heap.size r8 (lo y4 2)) := ⟨hr8.mono HB7.out.size, fun q hq => (hr8.lt q hq).2⟩
      have D8 := Lib.hid hb8
      clear hb8 hr8 q0 q1 q2 q3
      obtain ⟨⟨q0, q1, q2, q3⟩, -⟩ := OA8.out
      rw [HG.out] at q0 q1 q2 q3
      simp only at q0 q1 q2 q3
      have T6 : Hid (Btw w8 wr.heap.size w8.heap.size r6 (lo y2 4)) := ⟨(R6.out.below (D7.out.trans (D8.out.mono D7.out.size))).1, fun q hq => Nat.lt_of_lt_of_le (R6.out.2 q hq) (Nat.le_trans D7.out.size D8.out.size)⟩
      have T7 : Hid (Btw w8 wr.heap.size w8.heap.size r7 (lo y3 2)) := ⟨(R7.out.below D8.out).1, fun q hq => Nat.lt_of_lt_of_le (R7.out.2 q hq) D8.out.size⟩
      have T8 := R8
      have HR8 := Lib.hid (HR5.out.below HB8.out)
      have SP : Hid (Sep wr.heap.size w8.heap.size (.slice a5 P.length c5)) := fun q hq => .inl (HR5.out.lt q hq).2
      have HC8 : Hid (Below w.heap.size w w8) := HC5.out.trans (HB8.out.mono HZ5.out)
      have HZ8 : Hid (w.heap.size ≤ w8.heap.size) := HC8.out.size
      clear R6 R7 R8 D6 D7 D8 HB5 HB6 HB7 HB8 OA5 OA6 OA7 OA8 HC5 HR5 HY5
      go_wp2_with (first
        | (at_builtin; (skip; refine app_sep rfl (.tmp 47) (.tmp 51) rfl w.heap.size P (HR8.out.below ((Below.refl _ w8).alloc (Nat.le_refl _) _)) w8.heap.size [y1] (own_lit1 w8 w8.heap.size y1 (Nat.le_refl _) w8.heap.size rfl) (by have := HPL.out; simp; omega) (by have := HZ8.out; simp; omega) ?_; intro v9 w9 ho9 hg9 hs9; (have sz9 : (w8.alloc (.cells #[.int .u8 y1] 5)).heap.size = w8.heap.size + 1 := by simp); (have hbz : Below w8.heap.size w8 (w8.alloc (.cells #[.int .u8 y1] 5)) := (Below.refl _ w8).alloc (Nat.le_refl _) _); (have SP9 := Lib.hid (SP.out.next (by omega) hs9)); (have HC9 : Hid (Below w.heap.size w w9) := (HC8.out.trans (hbz.mono HZ8.out)).grown hg9 (by have := HZ8.out; omega) (fun k hk => (HR8.out.lt k hk).1)); (have T69 := Lib.hid ((T6.out.below hbz).grown SP.out hg9)); (have T79 := Lib.hid ((T7.out.below hbz).grown SP.out hg9)); (have T89 := Lib.hid ((T8.out.below hbz).grown SP.out hg9)); (have HR9 := Lib.hid ho9); (have HS9 : Hid (w8.heap.size ≤ w9.heap.size) := by have := hg9.size; show _ ≤ _; omega); clear ho9 hg9 hs9 sz9 hbz SP T6 T7 T8))
        | (at_builtin; (skip; refine app_sep rfl (.tmp 53) (.tmp 54) rfl w.heap.size (P ++ [y1]) HR9.out wr.heap.size (lo y2 4) T69.out.1 (by have := HPL.out; simp [lo_len]; omega) (Nat.le_trans HZ8.out HS9.out) ?_; intro v10 w10 ho hg9 hs9; (have SP10 := Lib.hid (SP9.out.next HS9.out hs9)); (have HC10 : Hid (Below w.heap.size w w10) := HC9.out.grown hg9 (Nat.le_trans HZ8.out HS9.out) (fun k hk => (HR9.out.lt k hk).1)); (have T710 := Lib.hid (T79.out.grown SP9.out hg9)); (have T810 := Lib.hid (T89.out.grown SP9.out hg9)); (have HR10 := Lib.hid ho); (have HS10 : Hid (w8.heap.size ≤ w10.heap.size) := Nat.le_trans HS9.out hg9.size); clear ho hg9 hs9))
        | (at_builtin; (skip; refine app_sep rfl (.tmp 56) (.tmp 57) rfl w.heap.size (P ++ [y1] ++ lo y2 4) HR10.out wr.heap.size (lo y3 2) T710.out.1 (by have := HPL.out; simp [lo_len]; omega) (Nat.le_trans HZ8.out HS10.out) ?_; intro v11 w11 ho hg9 hs9; (have SP11 := Lib.hid (SP10.out.next HS10.out hs9)); (have HC11 : Hid (Below w.heap.size w w11) := HC10.out.grown hg9 (Nat.le_trans HZ8.out HS10.out) (fun k hk => (HR10.out.lt k hk).1)); (have T811 := Lib.hid (T810.out.grown SP10.out hg9)); (have HR11 := Lib.hid ho); (have HS11 : Hid (w8.heap.size ≤ w11.heap.size) := Nat.le_trans HS10.out hg9.size); clear ho hg9 hs9))
        | (at_builtin; (skip; refine app_sep rfl (.tmp 59) (.tmp 60) rfl w.heap.size (P ++ [y1] ++ lo y2 4 ++ lo y3 2) HR11.out wr.heap.size (lo y4 2) T811.out.1 (by have := HPL.out; simp [lo_len]; omega) (Nat.le_trans HZ8.out HS11.out) ?_; intro v12 w12 ho hg9 hs9; (have SP12 := Lib.hid (SP11.out.next HS11.out hs9)); (have HC12 : Hid (Below w.heap.size w w12) := HC11.out.grown hg9 (Nat.le_trans HZ8.out HS11.out) (fun k hk => (HR11.out.lt k hk).1)); (have HR12 := Lib.hid ho); (have HS12 : Hid (w8.heap.size ≤ w12.heap.size) := Nat.le_trans HS11.out hg9.size); clear ho hg9 hs9)))
      go_roundw
      case rel => exact ⟨k + 1, _, by omega, by go_num, rfl, by rw [HST.out, ← List.append_assoc, HP.out]; simpa [akB] using HR12.out, HC12.out⟩
      case measure => simp [intOf]; omega
    · obtain rfl : k = ys.length := by omega
      go_wp2_with fail
      go_ret2
      exact ⟨⟨_, rfl, by have h8 := HP.out; rw [List.take_length] at h8; have h9 := HR5.out; unfold acB; rw [h8]; exact h9⟩, HC5.out⟩
end Go.Proofs.YthnajpckhoomgaaGreat
namespace Go.Proofs.YthnajpckhoomgaaGreat
set_option maxRecDepth 100000
set_option linter.unusedVariables false
open Go.RowKit

theorem step_app {ops : Array Oper} {o : Oper} {a : Act} {W : World} {K : Act → World → Prop} {Q : Exit → Act → World → Prop} {E : Prop} (hg : o.guard = none) (s x : Operand) (T : TypeId)
    (ho : o.op = .call { callee := .builtin .append, args := #[s, x], argTypes := #[T, T] }) {v u r : Value} {w' : World} (hs : a.eval s = v) (hx : a.eval x = u) (hr : (Builtin.append_ #[T, T] o.type #[v, u]).run Tryz.prog W = .ok r w') (hK : K (a.put o.dst r) w') :
    if Region.wanted o (yielded ops a.tmps) = true then Oper.wp Tryz.prog o a W K Q else E := by
  have hw : Region.wanted o (yielded ops a.tmps) = true := by simp [Region.wanted, hg]
  rw [if_pos hw]
  unfold Oper.wp
  rw [gexec_append ho hs hx hr]
  exact hK
theorem own_head {w : World} {S size n m g cap : Nat} {e : TypeId} {xs : List Value} (h : w.ownsRow S e size (.slice (some ⟨g, 0, none⟩) n cap) n xs) (hm : m ≤ n) : w.ownsRow S e size (.slice (some ⟨g, 0, none⟩) m cap) m (xs.take (m * size)) := by
  have hx := h.1
  have hms : m * size ≤ n * size := Nat.mul_le_mul_right _ hm
  refine ⟨by rw [List.length_take]; omega, ?_⟩
  rcases h.2 with ⟨h1, _⟩ | ⟨g', cap', cur, hv, hb, hg, hnc, hcm, hcs, htake⟩
  · cases h1
  · simp only [Value.slice.injEq, Option.some.injEq, Addr.mk.injEq, and_true, true_and] at hv
    obtain ⟨rfl, rfl⟩ := hv
    refine .inr ⟨g, cap, cur, rfl, hb, hg, by omega, hcm, hcs, ?_⟩
    rw [← htake, List.take_take, Nat.min_eq_left hms]
theorem cells_agg (z : Value) (n : Nat) (hz : ∀ u ∈ z.cells, u.oneCell' = true) : ∀ u ∈ (Builtin.zeroCells z.cells n).toList, u.oneCell' = true := by
  intro u hu
  rw [Array.mem_toList_iff, Builtin.zeroCells, Array.mem_map] at hu
  obtain ⟨i, hi, rfl⟩ := hu
  rw [Array.mem_range] at hi
  have h0 : 0 < z.cells.size := by
    rcases Nat.eq_zero_or_pos z.cells.size with h | h
    · rw [h] at hi; omega
    · exact h
  rw [getElem!_pos z.cells (i % z.cells.size) (Nat.mod_lt _ h0)]
  exact hz _ (Array.getElem_mem _)
/-- The cells behind the first n are cleared. -/
theorem run_clear_own (R : RowT) (hzo : ∀ u ∈ R.zero.cells, u.oneCell' = true) (w : World) (ty : TypeId) (S g n m cap c : Nat) (xs : List Value) (h : w.ownsRow S R.T R.K (.slice (some ⟨g, 0, none⟩) n cap) n xs) (hm : 0 < m) (hroom : n + m ≤ cap) :
    ∃ w', (Builtin.clear_ #[R.SL] ty #[.slice (some ⟨g, n * R.K, none⟩) m c]).run Tryz.prog w = .ok (.tuple #[]) w' ∧ w'.ownsRow S R.T R.K (.slice (some ⟨g, 0, none⟩) n cap) n xs ∧ w.grownBy w' (some g) := by
  obtain ⟨i0, hi, hz0, hz1, hz2⟩ := info_parts R.hinfo
  have hx := h.1
  rcases h.2 with ⟨h1, _⟩ | ⟨g', cap', cur, hv, hb, hg, hnc, hcm, hcs, htake⟩
  · cases h1
  · simp only [Value.slice.injEq, Option.some.injEq, Addr.mk.injEq, and_true, true_and] at hv
    obtain ⟨rfl, rfl⟩ := hv
    have hlen : (Builtin.zeroCells R.zero.cells m).toList.length = m * R.K := by rw [Array.length_toList, size_zeroCells, R.hz]
    have hfit : n * R.K + m * R.K ≤ cur.size := by rw [hcs, ← Nat.add_mul]; exact Nat.mul_le_mul_right _ hroom
    have hst := run_storeCells_at Tryz.prog g (n * R.K) R.T (Builtin.zeroCells R.zero.cells m).toList 0 cur w hg (by rw [hlen, Nat.add_zero]; exact hfit) (cells_agg R.zero m hzo)
    simp only [Nat.add_zero] at hst
    have hzv : ∀ w, (zeroValue R.T).run Tryz.prog w = .ok R.zero w := fun w => by simp [zeroValue, typeInfo, hi, hz0]
    obtain ⟨zc, hzc⟩ : ∃ zc, Builtin.zeroCells R.zero.cells m = zc := ⟨_, rfl⟩
    rw [hzc] at hst hlen
    obtain ⟨w', hw'⟩ : ∃ w', w.setRow g (cur.toList.take (n * R.K) ++ zc.toList ++ cur.toList.drop (n * R.K + zc.toList.length)).toArray = w' := ⟨_, rfl⟩
    rw [hw'] at hst
    refine ⟨w', by
      obtain ⟨m', rfl⟩ : ∃ m', m = m' + 1 := ⟨m - 1, by omega⟩
      simp [Builtin.clear_, hzv, hzc, hst, run_underlying R.hSL], ?_⟩
    subst hw'
    refine ⟨⟨hx, .inr ⟨g, cap, _, rfl, hb, setRow_heap w g cur _ R.T _ hg, hnc, hcm, ?_, ?_⟩⟩, ⟨rfl, rfl, rfl, by simp, fun k _ hk => setRow_other w g k _ (fun e => hk (by simp [e]))⟩⟩
    · simp only [List.size_toArray, List.length_append, List.length_take, List.length_drop, Array.length_toList]
      simp only [Array.length_toList] at hlen
      omega
    · show (List.take (n * R.K) (_ ++ _ ++ _)) = xs
      rw [List.append_assoc, List.take_append_of_le_length (by rw [List.length_take, Array.length_toList]; omega), List.take_take, Nat.min_self]
      exact htake
theorem flat_drop (W : List Ob) (n : Nat) : flat (W.drop n) = (flat W).drop (n * 12) := by
  by_cases h : n ≤ W.length
  · have e : flat W = flat (W.take n) ++ flat (W.drop n) := by rw [← flat_app, List.take_append_drop]
    have hl : (flat (W.take n)).length = n * 12 := by rw [flat_len, List.length_take, Nat.min_eq_left h]
    rw [e, ← hl, List.drop_left]
  · rw [List.drop_of_length_le (by omega), List.drop_of_length_le (by rw [flat_len]; omega)]
    rfl
theorem add_zero' (b o j : Nat) : (⟨b, o, none⟩ : Addr).add j = ⟨b, o + j, none⟩ := add_spot' b o j
set_option maxHeartbeats 4000000 in
theorem odel_any (g cap : Nat) (W : List Ob) (n : Nat) (w : World) (h : OwO w 0 (.slice (some ⟨g, 0, none⟩) W.length cap) W) (hn : 0 < n) (hle : n ≤ W.length) :
    Calls Tryz.prog 111 #[.slice (some ⟨g, 0, none⟩) W.length cap, .int .i64 0, .int .i64 n] w fun e w' => e = .returned (.slice (some ⟨g, 0, none⟩) (W.length - n) cap) ∧ OwO w' 0 (.slice (some ⟨g, 0, none⟩) (W.length - n) cap) (W.drop n) ∧ Chg (fun k => k = g) w w' := by
  have hcap : W.length ≤ cap := by
    rcases h.2 with ⟨h1, _⟩ | ⟨g', cap', cur, hv, hb, hg, hnc, hcm, hcs, htake⟩
    · cases h1
    · simp only [Value.slice.injEq] at hv; omega
  have hd : OwO w.drew 0 (.slice (some ⟨g, 0, none⟩) W.length cap) W := h
  obtain ⟨A0, hA, hsrc⟩ : ∃ A0 : Addr, (if cap = n then some (⟨g, 0, none⟩ : Addr) else some ⟨g, n * 12, none⟩) = some A0 ∧ Hid (∀ t u, (flat (W.drop n))[t]? = some u → w.drew.cell? (A0.add t) = some u) := by
    by_cases hc : cap = n
    · refine ⟨⟨g, 0, none⟩, if_pos hc, fun t u hu => ?_⟩
      rw [List.drop_of_length_le (by omega)] at hu
      simp [flat] at hu
    · refine ⟨⟨g, n * 12, none⟩, if_neg hc, fun t u hu => ?_⟩
      have ht := (List.getElem?_eq_some_iff.1 hu).1
      rw [flat_len, List.length_drop] at ht
      rw [flat_drop, List.getElem?_drop] at hu
      rw [add_zero', World.ownsRow.cellAt hd (n * 12 + t) (by omega)]
      exact hu
  have hone : ∀ u ∈ flat (W.drop n), u.oneCell' = true := flat_ones _
  obtain ⟨w2, hr2, ho2, hg2⟩ := run_append_fits (P := Tryz.prog) w.drew 0 51 51 39 _ 12 underSL (info_parts infoOB).choose_spec.1 (info_parts infoOB).choose_spec.2.2.1 g 0 cap _ (own_head hd (Nat.zero_le _)) A0 (W.length - n) (cap - n) (flat (W.drop n)) (by rw [flat_len, List.length_drop]) hsrc.out hone (by omega)
  have ho2' : w2.ownsRow 0 (ROB).T (ROB).K (.slice (some ⟨g, 0, none⟩) (W.length - n) cap) (W.length - n) (flat (W.drop n)) := by
    have h9 := ho2
    rw [Nat.zero_add, Nat.zero_mul, List.take_zero, List.nil_append] at h9
    exact h9
  rw [Nat.zero_add] at hr2
  obtain ⟨w3, hr3, ho3, hg3⟩ := run_clear_own ROB (by decide) w2 0 0 g (W.length - n) (W.length - (W.length - n)) cap (cap - (W.length - n)) _ ho2' (by omega) (by omega)
  have hr3' : (Builtin.clear_ #[51] 0 #[.slice (some ⟨g, (W.length - n) * 12, none⟩) (W.length - (W.length - n)) (cap - (W.length - n))]).run Tryz.prog w2 = .ok (.tuple #[]) w3 := hr3
  have hcg : Chg (fun k => k = g) w w3 := ((Chg.refl _ w).drew.trans ((chg_grown hg2).mono (fun x _ e => by cases e; rfl)) (fun _ _ e => e)).trans ((chg_grown hg3).mono (fun x _ e => by cases e; rfl)) (fun _ _ e => e)
  have HO3 : Hid (OwO w3 0 (.slice (some ⟨g, 0, none⟩) (W.length - n) cap) (W.drop n)) := by
    show w3.ownsRow 0 39 12 _ (W.drop n).length _
    rw [List.length_drop]
    exact ho3
  have HCG := Lib.hid hcg
  have HR2 := Lib.hid hr2
  have mixed : Tryz.prog.follows Departure.mixedOrders = true := by kernel_rfl
  have hne : ((0 : Int) == (n : Int)) = false := beq_false_of_ne (by omega)
  clear h hd hsrc hone ho2 ho2' hg2 ho3 hg3 hcg hr2 hr3
  go_enter Tryz.func111, Tryz.ntmps111
  go_wp2_with fail
  go_region_law_o (refine step_app rfl (.tmp 22) (.tmp 25) 51 rfl (by simp [Act.eval, Act.put]) (by simp [Act.eval, Act.put]) HR2.out ?_)
  go_wp2_with fail
  go_ret
  exact ⟨rfl, HO3.out, HCG.out⟩
end Go.Proofs.YthnajpckhoomgaaGreat
