/- Texts Tp2, Gh of this proof, in one. No conditions but on lengths. -/
import Derived.Test.YthnajpckhoomgaaGreatRows
import Derived.Test.YthnajpckhoomgaaGreatU31
import Derived.Test.YthnajpckhoomgaaGreatU35
import Derived.ArgAppend
import Derived.Below
import Derived.BigQuiet
import Derived.Calls
import Derived.ChangeAlike
import Derived.ChangeArms
import Derived.ChangeKeysEq
import Derived.ChangeMade
import Derived.ChangeOld
import Derived.Deep.Cut
import Derived.Deep.CutBlock
import Derived.Deep.QuietTactic
import Derived.Deep.RegionHeld
import Derived.Deep.RegionLaw
import Derived.Deep.RegionWith
import Derived.Deep.Slices
import Derived.Defers
import Derived.Ground.GgzProg
import Derived.Ground.Names2Prog
import Derived.Laws.AppendOwnNone
import Derived.Laws.BitsLemmas
import Derived.Laws.BytesArg
import Derived.Laws.LoneSync
import Derived.Laws.OwnMore
import Derived.Laws.Pointers
import Derived.Laws.StructEq
import Derived.Lib.ConvBytes
import Derived.Lib.Hide
import Derived.Lib.OwnBridge
import Derived.Lib.QuietBelow
import Derived.Lib.SlicesCompact
import Derived.LoopIn
import Derived.LoopTactic
import Derived.Maps.AppendAt
import Derived.Maps.Own
import Derived.Maps.OwnOps
import Derived.Maps.OwnSet
import Derived.Maps.RangeWalk
import Derived.Maps.Views
import Derived.OpenShut
import Derived.Orders
import Derived.Outline
import Derived.OwnWalkIn
import Derived.ProofKit
import Derived.RangeFuncBox
import Derived.RangeFuncCalls
import Derived.RangeFuncLeaves
import Derived.RangeFuncNested
import Derived.RegionCalls
import Derived.RegionTactic
import Derived.Shelf.RegionOpen
import Derived.Shelf.RegionOpenPlain
import Derived.Shelf.SlIterI.Nil
import Derived.Shelf.Slices.CompactI
import Derived.Shelf.Slices.In.SortNone
import Derived.Shelf.Sort.Plain
import Derived.ShutString
import Derived.Sort.Grow
import Derived.StillTail
import Derived.TacticsInMore
import Derived.WalkKit
import Derived.WalkLawsBesides
import Derived.WalkSpells
import Derived.WideShapes
namespace Go.Proofs.YthnajpckhoomgaaGreat
set_option maxRecDepth 100000
set_option linter.unusedVariables false
open Go.RowKit

open Go.Maps
theorem TkOk.few {t : Tk} (h : TkOk t) : t.H.length ≤ 16 := held_le h
theorem perm_left {ss xs : List Int} (hp : ss.Perm xs) (f : Int) : srt f ss = srt f xs :=
  nice_srt f xs (srt f ss) (srt_nice f ss) (fun x => by
    rw [srt_mem]
    constructor
    · rintro ⟨a, ha, e⟩
      exact ⟨a, hp.mem_iff.1 ha, e⟩
    · rintro ⟨a, ha, e⟩
      exact ⟨a, hp.mem_iff.2 ha, e⟩)
section
variable {w : World} {F : Nat → Prop} {b : Nat} {t : Tk}
theorem tnew_any (w : World) : Calls Tryz.prog 30 #[] w fun e w' => ∃ b F, e = .returned (.pointer (some ⟨b, 0, none⟩)) ∧ PT w' F b tk0 ∧ (∀ k, F k → w.heap.size ≤ k) ∧ Below w.heap.size w w' := by
  have hq : Hid (PT (w.alloc (.cells #[.int .i64 0, .int .u32 0, .int .i32 0, .int .u32 0, .map none] 133)) (fun k => k = w.heap.size) w.heap.size tk0) :=
    ⟨tkok_new, .inr ⟨⟨by simp [tk0], by simp, by simp, by simp, fun j => by simp⟩, rfl, fun k hk => by rw [show k = _ from hk]; simp, rfl⟩⟩
  have hb : Hid (Below w.heap.size w (w.alloc (.cells #[.int .i64 0, .int .u32 0, .int .i32 0, .int .u32 0, .map none] 133))) := (Below.refl _ w).alloc (Nat.le_refl _) _
  go_enter Tryz.func30, Tryz.ntmps30
  go_wp2_with fail
  go_ret
  exact ⟨_, _, rfl, hq.out, fun k hk => Nat.le_of_eq hk.symm, hb.out⟩
set_option maxHeartbeats 4000000 in
theorem theld_any (h : PT w F b t) : Calls Tryz.prog 177 #[.pointer (some ⟨b, 0, none⟩)] w fun e w' => ∃ u F', e = .returned u ∧ Zs w' u (srt t.nx (nums t.H)) ∧ PT w' F' b t ∧ Chg F w w' ∧ (∀ k, F k → F' k) ∧ ∀ k, F' k → F k ∨ w.heap.size ≤ k := by
  have HT := Lib.hid h.1
  have HL : Hid (t.H.length ≤ 16) := held_le h.1
  have C1 := Lib.hid (hold_pt h.drew)
  have c0 := h.2.cN
  clear h
  go_enter Tryz.func177, Tryz.ntmps177
  go_upto_region 3 with (fail)
  go_region_held (fun w' => w'.cell? ⟨b, 0, none⟩ = some (.int .i64 t.nx)) (first | exact o0 | go_keep) (first
    | (go_at_call 120; refine C1.out.mono ?_; rintro e w2 ⟨bm, F2, rfl, hp, hc, hF, hF2⟩; have o0 := hp.q.cN; have HP2 := Lib.hid hp; have HC2 := Lib.hid hc; have HF2 := Lib.hid hF; have HG2 := Lib.hid hF2; clear hp hc hF hF2)
    | (go_at_call 213; refine (pkeys_any bm _).mono ?_; rintro e w3 ⟨rfl, hw3⟩; have hb3 : Below w2.heap.size w2 w3 := hw3 ▸ (Below.refl _ w2).alloc (Nat.le_refl _) _; have HP3 := Lib.hid (HP2.out.below hb3); have HB3 := Lib.hid hb3; have HK3 : Hid (w3.cell? ⟨w2.heap.size, 0, none⟩ = some (.map (some bm))) := (by show _ = _; rw [hw3]; simp); have o0 := HP3.out.q.cN; clear hw3 hb3)
    | (go_at_call 212; obtain ⟨D, k1, k2, k3⟩ := HP3.out.keys HT.out.nd; have hm9 : Maps.size D ≤ 1000 := (by have := HL.out; omega); refine (pcollect_any bm _ _ D _ HK3.out k1 hm9).mono ?_; rintro e w4 ⟨v, ss, rfl, hS, hrow, hb⟩; have HS4 := Lib.hid (hS.trans k3.symm); have HZ4 := Lib.hid hrow; have HB4 := Lib.hid hb; have HP4 := Lib.hid (HP3.out.below hb); have o0 := HP4.out.q.cN; clear hS hrow hb k1 k2 k3 hm9)
    | (go_at_call 211; have hsl : ss.length ≤ 16 := (by have h1 := HS4.out.length_eq; have h2 := HL.out; unfold nums at h1; rw [List.length_map] at h1; omega); refine (sort_any v ss t.nx _ (Zs_of_own HZ4.out (by omega)) (by omega)).mono ?_; rintro e w5 ⟨u, rfl, hz, hb⟩; rw [perm_left HS4.out] at hz; have HZ5 := Lib.hid hz; have HB5 := Lib.hid hb; have HP5 := Lib.hid (HP4.out.below hb); have o0 := HP5.out.q.cN; clear hz hb hsl))
  go_wp2_with fail
  go_ret
  have hb25 : Below w2.heap.size w2 w5 := (HB3.out.trans (HB4.out.mono HB3.out.size)).trans (HB5.out.mono (Nat.le_trans HB3.out.size HB4.out.size))
  exact ⟨u, F2, rfl, HZ5.out, ⟨HT.out, .inl ⟨bm, HP5.out⟩⟩, (((Chg.refl F w).drew).trans HC2.out (fun _ _ h => h)).trans (G := fun _ => False) (chg0 hb25) (fun _ _ e => e.elim), HF2.out, HG2.out⟩
end
end Go.Proofs.YthnajpckhoomgaaGreat
namespace Go.Proofs.YthnajpckhoomgaaGreat
set_option maxRecDepth 100000
set_option linter.unusedVariables false
open Go.RowKit
theorem gnode_fix (n : Int) (Q : Bool) (hQ : Q = true ↔ 0 ≤ n ∧ n < 64) (w : World) :
    Calls Tryz.prog 129 #[.int .i64 n] w fun e w' => e = .returned (.bool Q) ∧ w = w' := by
  by_cases h0 : 0 ≤ n
  · by_cases h1 : n < 64
    · obtain rfl : Q = true := hQ.2 ⟨h0, h1⟩
      have d8 : decide (0 ≤ n) = true := decide_eq_true h0
      have d9 : decide (n < 64) = true := decide_eq_true h1
      clear hQ
      go_enter Tryz.func129, Tryz.ntmps129
      go_wp2_with fail
      go_ret
      exact ⟨rfl, rfl⟩
    · obtain rfl : Q = false := by
        cases Q with
        | false => rfl
        | true => exact absurd (hQ.1 rfl).2 h1
      have d8 : decide (0 ≤ n) = true := decide_eq_true h0
      have d9 : decide (n < 64) = false := decide_eq_false h1
      clear hQ
      go_enter Tryz.func129, Tryz.ntmps129
      go_wp2_with fail
      go_ret
      exact ⟨rfl, rfl⟩
  · obtain rfl : Q = false := by
      cases Q with
      | false => rfl
      | true => exact absurd (hQ.1 rfl).1 h0
    have d8 : decide (0 ≤ n) = false := decide_eq_false h0
    clear hQ
    go_enter Tryz.func129, Tryz.ntmps129
    go_wp2_with fail
    go_ret
    exact ⟨rfl, rfl⟩
theorem gep_fix (n : Int) (Q : Bool) (hQ : Q = true ↔ EpOk n) (w : World) :
    Calls Tryz.prog 130 #[.int .i64 n] w fun e w' => e = .returned (.bool Q) ∧ w = w' := by
  by_cases h0 : 0 ≤ n
  · by_cases h1 : n ≤ 4294967295
    · obtain rfl : Q = true := hQ.2 ⟨h0, h1⟩
      have d8 : decide (0 ≤ n) = true := decide_eq_true h0
      have d9 : decide (n ≤ 4294967295) = true := decide_eq_true h1
      clear hQ
      go_enter Tryz.func130, Tryz.ntmps130
      go_wp2_with fail
      go_ret
      exact ⟨rfl, rfl⟩
    · obtain rfl : Q = false := by
        cases Q with
        | false => rfl
        | true => exact absurd (hQ.1 rfl).2 h1
      have d8 : decide (0 ≤ n) = true := decide_eq_true h0
      have d9 : decide (n ≤ 4294967295) = false := decide_eq_false h1
      clear hQ
      go_enter Tryz.func130, Tryz.ntmps130
      go_wp2_with fail
      go_ret
      exact ⟨rfl, rfl⟩
  · obtain rfl : Q = false := by
      cases Q with
      | false => rfl
      | true => exact absurd (hQ.1 rfl).1 h0
    have d8 : decide (0 ≤ n) = false := decide_eq_false h0
    clear hQ
    go_enter Tryz.func130, Tryz.ntmps130
    go_wp2_with fail
    go_ret
    exact ⟨rfl, rfl⟩
theorem gcnt_fix (n : Int) (Q : Bool) (hQ : Q = true ↔ 1 ≤ n ∧ n ≤ 8) (w : World) :
    Calls Tryz.prog 131 #[.int .i64 n] w fun e w' => e = .returned (.bool Q) ∧ w = w' := by
  by_cases h0 : 1 ≤ n
  · by_cases h1 : n ≤ 8
    · obtain rfl : Q = true := hQ.2 ⟨h0, h1⟩
      have d8 : decide (1 ≤ n) = true := decide_eq_true h0
      have d9 : decide (n ≤ 8) = true := decide_eq_true h1
      clear hQ
      go_enter Tryz.func131, Tryz.ntmps131
      go_wp2_with fail
      go_ret
      exact ⟨rfl, rfl⟩
    · obtain rfl : Q = false := by
        cases Q with
        | false => rfl
        | true => exact absurd (hQ.1 rfl).2 h1
      have d8 : decide (1 ≤ n) = true := decide_eq_true h0
      have d9 : decide (n ≤ 8) = false := decide_eq_false h1
      clear hQ
      go_enter Tryz.func131, Tryz.ntmps131
      go_wp2_with fail
      go_ret
      exact ⟨rfl, rfl⟩
  · obtain rfl : Q = false := by
      cases Q with
      | false => rfl
      | true => exact absurd (hQ.1 rfl).1 h0
    have d8 : decide (1 ≤ n) = false := decide_eq_false h0
    clear hQ
    go_enter Tryz.func131, Tryz.ntmps131
    go_wp2_with fail
    go_ret
    exact ⟨rfl, rfl⟩
set_option maxHeartbeats 16000000 in
theorem ghead_fix (fr ep tq pe : Int) (a : Option Addr) (l c : Nat) (Q : Bool) (hQ : Q = true ↔ FrHd fr ep tq pe l) (w : World) :
    Calls Tryz.prog 82 #[.agg #[.int .i64 fr, .int .i64 ep, .int .i64 tq, .int .i64 pe, .slice a l c]] w fun e w' => e = .returned (.bool Q) ∧ Below w.heap.size w w' := by
  have OF := Lib.hid (ownf_alloc w fr ep tq pe (.slice a l c) 42 w.heap.size rfl)
  have HB : Hid (Below w.heap.size w (w.alloc (.cells #[.int .i64 fr, .int .i64 ep, .int .i64 tq, .int .i64 pe, .slice a l c] 42))) := (Below.refl _ w).alloc (Nat.le_refl _) _
  by_cases q0 : 0 ≤ fr ∧ fr < 64
  · by_cases q1 : 0 ≤ tq ∧ tq < 64
    · skip
      by_cases e1 : EpOk ep
      · by_cases e2 : EpOk pe
        · by_cases p0 : pe = 0
          · skip
            by_cases n0 : 1 ≤ (l : Int) ∧ (l : Int) ≤ 8
            · skip
              have x5 : (tq == 255) = false := by simp only [beq_eq_false_iff_ne, ne_eq]; omega
              have x6 : (pe == 0) = true := by simp only [beq_iff_eq]; omega
              obtain rfl : Q = true := by
                exact hQ.2 ⟨q0, (.inl q1), e1, e2, by omega, by omega⟩
              have c0 := fun W => gnode_fix fr true ⟨fun _ => q0, fun _ => rfl⟩ W
              have c1 := fun W => gnode_fix tq true ⟨fun _ => q1, fun _ => rfl⟩ W
              have c2 := fun W => gep_fix ep true ⟨fun _ => e1, fun _ => rfl⟩ W
              have c3 := fun W => gep_fix pe true ⟨fun _ => e2, fun _ => rfl⟩ W
              have c4 := fun W => gcnt_fix (l : Int) true ⟨fun _ => n0, fun _ => rfl⟩ W
              clear hQ q0 q1 e1 e2 p0 n0
              obtain ⟨⟨u0, u1, u2, u3, u4⟩, -⟩ := OF.out
              go_enter Tryz.func82, Tryz.ntmps82
              go_wp2_with fail
              refine (c0 _).mono ?_
              rintro e w0 ⟨rfl, hw⟩
              subst hw
              go_wp2_with fail
              refine (c1 _).mono ?_
              rintro e w1 ⟨rfl, hw⟩
              subst hw
              go_wp2_with fail
              refine (c2 _).mono ?_
              rintro e w2 ⟨rfl, hw⟩
              subst hw
              go_wp2_with fail
              refine (c3 _).mono ?_
              rintro e w3 ⟨rfl, hw⟩
              subst hw
              go_wp2_with fail
              refine (c4 _).mono ?_
              rintro e w4 ⟨rfl, hw⟩
              subst hw
              go_wp2_with fail
              go_ret
              exact ⟨rfl, HB.out⟩
            · skip
              have x5 : (tq == 255) = false := by simp only [beq_eq_false_iff_ne, ne_eq]; omega
              have x6 : (pe == 0) = true := by simp only [beq_iff_eq]; omega
              obtain rfl : Q = false := by
                cases Q with
                | false => rfl
                | true => exact absurd (hQ.1 rfl) (fun h => n0 (by have := h.2.2.2.2; omega))
              have c0 := fun W => gnode_fix fr true ⟨fun _ => q0, fun _ => rfl⟩ W
              have c1 := fun W => gnode_fix tq true ⟨fun _ => q1, fun _ => rfl⟩ W
              have c2 := fun W => gep_fix ep true ⟨fun _ => e1, fun _ => rfl⟩ W
              have c3 := fun W => gep_fix pe true ⟨fun _ => e2, fun _ => rfl⟩ W
              have c4 := fun W => gcnt_fix (l : Int) false ⟨fun h => (by cases h), fun h => absurd h n0⟩ W
              clear hQ q0 q1 e1 e2 p0 n0
              obtain ⟨⟨u0, u1, u2, u3, u4⟩, -⟩ := OF.out
              go_enter Tryz.func82, Tryz.ntmps82
              go_wp2_with fail
              refine (c0 _).mono ?_
              rintro e w0 ⟨rfl, hw⟩
              subst hw
              go_wp2_with fail
              refine (c1 _).mono ?_
              rintro e w1 ⟨rfl, hw⟩
              subst hw
              go_wp2_with fail
              refine (c2 _).mono ?_
              rintro e w2 ⟨rfl, hw⟩
              subst hw
              go_wp2_with fail
              refine (c3 _).mono ?_
              rintro e w3 ⟨rfl, hw⟩
              subst hw
              go_wp2_with fail
              refine (c4 _).mono ?_
              rintro e w4 ⟨rfl, hw⟩
              subst hw
              go_wp2_with fail
              go_ret
              exact ⟨rfl, HB.out⟩
          · skip
            by_cases n0 : 1 ≤ (l : Int) ∧ (l : Int) ≤ 8
            · skip
              have x5 : (tq == 255) = false := by simp only [beq_eq_false_iff_ne, ne_eq]; omega
              have x6 : (pe == 0) = false := by simp only [beq_eq_false_iff_ne, ne_eq]; omega
              obtain rfl : Q = true := by
                exact hQ.2 ⟨q0, (.inl q1), e1, e2, by omega, by omega⟩
              have c0 := fun W => gnode_fix fr true ⟨fun _ => q0, fun _ => rfl⟩ W
              have c1 := fun W => gnode_fix tq true ⟨fun _ => q1, fun _ => rfl⟩ W
              have c2 := fun W => gep_fix ep true ⟨fun _ => e1, fun _ => rfl⟩ W
              have c3 := fun W => gep_fix pe true ⟨fun _ => e2, fun _ => rfl⟩ W
              have c4 := fun W => gcnt_fix (l : Int) true ⟨fun _ => n0, fun _ => rfl⟩ W
              clear hQ q0 q1 e1 e2 p0 n0
              obtain ⟨⟨u0, u1, u2, u3, u4⟩, -⟩ := OF.out
              go_enter Tryz.func82, Tryz.ntmps82
              go_wp2_with fail
              refine (c0 _).mono ?_
              rintro e w0 ⟨rfl, hw⟩
              subst hw
              go_wp2_with fail
              refine (c1 _).mono ?_
              rintro e w1 ⟨rfl, hw⟩
              subst hw
              go_wp2_with fail
              refine (c2 _).mono ?_
              rintro e w2 ⟨rfl, hw⟩
              subst hw
              go_wp2_with fail
              refine (c3 _).mono ?_
              rintro e w3 ⟨rfl, hw⟩
              subst hw
              go_wp2_with fail
              refine (c4 _).mono ?_
              rintro e w4 ⟨rfl, hw⟩
              subst hw
              go_wp2_with fail
              go_ret
              exact ⟨rfl, HB.out⟩
            · skip
              have x5 : (tq == 255) = false := by simp only [beq_eq_false_iff_ne, ne_eq]; omega
              have x6 : (pe == 0) = false := by simp only [beq_eq_false_iff_ne, ne_eq]; omega
              obtain rfl : Q = false := by
                cases Q with
                | false => rfl
                | true => exact absurd (hQ.1 rfl) (fun h => n0 (by have := h.2.2.2.2; omega))
              have c0 := fun W => gnode_fix fr true ⟨fun _ => q0, fun _ => rfl⟩ W
              have c1 := fun W => gnode_fix tq true ⟨fun _ => q1, fun _ => rfl⟩ W
              have c2 := fun W => gep_fix ep true ⟨fun _ => e1, fun _ => rfl⟩ W
              have c3 := fun W => gep_fix pe true ⟨fun _ => e2, fun _ => rfl⟩ W
              have c4 := fun W => gcnt_fix (l : Int) false ⟨fun h => (by cases h), fun h => absurd h n0⟩ W
              clear hQ q0 q1 e1 e2 p0 n0
              obtain ⟨⟨u0, u1, u2, u3, u4⟩, -⟩ := OF.out
              go_enter Tryz.func82, Tryz.ntmps82
              go_wp2_with fail
              refine (c0 _).mono ?_
              rintro e w0 ⟨rfl, hw⟩
              subst hw
              go_wp2_with fail
              refine (c1 _).mono ?_
              rintro e w1 ⟨rfl, hw⟩
              subst hw
              go_wp2_with fail
              refine (c2 _).mono ?_
              rintro e w2 ⟨rfl, hw⟩
              subst hw
              go_wp2_with fail
              refine (c3 _).mono ?_
              rintro e w3 ⟨rfl, hw⟩
              subst hw
              go_wp2_with fail
              refine (c4 _).mono ?_
              rintro e w4 ⟨rfl, hw⟩
              subst hw
              go_wp2_with fail
              go_ret
              exact ⟨rfl, HB.out⟩
        · skip
          have x5 : (tq == 255) = false := by simp only [beq_eq_false_iff_ne, ne_eq]; omega
          obtain rfl : Q = false := by
            cases Q with
            | false => rfl
            | true => exact absurd (hQ.1 rfl) (fun h => e2 h.2.2.2.1)
          have c0 := fun W => gnode_fix fr true ⟨fun _ => q0, fun _ => rfl⟩ W
          have c1 := fun W => gnode_fix tq true ⟨fun _ => q1, fun _ => rfl⟩ W
          have c2 := fun W => gep_fix ep true ⟨fun _ => e1, fun _ => rfl⟩ W
          have c3 := fun W => gep_fix pe false ⟨fun h => (by cases h), fun h => absurd h e2⟩ W
          clear hQ q0 q1 e1 e2
          obtain ⟨⟨u0, u1, u2, u3, u4⟩, -⟩ := OF.out
          go_enter Tryz.func82, Tryz.ntmps82
          go_wp2_with fail
          refine (c0 _).mono ?_
          rintro e w0 ⟨rfl, hw⟩
          subst hw
          go_wp2_with fail
          refine (c1 _).mono ?_
          rintro e w1 ⟨rfl, hw⟩
          subst hw
          go_wp2_with fail
          refine (c2 _).mono ?_
          rintro e w2 ⟨rfl, hw⟩
          subst hw
          go_wp2_with fail
          refine (c3 _).mono ?_
          rintro e w3 ⟨rfl, hw⟩
          subst hw
          go_wp2_with fail
          go_ret
          exact ⟨rfl, HB.out⟩
      · skip
        have x5 : (tq == 255) = false := by simp only [beq_eq_false_iff_ne, ne_eq]; omega
        obtain rfl : Q = false := by
          cases Q with
          | false => rfl
          | true => exact absurd (hQ.1 rfl) (fun h => e1 h.2.2.1)
        have c0 := fun W => gnode_fix fr true ⟨fun _ => q0, fun _ => rfl⟩ W
        have c1 := fun W => gnode_fix tq true ⟨fun _ => q1, fun _ => rfl⟩ W
        have c2 := fun W => gep_fix ep false ⟨fun h => (by cases h), fun h => absurd h e1⟩ W
        clear hQ q0 q1 e1
        obtain ⟨⟨u0, u1, u2, u3, u4⟩, -⟩ := OF.out
        go_enter Tryz.func82, Tryz.ntmps82
        go_wp2_with fail
        refine (c0 _).mono ?_
        rintro e w0 ⟨rfl, hw⟩
        subst hw
        go_wp2_with fail
        refine (c1 _).mono ?_
        rintro e w1 ⟨rfl, hw⟩
        subst hw
        go_wp2_with fail
        refine (c2 _).mono ?_
        rintro e w2 ⟨rfl, hw⟩
        subst hw
        go_wp2_with fail
        go_ret
        exact ⟨rfl, HB.out⟩
    · by_cases q2 : tq = 255
      · skip
        by_cases e1 : EpOk ep
        · by_cases e2 : EpOk pe
          · by_cases p0 : pe = 0
            · skip
              by_cases n0 : 1 ≤ (l : Int) ∧ (l : Int) ≤ 8
              · skip
                have x5 : (tq == 255) = true := by simp only [beq_iff_eq]; omega
                have x6 : (pe == 0) = true := by simp only [beq_iff_eq]; omega
                obtain rfl : Q = true := by
                  exact hQ.2 ⟨q0, (.inr ⟨q2, p0⟩), e1, e2, by omega, by omega⟩
                have c0 := fun W => gnode_fix fr true ⟨fun _ => q0, fun _ => rfl⟩ W
                have c1 := fun W => gnode_fix tq false ⟨fun h => (by cases h), fun h => absurd h q1⟩ W
                have c2 := fun W => gep_fix ep true ⟨fun _ => e1, fun _ => rfl⟩ W
                have c3 := fun W => gep_fix pe true ⟨fun _ => e2, fun _ => rfl⟩ W
                have c4 := fun W => gcnt_fix (l : Int) true ⟨fun _ => n0, fun _ => rfl⟩ W
                clear hQ q0 q1 q2 e1 e2 p0 n0
                obtain ⟨⟨u0, u1, u2, u3, u4⟩, -⟩ := OF.out
                go_enter Tryz.func82, Tryz.ntmps82
                go_wp2_with fail
                refine (c0 _).mono ?_
                rintro e w0 ⟨rfl, hw⟩
                subst hw
                go_wp2_with fail
                refine (c1 _).mono ?_
                rintro e w1 ⟨rfl, hw⟩
                subst hw
                go_wp2_with fail
                refine (c2 _).mono ?_
                rintro e w2 ⟨rfl, hw⟩
                subst hw
                go_wp2_with fail
                refine (c3 _).mono ?_
                rintro e w3 ⟨rfl, hw⟩
                subst hw
                go_wp2_with fail
                refine (c4 _).mono ?_
                rintro e w4 ⟨rfl, hw⟩
                subst hw
                go_wp2_with fail
                go_ret
                exact ⟨rfl, HB.out⟩
              · skip
                have x5 : (tq == 255) = true := by simp only [beq_iff_eq]; omega
                have x6 : (pe == 0) = true := by simp only [beq_iff_eq]; omega
                obtain rfl : Q = false := by
                  cases Q with
                  | false => rfl
                  | true => exact absurd (hQ.1 rfl) (fun h => n0 (by have := h.2.2.2.2; omega))
                have c0 := fun W => gnode_fix fr true ⟨fun _ => q0, fun _ => rfl⟩ W
                have c1 := fun W => gnode_fix tq false ⟨fun h => (by cases h), fun h => absurd h q1⟩ W
                have c2 := fun W => gep_fix ep true ⟨fun _ => e1, fun _ => rfl⟩ W
                have c3 := fun W => gep_fix pe true ⟨fun _ => e2, fun _ => rfl⟩ W
                have c4 := fun W => gcnt_fix (l : Int) false ⟨fun h => (by cases h), fun h => absurd h n0⟩ W
                clear hQ q0 q1 q2 e1 e2 p0 n0
                obtain ⟨⟨u0, u1, u2, u3, u4⟩, -⟩ := OF.out
                go_enter Tryz.func82, Tryz.ntmps82
                go_wp2_with fail
                refine (c0 _).mono ?_
                rintro e w0 ⟨rfl, hw⟩
                subst hw
                go_wp2_with fail
                refine (c1 _).mono ?_
                rintro e w1 ⟨rfl, hw⟩
                subst hw
                go_wp2_with fail
                refine (c2 _).mono ?_
                rintro e w2 ⟨rfl, hw⟩
                subst hw
                go_wp2_with fail
                refine (c3 _).mono ?_
                rintro e w3 ⟨rfl, hw⟩
                subst hw
                go_wp2_with fail
                refine (c4 _).mono ?_
                rintro e w4 ⟨rfl, hw⟩
                subst hw
                go_wp2_with fail
                go_ret
                exact ⟨rfl, HB.out⟩
            · skip
              have x5 : (tq == 255) = true := by simp only [beq_iff_eq]; omega
              have x6 : (pe == 0) = false := by simp only [beq_eq_false_iff_ne, ne_eq]; omega
              obtain rfl : Q = false := by
                cases Q with
                | false => rfl
                | true => exact absurd (hQ.1 rfl) (fun h => (by rcases h.2.1 with h | h; exact q1 h; exact p0 h.2))
              have c0 := fun W => gnode_fix fr true ⟨fun _ => q0, fun _ => rfl⟩ W
              have c1 := fun W => gnode_fix tq false ⟨fun h => (by cases h), fun h => absurd h q1⟩ W
              have c2 := fun W => gep_fix ep true ⟨fun _ => e1, fun _ => rfl⟩ W
              have c3 := fun W => gep_fix pe true ⟨fun _ => e2, fun _ => rfl⟩ W
              clear hQ q0 q1 q2 e1 e2 p0
              obtain ⟨⟨u0, u1, u2, u3, u4⟩, -⟩ := OF.out
              go_enter Tryz.func82, Tryz.ntmps82
              go_wp2_with fail
              refine (c0 _).mono ?_
              rintro e w0 ⟨rfl, hw⟩
              subst hw
              go_wp2_with fail
              refine (c1 _).mono ?_
              rintro e w1 ⟨rfl, hw⟩
              subst hw
              go_wp2_with fail
              refine (c2 _).mono ?_
              rintro e w2 ⟨rfl, hw⟩
              subst hw
              go_wp2_with fail
              refine (c3 _).mono ?_
              rintro e w3 ⟨rfl, hw⟩
              subst hw
              go_wp2_with fail
              go_ret
              exact ⟨rfl, HB.out⟩
          · skip
            have x5 : (tq == 255) = true := by simp only [beq_iff_eq]; omega
            obtain rfl : Q = false := by
              cases Q with
              | false => rfl
              | true => exact absurd (hQ.1 rfl) (fun h => e2 h.2.2.2.1)
            have c0 := fun W => gnode_fix fr true ⟨fun _ => q0, fun _ => rfl⟩ W
            have c1 := fun W => gnode_fix tq false ⟨fun h => (by cases h), fun h => absurd h q1⟩ W
            have c2 := fun W => gep_fix ep true ⟨fun _ => e1, fun _ => rfl⟩ W
            have c3 := fun W => gep_fix pe false ⟨fun h => (by cases h), fun h => absurd h e2⟩ W
            clear hQ q0 q1 q2 e1 e2
            obtain ⟨⟨u0, u1, u2, u3, u4⟩, -⟩ := OF.out
            go_enter Tryz.func82, Tryz.ntmps82
            go_wp2_with fail
            refine (c0 _).mono ?_
            rintro e w0 ⟨rfl, hw⟩
            subst hw
            go_wp2_with fail
            refine (c1 _).mono ?_
            rintro e w1 ⟨rfl, hw⟩
            subst hw
            go_wp2_with fail
            refine (c2 _).mono ?_
            rintro e w2 ⟨rfl, hw⟩
            subst hw
            go_wp2_with fail
            refine (c3 _).mono ?_
            rintro e w3 ⟨rfl, hw⟩
            subst hw
            go_wp2_with fail
            go_ret
            exact ⟨rfl, HB.out⟩
        · skip
          have x5 : (tq == 255) = true := by simp only [beq_iff_eq]; omega
          obtain rfl : Q = false := by
            cases Q with
            | false => rfl
            | true => exact absurd (hQ.1 rfl) (fun h => e1 h.2.2.1)
          have c0 := fun W => gnode_fix fr true ⟨fun _ => q0, fun _ => rfl⟩ W
          have c1 := fun W => gnode_fix tq false ⟨fun h => (by cases h), fun h => absurd h q1⟩ W
          have c2 := fun W => gep_fix ep false ⟨fun h => (by cases h), fun h => absurd h e1⟩ W
          clear hQ q0 q1 q2 e1
          obtain ⟨⟨u0, u1, u2, u3, u4⟩, -⟩ := OF.out
          go_enter Tryz.func82, Tryz.ntmps82
          go_wp2_with fail
          refine (c0 _).mono ?_
          rintro e w0 ⟨rfl, hw⟩
          subst hw
          go_wp2_with fail
          refine (c1 _).mono ?_
          rintro e w1 ⟨rfl, hw⟩
          subst hw
          go_wp2_with fail
          refine (c2 _).mono ?_
          rintro e w2 ⟨rfl, hw⟩
          subst hw
          go_wp2_with fail
          go_ret
          exact ⟨rfl, HB.out⟩
      · skip
        have x5 : (tq == 255) = false := by simp only [beq_eq_false_iff_ne, ne_eq]; omega
        obtain rfl : Q = false := by
          cases Q with
          | false => rfl
          | true => exact absurd (hQ.1 rfl) (fun h => (by rcases h.2.1 with h | h; exact q1 h; exact q2 h.1))
        have c0 := fun W => gnode_fix fr true ⟨fun _ => q0, fun _ => rfl⟩ W
        have c1 := fun W => gnode_fix tq false ⟨fun h => (by cases h), fun h => absurd h q1⟩ W
        clear hQ q0 q1 q2
        obtain ⟨⟨u0, u1, u2, u3, u4⟩, -⟩ := OF.out
        go_enter Tryz.func82, Tryz.ntmps82
        go_wp2_with fail
        refine (c0 _).mono ?_
        rintro e w0 ⟨rfl, hw⟩
        subst hw
        go_wp2_with fail
        refine (c1 _).mono ?_
        rintro e w1 ⟨rfl, hw⟩
        subst hw
        go_wp2_with fail
        go_ret
        exact ⟨rfl, HB.out⟩
  · skip
    by_cases q2 : tq = 255
    · skip
      have x5 : (tq == 255) = true := by simp only [beq_iff_eq]; omega
      obtain rfl : Q = false := by
        cases Q with
        | false => rfl
        | true => exact absurd (hQ.1 rfl) (fun h => q0 h.1)
      have c0 := fun W => gnode_fix fr false ⟨fun h => (by cases h), fun h => absurd h q0⟩ W
      clear hQ q0 q2
      obtain ⟨⟨u0, u1, u2, u3, u4⟩, -⟩ := OF.out
      go_enter Tryz.func82, Tryz.ntmps82
      go_wp2_with fail
      refine (c0 _).mono ?_
      rintro e w0 ⟨rfl, hw⟩
      subst hw
      go_wp2_with fail
      go_ret
      exact ⟨rfl, HB.out⟩
    · skip
      have x5 : (tq == 255) = false := by simp only [beq_eq_false_iff_ne, ne_eq]; omega
      obtain rfl : Q = false := by
        cases Q with
        | false => rfl
        | true => exact absurd (hQ.1 rfl) (fun h => q0 h.1)
      have c0 := fun W => gnode_fix fr false ⟨fun h => (by cases h), fun h => absurd h q0⟩ W
      clear hQ q0 q2
      obtain ⟨⟨u0, u1, u2, u3, u4⟩, -⟩ := OF.out
      go_enter Tryz.func82, Tryz.ntmps82
      go_wp2_with fail
      refine (c0 _).mono ?_
      rintro e w0 ⟨rfl, hw⟩
      subst hw
      go_wp2_with fail
      go_ret
      exact ⟨rfl, HB.out⟩
theorem gput_own (v : Int) (n : Nat) (w : World) (hv : 0 ≤ v ∧ v < pow256 n) (h1 : 1 ≤ n) (h7 : n ≤ 7) :
    Calls Tryz.prog 84 #[.int .i64 v, .int .i64 n] w fun e w' => ∃ r, e = .returned r ∧ w'.ownsRow w.heap.size 5 1 r n ((lo v n).map (Value.int .u8)) ∧ Below w.heap.size w w' := by
  have cP := put_own v n w hv h1 h7
  clear hv h1 h7
  go_enter Tryz.func84, Tryz.ntmps84
  go_wp2_with fail
  refine cP.mono ?_
  rintro e w1 ⟨r, rfl, ho, hb⟩
  have HO := Lib.hid ho
  have HB := Lib.hid hb
  clear ho hb
  go_wp2_with fail
  go_ret
  exact ⟨_, rfl, HO.out, HB.out⟩
theorem run_upd9 {P : Program} {T K E : TypeId} (hT : P.underlying T = some (.map K E)) (hK : P.underlying K = some (.int .i64)) (W : World) (es es' : Array MapEntry) (cl : Nat) (k : Int) (v : Value) (b : Nat) (hb : b = W.heap.size)
    (hn : Instr.findNow (.int .i64) (.int .i64 k) es.toList 0 = some none) (he : es' = es.push ⟨.int .i64 k, v, cl⟩) : (Instr.mapUpdate T (.map (some b)) (.int .i64 k) v).run P (W.alloc (.map es cl)) = .ok () (W.alloc (.map es' (cl + 1))) := by
  subst hb he
  have hb : (W.alloc (.map es cl)).heap[W.heap.size]? = some (.map es cl) := by simp [World.alloc, -World.alloc_eq]
  have hk : MapKept.IsKey (.int .i64) (.int .i64 k) := by simp [MapKept.IsKey]
  simp [Instr.mapUpdate, run_underlying hT, MapKept.run_getObj_map hb, MapKept.run_checkKey hK hk, MapKept.run_findKey hK hn, MapKept.run_setObj_map _ hb, Result.andThen]
  simp [World.alloc, -World.alloc_eq, Array.setIfInBounds]
  refine Array.ext (by simp) (fun i h1 h2 => ?_)
  have h3 : i < W.heap.size + 1 := by simpa using h2
  by_cases e : W.heap.size = i
  · subst e; simp
  · have h4 : i < W.heap.size := by omega
    simp [Array.getElem_set, Array.getElem_push, e, h4]
theorem run_look9 {P : Program} {T K E : TypeId} (hT : P.underlying T = some (.map K E)) (hK : P.underlying K = some (.int .i64)) (W : World) (es : Array MapEntry) (cl : Nat) (k : Int) (v : Value) (b i : Nat) (hb : W.heap[b]? = some (.map es cl))
    (hn : Instr.findNow (.int .i64) (.int .i64 k) es.toList 0 = some (some (i, v))) : (Instr.lookup T (.map (some b)) (.int .i64 k) true).run P W = .ok (.tuple #[v, .bool true]) W := by
  have hk : MapKept.IsKey (.int .i64) (.int .i64 k) := by simp [MapKept.IsKey]
  simp [Instr.lookup, run_underlying hT, MapKept.run_getObj_map hb, MapKept.run_checkKey hK hk, MapKept.run_findKey hK hn, Result.andThen]
theorem run_look9_no {P : Program} {T K E : TypeId} (hT : P.underlying T = some (.map K E)) (hK : P.underlying K = some (.int .i64)) (W : World) (es : Array MapEntry) (cl : Nat) (k : Int) (z : Value) (b : Nat) (hb : W.heap[b]? = some (.map es cl))
    (hn : Instr.findNow (.int .i64) (.int .i64 k) es.toList 0 = some none) (hz : (zeroValue E).run P W = .ok z W) : (Instr.lookup T (.map (some b)) (.int .i64 k) true).run P W = .ok (.tuple #[z, .bool false]) W := by
  have hk : MapKept.IsKey (.int .i64) (.int .i64 k) := by simp [MapKept.IsKey]
  simp [Instr.lookup, run_underlying hT, MapKept.run_getObj_map hb, MapKept.run_checkKey hK hk, MapKept.run_findKey hK hn, Result.andThen, hz]
/-- Four closures under the keys 1 tq 4. -/
def ent4 (f1 f2 f3 f4 : Value) : Array MapEntry := #[⟨.int .i64 1, f1, 0⟩, ⟨.int .i64 2, f2, 1⟩, ⟨.int .i64 3, f3, 2⟩, ⟨.int .i64 4, f4, 3⟩]
theorem find2 (f1 f2 f3 f4 : Value) : Instr.findNow (.int .i64) (.int .i64 2) (ent4 f1 f2 f3 f4).toList 0 = some (some (1, f2)) := by simp [ent4, Instr.findNow, Instr.sameNow]
theorem find3 (f1 f2 f3 f4 : Value) : Instr.findNow (.int .i64) (.int .i64 3) (ent4 f1 f2 f3 f4).toList 0 = some (some (2, f3)) := by simp [ent4, Instr.findNow, Instr.sameNow]
theorem find0 (f1 f2 f3 f4 : Value) (k : Int) (h : k ≠ 1 ∧ k ≠ 2 ∧ k ≠ 3 ∧ k ≠ 4) : Instr.findNow (.int .i64) (.int .i64 k) (ent4 f1 f2 f3 f4).toList 0 = some none := by
  have e1 : (k == 1) = false := by simpa using h.1
  have e2 : (k == 2) = false := by simpa using h.2.1
  have e3 : (k == 3) = false := by simpa using h.2.2.1
  have e4 : (k == 4) = false := by simpa using h.2.2.2
  simp [ent4, Instr.findNow, Instr.sameNow, e1, e2, e3, e4]
end Go.Proofs.YthnajpckhoomgaaGreat
