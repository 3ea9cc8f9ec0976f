/- Texts Obc of this proof, in one. No conditions but on lengths. -/
import Derived.Test.YthnajpckhoomgaaGreatRows
import Derived.Test.YthnajpckhoomgaaGreatU05
import Derived.Below
import Derived.BigQuiet
import Derived.Calls
import Derived.ChangeOld
import Derived.Deep.QuietTactic
import Derived.Laws.AppendOwnNone
import Derived.Laws.BytesArg
import Derived.Laws.StructEq
import Derived.Lib.Hide
import Derived.Lib.QuietBelow
import Derived.LoopTactic
import Derived.OpenShut
import Derived.Orders
import Derived.Outline
import Derived.ProofKit
import Derived.ShutString
import Derived.WalkKit
import Derived.WalkSpells
namespace Go.Proofs.YthnajpckhoomgaaGreat
set_option maxRecDepth 100000
open Go.RowKit Go.Sort

set_option maxHeartbeats 8000000 in
theorem ocheck_core (k x : Int) (n : Bool) (t o r d i p q s m : Int) (b0 b1 b2 b3 bx bl bh bn : Bool) (w : World)
    (cP : ∀ w, Calls Tryz.prog 94 #[.int .i64 k] w fun e w' => e = .returned (.agg #[.bool b0, .bool b1, .bool b2, .bool b3]) ∧ Below w.heap.size w w')
    (cX : ∀ w, Calls Tryz.prog 95 #[.int .i64 x] w fun e w' => e = .returned (.bool bx) ∧ w = w') (cL : ∀ w, Calls Tryz.prog 96 #[.agg #[.int .i64 p, .int .i64 q, .int .i64 s], .bool b1] w fun e w' => e = .returned (.bool bl) ∧ Below w.heap.size w w') (cH : ∀ w, Calls Tryz.prog 97 #[.agg #[.bool n, .int .i64 t, .int .i64 o, .int .i64 r, .int .i64 d, .int .i64 i], .bool b2] w fun e w' => e = .returned (.bool bh) ∧ Below w.heap.size w w') (cN : ∀ w, Calls Tryz.prog 98 #[.int .i64 m, .bool b3] w fun e w' => e = .returned (.bool bn) ∧ w = w') :
    Calls Tryz.prog 54 #[.agg #[.int .i64 k, .int .i64 x, .bool n, .int .i64 t, .int .i64 o, .int .i64 r, .int .i64 d, .int .i64 i, .int .i64 p, .int .i64 q, .int .i64 s, .int .i64 m]] w fun e w' => e = .returned (.int .i64 (if (b0 && (bx && (!(k == 4 && n) && (bl && (bh && bn))))) = true then 0 else 1)) ∧ Below w.heap.size w w' := by
  cases b0 with
  | false =>
    have RS : Ending.returned (.int .i64 1) = .returned (.int .i64 (if (false && (bx && (!(k == 4 && n) && (bl && (bh && bn))))) = true then 0 else 1)) := by simp
    replace RS := Lib.hid RS
    go_enter Tryz.func54, Tryz.ntmps54
    go_wp2_with (first
        | (go_at_call 94; refine (cP _).mono ?_; rintro e w1 ⟨rfl, hb⟩; have K := Lib.hid ((cells12_alloc w k x n t o r d i p q s m 39).below hb); have HB : Hid (Below w.heap.size w w1) := ((Below.refl _ w).alloc (Nat.le_refl _) _).trans (hb.mono (by simp)); have HL : Hid (w.heap.size < w1.heap.size) := Nat.lt_of_lt_of_le (by simp) hb.size; clear hb; obtain ⟨V, hV, hP, hb2, hs2⟩ := parts_put w1 false b1 b2 b3; replace K := Lib.hid (K.out.below hb2); replace HB := Lib.hid (HB.out.trans (hb2.mono HB.out.size)); clear hb2 hs2 HL; have ⟨c0, c1, c2, c3, c4, c5, c6, c7, c8, c9, c10, c11⟩ := K.out; have ⟨p0, p1, p2, p3⟩ := hP; clear hP)
        | (go_at_call 95; refine (cX _).mono ?_; rintro e w2 ⟨rfl, hw⟩; subst hw)
        | (go_at_call 96; refine (cL _).mono ?_; rintro e w3 ⟨rfl, hb⟩; replace K := Lib.hid (K.out.below hb); have hP : Cells4 w3 _ _ _ _ _ := (show Cells4 _ _ _ _ _ _ from ⟨p0, p1, p2, p3⟩).below hb; replace HB := Lib.hid (HB.out.trans (hb.mono HB.out.size)); clear hb; clear c0 c1 c2 c3 c4 c5 c6 c7 c8 c9 c10 c11 p0 p1 p2 p3; have ⟨c0, c1, c2, c3, c4, c5, c6, c7, c8, c9, c10, c11⟩ := K.out; have ⟨p0, p1, p2, p3⟩ := hP; clear hP)
        | (go_at_call 97; refine (cH _).mono ?_; rintro e w4 ⟨rfl, hb⟩; replace K := Lib.hid (K.out.below hb); have hP : Cells4 w4 _ _ _ _ _ := (show Cells4 _ _ _ _ _ _ from ⟨p0, p1, p2, p3⟩).below hb; replace HB := Lib.hid (HB.out.trans (hb.mono HB.out.size)); clear hb; clear c0 c1 c2 c3 c4 c5 c6 c7 c8 c9 c10 c11 p0 p1 p2 p3; have ⟨c0, c1, c2, c3, c4, c5, c6, c7, c8, c9, c10, c11⟩ := K.out; have ⟨p0, p1, p2, p3⟩ := hP; clear hP)
        | (go_at_call 98; refine (cN _).mono ?_; rintro e w5 ⟨rfl, hw⟩; subst hw))
    all_goals
      go_ret
      first | exact ⟨RS.out, HB.out⟩ | exact ⟨rfl, HB.out⟩
  | true =>
    cases bx with
    | false =>
      have RS : Ending.returned (.int .i64 1) = .returned (.int .i64 (if (true && (false && (!(k == 4 && n) && (bl && (bh && bn))))) = true then 0 else 1)) := by simp
      replace RS := Lib.hid RS
      go_enter Tryz.func54, Tryz.ntmps54
      go_wp2_with (first
          | (go_at_call 94; refine (cP _).mono ?_; rintro e w1 ⟨rfl, hb⟩; have K := Lib.hid ((cells12_alloc w k x n t o r d i p q s m 39).below hb); have HB : Hid (Below w.heap.size w w1) := ((Below.refl _ w).alloc (Nat.le_refl _) _).trans (hb.mono (by simp)); have HL : Hid (w.heap.size < w1.heap.size) := Nat.lt_of_lt_of_le (by simp) hb.size; clear hb; obtain ⟨V, hV, hP, hb2, hs2⟩ := parts_put w1 true b1 b2 b3; replace K := Lib.hid (K.out.below hb2); replace HB := Lib.hid (HB.out.trans (hb2.mono HB.out.size)); clear hb2 hs2 HL; have ⟨c0, c1, c2, c3, c4, c5, c6, c7, c8, c9, c10, c11⟩ := K.out; have ⟨p0, p1, p2, p3⟩ := hP; clear hP)
          | (go_at_call 95; refine (cX _).mono ?_; rintro e w2 ⟨rfl, hw⟩; subst hw)
          | (go_at_call 96; refine (cL _).mono ?_; rintro e w3 ⟨rfl, hb⟩; replace K := Lib.hid (K.out.below hb); have hP : Cells4 w3 _ _ _ _ _ := (show Cells4 _ _ _ _ _ _ from ⟨p0, p1, p2, p3⟩).below hb; replace HB := Lib.hid (HB.out.trans (hb.mono HB.out.size)); clear hb; clear c0 c1 c2 c3 c4 c5 c6 c7 c8 c9 c10 c11 p0 p1 p2 p3; have ⟨c0, c1, c2, c3, c4, c5, c6, c7, c8, c9, c10, c11⟩ := K.out; have ⟨p0, p1, p2, p3⟩ := hP; clear hP)
          | (go_at_call 97; refine (cH _).mono ?_; rintro e w4 ⟨rfl, hb⟩; replace K := Lib.hid (K.out.below hb); have hP : Cells4 w4 _ _ _ _ _ := (show Cells4 _ _ _ _ _ _ from ⟨p0, p1, p2, p3⟩).below hb; replace HB := Lib.hid (HB.out.trans (hb.mono HB.out.size)); clear hb; clear c0 c1 c2 c3 c4 c5 c6 c7 c8 c9 c10 c11 p0 p1 p2 p3; have ⟨c0, c1, c2, c3, c4, c5, c6, c7, c8, c9, c10, c11⟩ := K.out; have ⟨p0, p1, p2, p3⟩ := hP; clear hP)
          | (go_at_call 98; refine (cN _).mono ?_; rintro e w5 ⟨rfl, hw⟩; subst hw))
      all_goals
        go_ret
        first | exact ⟨RS.out, HB.out⟩ | exact ⟨rfl, HB.out⟩
    | true =>
      by_cases h4 : k = 4
      · subst h4
        cases n with
        | true =>
          have RS : Ending.returned (.int .i64 1) = .returned (.int .i64 (if (true && (true && (!((4 : Int) == 4 && true) && (bl && (bh && bn))))) = true then 0 else 1)) := by simp
          replace RS := Lib.hid RS
          go_enter Tryz.func54, Tryz.ntmps54
          go_wp2_with (first
              | (go_at_call 94; refine (cP _).mono ?_; rintro e w1 ⟨rfl, hb⟩; have K := Lib.hid ((cells12_alloc w 4 x true t o r d i p q s m 39).below hb); have HB : Hid (Below w.heap.size w w1) := ((Below.refl _ w).alloc (Nat.le_refl _) _).trans (hb.mono (by simp)); have HL : Hid (w.heap.size < w1.heap.size) := Nat.lt_of_lt_of_le (by simp) hb.size; clear hb; obtain ⟨V, hV, hP, hb2, hs2⟩ := parts_put w1 true b1 b2 b3; replace K := Lib.hid (K.out.below hb2); replace HB := Lib.hid (HB.out.trans (hb2.mono HB.out.size)); clear hb2 hs2 HL; have ⟨c0, c1, c2, c3, c4, c5, c6, c7, c8, c9, c10, c11⟩ := K.out; have ⟨p0, p1, p2, p3⟩ := hP; clear hP)
              | (go_at_call 95; refine (cX _).mono ?_; rintro e w2 ⟨rfl, hw⟩; subst hw)
              | (go_at_call 96; refine (cL _).mono ?_; rintro e w3 ⟨rfl, hb⟩; replace K := Lib.hid (K.out.below hb); have hP : Cells4 w3 _ _ _ _ _ := (show Cells4 _ _ _ _ _ _ from ⟨p0, p1, p2, p3⟩).below hb; replace HB := Lib.hid (HB.out.trans (hb.mono HB.out.size)); clear hb; clear c0 c1 c2 c3 c4 c5 c6 c7 c8 c9 c10 c11 p0 p1 p2 p3; have ⟨c0, c1, c2, c3, c4, c5, c6, c7, c8, c9, c10, c11⟩ := K.out; have ⟨p0, p1, p2, p3⟩ := hP; clear hP)
              | (go_at_call 97; refine (cH _).mono ?_; rintro e w4 ⟨rfl, hb⟩; replace K := Lib.hid (K.out.below hb); have hP : Cells4 w4 _ _ _ _ _ := (show Cells4 _ _ _ _ _ _ from ⟨p0, p1, p2, p3⟩).below hb; replace HB := Lib.hid (HB.out.trans (hb.mono HB.out.size)); clear hb; clear c0 c1 c2 c3 c4 c5 c6 c7 c8 c9 c10 c11 p0 p1 p2 p3; have ⟨c0, c1, c2, c3, c4, c5, c6, c7, c8, c9, c10, c11⟩ := K.out; have ⟨p0, p1, p2, p3⟩ := hP; clear hP)
              | (go_at_call 98; refine (cN _).mono ?_; rintro e w5 ⟨rfl, hw⟩; subst hw))
          all_goals
            go_ret
            first | exact ⟨RS.out, HB.out⟩ | exact ⟨rfl, HB.out⟩
        | false =>
          cases bl with
          | false =>
            have RS : Ending.returned (.int .i64 1) = .returned (.int .i64 (if (true && (true && (!((4 : Int) == 4 && false) && (false && (bh && bn))))) = true then 0 else 1)) := by simp
            replace RS := Lib.hid RS
            go_enter Tryz.func54, Tryz.ntmps54
            go_wp2_with (first
                | (go_at_call 94; refine (cP _).mono ?_; rintro e w1 ⟨rfl, hb⟩; have K := Lib.hid ((cells12_alloc w 4 x false t o r d i p q s m 39).below hb); have HB : Hid (Below w.heap.size w w1) := ((Below.refl _ w).alloc (Nat.le_refl _) _).trans (hb.mono (by simp)); have HL : Hid (w.heap.size < w1.heap.size) := Nat.lt_of_lt_of_le (by simp) hb.size; clear hb; obtain ⟨V, hV, hP, hb2, hs2⟩ := parts_put w1 true b1 b2 b3; replace K := Lib.hid (K.out.below hb2); replace HB := Lib.hid (HB.out.trans (hb2.mono HB.out.size)); clear hb2 hs2 HL; have ⟨c0, c1, c2, c3, c4, c5, c6, c7, c8, c9, c10, c11⟩ := K.out; have ⟨p0, p1, p2, p3⟩ := hP; clear hP)
                | (go_at_call 95; refine (cX _).mono ?_; rintro e w2 ⟨rfl, hw⟩; subst hw)
                | (go_at_call 96; refine (cL _).mono ?_; rintro e w3 ⟨rfl, hb⟩; replace K := Lib.hid (K.out.below hb); have hP : Cells4 w3 _ _ _ _ _ := (show Cells4 _ _ _ _ _ _ from ⟨p0, p1, p2, p3⟩).below hb; replace HB := Lib.hid (HB.out.trans (hb.mono HB.out.size)); clear hb; clear c0 c1 c2 c3 c4 c5 c6 c7 c8 c9 c10 c11 p0 p1 p2 p3; have ⟨c0, c1, c2, c3, c4, c5, c6, c7, c8, c9, c10, c11⟩ := K.out; have ⟨p0, p1, p2, p3⟩ := hP; clear hP)
                | (go_at_call 97; refine (cH _).mono ?_; rintro e w4 ⟨rfl, hb⟩; replace K := Lib.hid (K.out.below hb); have hP : Cells4 w4 _ _ _ _ _ := (show Cells4 _ _ _ _ _ _ from ⟨p0, p1, p2, p3⟩).below hb; replace HB := Lib.hid (HB.out.trans (hb.mono HB.out.size)); clear hb; clear c0 c1 c2 c3 c4 c5 c6 c7 c8 c9 c10 c11 p0 p1 p2 p3; have ⟨c0, c1, c2, c3, c4, c5, c6, c7, c8, c9, c10, c11⟩ := K.out; have ⟨p0, p1, p2, p3⟩ := hP; clear hP)
                | (go_at_call 98; refine (cN _).mono ?_; rintro e w5 ⟨rfl, hw⟩; subst hw))
            all_goals
              go_ret
              first | exact ⟨RS.out, HB.out⟩ | exact ⟨rfl, HB.out⟩
          | true =>
            cases bh with
            | false =>
              have RS : Ending.returned (.int .i64 1) = .returned (.int .i64 (if (true && (true && (!((4 : Int) == 4 && false) && (true && (false && bn))))) = true then 0 else 1)) := by simp
              replace RS := Lib.hid RS
              go_enter Tryz.func54, Tryz.ntmps54
              go_wp2_with (first
                  | (go_at_call 94; refine (cP _).mono ?_; rintro e w1 ⟨rfl, hb⟩; have K := Lib.hid ((cells12_alloc w 4 x false t o r d i p q s m 39).below hb); have HB : Hid (Below w.heap.size w w1) := ((Below.refl _ w).alloc (Nat.le_refl _) _).trans (hb.mono (by simp)); have HL : Hid (w.heap.size < w1.heap.size) := Nat.lt_of_lt_of_le (by simp) hb.size; clear hb; obtain ⟨V, hV, hP, hb2, hs2⟩ := parts_put w1 true b1 b2 b3; replace K := Lib.hid (K.out.below hb2); replace HB := Lib.hid (HB.out.trans (hb2.mono HB.out.size)); clear hb2 hs2 HL; have ⟨c0, c1, c2, c3, c4, c5, c6, c7, c8, c9, c10, c11⟩ := K.out; have ⟨p0, p1, p2, p3⟩ := hP; clear hP)
                  | (go_at_call 95; refine (cX _).mono ?_; rintro e w2 ⟨rfl, hw⟩; subst hw)
                  | (go_at_call 96; refine (cL _).mono ?_; rintro e w3 ⟨rfl, hb⟩; replace K := Lib.hid (K.out.below hb); have hP : Cells4 w3 _ _ _ _ _ := (show Cells4 _ _ _ _ _ _ from ⟨p0, p1, p2, p3⟩).below hb; replace HB := Lib.hid (HB.out.trans (hb.mono HB.out.size)); clear hb; clear c0 c1 c2 c3 c4 c5 c6 c7 c8 c9 c10 c11 p0 p1 p2 p3; have ⟨c0, c1, c2, c3, c4, c5, c6, c7, c8, c9, c10, c11⟩ := K.out; have ⟨p0, p1, p2, p3⟩ := hP; clear hP)
                  | (go_at_call 97; refine (cH _).mono ?_; rintro e w4 ⟨rfl, hb⟩; replace K := Lib.hid (K.out.below hb); have hP : Cells4 w4 _ _ _ _ _ := (show Cells4 _ _ _ _ _ _ from ⟨p0, p1, p2, p3⟩).below hb; replace HB := Lib.hid (HB.out.trans (hb.mono HB.out.size)); clear hb; clear c0 c1 c2 c3 c4 c5 c6 c7 c8 c9 c10 c11 p0 p1 p2 p3; have ⟨c0, c1, c2, c3, c4, c5, c6, c7, c8, c9, c10, c11⟩ := K.out; have ⟨p0, p1, p2, p3⟩ := hP; clear hP)
                  | (go_at_call 98; refine (cN _).mono ?_; rintro e w5 ⟨rfl, hw⟩; subst hw))
              all_goals
                go_ret
                first | exact ⟨RS.out, HB.out⟩ | exact ⟨rfl, HB.out⟩
            | true =>
              cases bn with
              | false =>
                have RS : Ending.returned (.int .i64 1) = .returned (.int .i64 (if (true && (true && (!((4 : Int) == 4 && false) && (true && (true && false))))) = true then 0 else 1)) := by simp
                replace RS := Lib.hid RS
                go_enter Tryz.func54, Tryz.ntmps54
                go_wp2_with (first
                    | (go_at_call 94; refine (cP _).mono ?_; rintro e w1 ⟨rfl, hb⟩; have K := Lib.hid ((cells12_alloc w 4 x false t o r d i p q s m 39).below hb); have HB : Hid (Below w.heap.size w w1) := ((Below.refl _ w).alloc (Nat.le_refl _) _).trans (hb.mono (by simp)); have HL : Hid (w.heap.size < w1.heap.size) := Nat.lt_of_lt_of_le (by simp) hb.size; clear hb; obtain ⟨V, hV, hP, hb2, hs2⟩ := parts_put w1 true b1 b2 b3; replace K := Lib.hid (K.out.below hb2); replace HB := Lib.hid (HB.out.trans (hb2.mono HB.out.size)); clear hb2 hs2 HL; have ⟨c0, c1, c2, c3, c4, c5, c6, c7, c8, c9, c10, c11⟩ := K.out; have ⟨p0, p1, p2, p3⟩ := hP; clear hP)
                    | (go_at_call 95; refine (cX _).mono ?_; rintro e w2 ⟨rfl, hw⟩; subst hw)
                    | (go_at_call 96; refine (cL _).mono ?_; rintro e w3 ⟨rfl, hb⟩; replace K := Lib.hid (K.out.below hb); have hP : Cells4 w3 _ _ _ _ _ := (show Cells4 _ _ _ _ _ _ from ⟨p0, p1, p2, p3⟩).below hb; replace HB := Lib.hid (HB.out.trans (hb.mono HB.out.size)); clear hb; clear c0 c1 c2 c3 c4 c5 c6 c7 c8 c9 c10 c11 p0 p1 p2 p3; have ⟨c0, c1, c2, c3, c4, c5, c6, c7, c8, c9, c10, c11⟩ := K.out; have ⟨p0, p1, p2, p3⟩ := hP; clear hP)
                    | (go_at_call 97; refine (cH _).mono ?_; rintro e w4 ⟨rfl, hb⟩; replace K := Lib.hid (K.out.below hb); have hP : Cells4 w4 _ _ _ _ _ := (show Cells4 _ _ _ _ _ _ from ⟨p0, p1, p2, p3⟩).below hb; replace HB := Lib.hid (HB.out.trans (hb.mono HB.out.size)); clear hb; clear c0 c1 c2 c3 c4 c5 c6 c7 c8 c9 c10 c11 p0 p1 p2 p3; have ⟨c0, c1, c2, c3, c4, c5, c6, c7, c8, c9, c10, c11⟩ := K.out; have ⟨p0, p1, p2, p3⟩ := hP; clear hP)
                    | (go_at_call 98; refine (cN _).mono ?_; rintro e w5 ⟨rfl, hw⟩; subst hw))
                all_goals
                  go_ret
                  first | exact ⟨RS.out, HB.out⟩ | exact ⟨rfl, HB.out⟩
              | true =>
                have RS : Ending.returned (.int .i64 0) = .returned (.int .i64 (if (true && (true && (!((4 : Int) == 4 && false) && (true && (true && true))))) = true then 0 else 1)) := by simp
                replace RS := Lib.hid RS
                go_enter Tryz.func54, Tryz.ntmps54
                go_wp2_with (first
                    | (go_at_call 94; refine (cP _).mono ?_; rintro e w1 ⟨rfl, hb⟩; have K := Lib.hid ((cells12_alloc w 4 x false t o r d i p q s m 39).below hb); have HB : Hid (Below w.heap.size w w1) := ((Below.refl _ w).alloc (Nat.le_refl _) _).trans (hb.mono (by simp)); have HL : Hid (w.heap.size < w1.heap.size) := Nat.lt_of_lt_of_le (by simp) hb.size; clear hb; obtain ⟨V, hV, hP, hb2, hs2⟩ := parts_put w1 true b1 b2 b3; replace K := Lib.hid (K.out.below hb2); replace HB := Lib.hid (HB.out.trans (hb2.mono HB.out.size)); clear hb2 hs2 HL; have ⟨c0, c1, c2, c3, c4, c5, c6, c7, c8, c9, c10, c11⟩ := K.out; have ⟨p0, p1, p2, p3⟩ := hP; clear hP)
                    | (go_at_call 95; refine (cX _).mono ?_; rintro e w2 ⟨rfl, hw⟩; subst hw)
                    | (go_at_call 96; refine (cL _).mono ?_; rintro e w3 ⟨rfl, hb⟩; replace K := Lib.hid (K.out.below hb); have hP : Cells4 w3 _ _ _ _ _ := (show Cells4 _ _ _ _ _ _ from ⟨p0, p1, p2, p3⟩).below hb; replace HB := Lib.hid (HB.out.trans (hb.mono HB.out.size)); clear hb; clear c0 c1 c2 c3 c4 c5 c6 c7 c8 c9 c10 c11 p0 p1 p2 p3; have ⟨c0, c1, c2, c3, c4, c5, c6, c7, c8, c9, c10, c11⟩ := K.out; have ⟨p0, p1, p2, p3⟩ := hP; clear hP)
                    | (go_at_call 97; refine (cH _).mono ?_; rintro e w4 ⟨rfl, hb⟩; replace K := Lib.hid (K.out.below hb); have hP : Cells4 w4 _ _ _ _ _ := (show Cells4 _ _ _ _ _ _ from ⟨p0, p1, p2, p3⟩).below hb; replace HB := Lib.hid (HB.out.trans (hb.mono HB.out.size)); clear hb; clear c0 c1 c2 c3 c4 c5 c6 c7 c8 c9 c10 c11 p0 p1 p2 p3; have ⟨c0, c1, c2, c3, c4, c5, c6, c7, c8, c9, c10, c11⟩ := K.out; have ⟨p0, p1, p2, p3⟩ := hP; clear hP)
                    | (go_at_call 98; refine (cN _).mono ?_; rintro e w5 ⟨rfl, hw⟩; subst hw))
                all_goals
                  go_ret
                  first | exact ⟨RS.out, HB.out⟩ | exact ⟨rfl, HB.out⟩
      · have e4 : (k == 4) = false := by simpa using h4
        clear h4
        cases bl with
        | false =>
          have RS : Ending.returned (.int .i64 1) = .returned (.int .i64 (if (true && (true && (!(k == 4 && n) && (false && (bh && bn))))) = true then 0 else 1)) := by simp [e4]
          replace RS := Lib.hid RS
          go_enter Tryz.func54, Tryz.ntmps54
          go_wp2_with (first
              | (go_at_call 94; refine (cP _).mono ?_; rintro e w1 ⟨rfl, hb⟩; have K := Lib.hid ((cells12_alloc w k x n t o r d i p q s m 39).below hb); have HB : Hid (Below w.heap.size w w1) := ((Below.refl _ w).alloc (Nat.le_refl _) _).trans (hb.mono (by simp)); have HL : Hid (w.heap.size < w1.heap.size) := Nat.lt_of_lt_of_le (by simp) hb.size; clear hb; obtain ⟨V, hV, hP, hb2, hs2⟩ := parts_put w1 true b1 b2 b3; replace K := Lib.hid (K.out.below hb2); replace HB := Lib.hid (HB.out.trans (hb2.mono HB.out.size)); clear hb2 hs2 HL; have ⟨c0, c1, c2, c3, c4, c5, c6, c7, c8, c9, c10, c11⟩ := K.out; have ⟨p0, p1, p2, p3⟩ := hP; clear hP)
              | (go_at_call 95; refine (cX _).mono ?_; rintro e w2 ⟨rfl, hw⟩; subst hw)
              | (go_at_call 96; refine (cL _).mono ?_; rintro e w3 ⟨rfl, hb⟩; replace K := Lib.hid (K.out.below hb); have hP : Cells4 w3 _ _ _ _ _ := (show Cells4 _ _ _ _ _ _ from ⟨p0, p1, p2, p3⟩).below hb; replace HB := Lib.hid (HB.out.trans (hb.mono HB.out.size)); clear hb; clear c0 c1 c2 c3 c4 c5 c6 c7 c8 c9 c10 c11 p0 p1 p2 p3; have ⟨c0, c1, c2, c3, c4, c5, c6, c7, c8, c9, c10, c11⟩ := K.out; have ⟨p0, p1, p2, p3⟩ := hP; clear hP)
              | (go_at_call 97; refine (cH _).mono ?_; rintro e w4 ⟨rfl, hb⟩; replace K := Lib.hid (K.out.below hb); have hP : Cells4 w4 _ _ _ _ _ := (show Cells4 _ _ _ _ _ _ from ⟨p0, p1, p2, p3⟩).below hb; replace HB := Lib.hid (HB.out.trans (hb.mono HB.out.size)); clear hb; clear c0 c1 c2 c3 c4 c5 c6 c7 c8 c9 c10 c11 p0 p1 p2 p3; have ⟨c0, c1, c2, c3, c4, c5, c6, c7, c8, c9, c10, c11⟩ := K.out; have ⟨p0, p1, p2, p3⟩ := hP; clear hP)
              | (go_at_call 98; refine (cN _).mono ?_; rintro e w5 ⟨rfl, hw⟩; subst hw))
          all_goals
            go_ret
            first | exact ⟨RS.out, HB.out⟩ | exact ⟨rfl, HB.out⟩
        | true =>
          cases bh with
          | false =>
            have RS : Ending.returned (.int .i64 1) = .returned (.int .i64 (if (true && (true && (!(k == 4 && n) && (true && (false && bn))))) = true then 0 else 1)) := by simp [e4]
            replace RS := Lib.hid RS
            go_enter Tryz.func54, Tryz.ntmps54
            go_wp2_with (first
                | (go_at_call 94; refine (cP _).mono ?_; rintro e w1 ⟨rfl, hb⟩; have K := Lib.hid ((cells12_alloc w k x n t o r d i p q s m 39).below hb); have HB : Hid (Below w.heap.size w w1) := ((Below.refl _ w).alloc (Nat.le_refl _) _).trans (hb.mono (by simp)); have HL : Hid (w.heap.size < w1.heap.size) := Nat.lt_of_lt_of_le (by simp) hb.size; clear hb; obtain ⟨V, hV, hP, hb2, hs2⟩ := parts_put w1 true b1 b2 b3; replace K := Lib.hid (K.out.below hb2); replace HB := Lib.hid (HB.out.trans (hb2.mono HB.out.size)); clear hb2 hs2 HL; have ⟨c0, c1, c2, c3, c4, c5, c6, c7, c8, c9, c10, c11⟩ := K.out; have ⟨p0, p1, p2, p3⟩ := hP; clear hP)
                | (go_at_call 95; refine (cX _).mono ?_; rintro e w2 ⟨rfl, hw⟩; subst hw)
                | (go_at_call 96; refine (cL _).mono ?_; rintro e w3 ⟨rfl, hb⟩; replace K := Lib.hid (K.out.below hb); have hP : Cells4 w3 _ _ _ _ _ := (show Cells4 _ _ _ _ _ _ from ⟨p0, p1, p2, p3⟩).below hb; replace HB := Lib.hid (HB.out.trans (hb.mono HB.out.size)); clear hb; clear c0 c1 c2 c3 c4 c5 c6 c7 c8 c9 c10 c11 p0 p1 p2 p3; have ⟨c0, c1, c2, c3, c4, c5, c6, c7, c8, c9, c10, c11⟩ := K.out; have ⟨p0, p1, p2, p3⟩ := hP; clear hP)
                | (go_at_call 97; refine (cH _).mono ?_; rintro e w4 ⟨rfl, hb⟩; replace K := Lib.hid (K.out.below hb); have hP : Cells4 w4 _ _ _ _ _ := (show Cells4 _ _ _ _ _ _ from ⟨p0, p1, p2, p3⟩).below hb; replace HB := Lib.hid (HB.out.trans (hb.mono HB.out.size)); clear hb; clear c0 c1 c2 c3 c4 c5 c6 c7 c8 c9 c10 c11 p0 p1 p2 p3; have ⟨c0, c1, c2, c3, c4, c5, c6, c7, c8, c9, c10, c11⟩ := K.out; have ⟨p0, p1, p2, p3⟩ := hP; clear hP)
                | (go_at_call 98; refine (cN _).mono ?_; rintro e w5 ⟨rfl, hw⟩; subst hw))
            all_goals
              go_ret
              first | exact ⟨RS.out, HB.out⟩ | exact ⟨rfl, HB.out⟩
          | true =>
            cases bn with
            | false =>
              have RS : Ending.returned (.int .i64 1) = .returned (.int .i64 (if (true && (true && (!(k == 4 && n) && (true && (true && false))))) = true then 0 else 1)) := by simp [e4]
              replace RS := Lib.hid RS
              go_enter Tryz.func54, Tryz.ntmps54
              go_wp2_with (first
                  | (go_at_call 94; refine (cP _).mono ?_; rintro e w1 ⟨rfl, hb⟩; have K := Lib.hid ((cells12_alloc w k x n t o r d i p q s m 39).below hb); have HB : Hid (Below w.heap.size w w1) := ((Below.refl _ w).alloc (Nat.le_refl _) _).trans (hb.mono (by simp)); have HL : Hid (w.heap.size < w1.heap.size) := Nat.lt_of_lt_of_le (by simp) hb.size; clear hb; obtain ⟨V, hV, hP, hb2, hs2⟩ := parts_put w1 true b1 b2 b3; replace K := Lib.hid (K.out.below hb2); replace HB := Lib.hid (HB.out.trans (hb2.mono HB.out.size)); clear hb2 hs2 HL; have ⟨c0, c1, c2, c3, c4, c5, c6, c7, c8, c9, c10, c11⟩ := K.out; have ⟨p0, p1, p2, p3⟩ := hP; clear hP)
                  | (go_at_call 95; refine (cX _).mono ?_; rintro e w2 ⟨rfl, hw⟩; subst hw)
                  | (go_at_call 96; refine (cL _).mono ?_; rintro e w3 ⟨rfl, hb⟩; replace K := Lib.hid (K.out.below hb); have hP : Cells4 w3 _ _ _ _ _ := (show Cells4 _ _ _ _ _ _ from ⟨p0, p1, p2, p3⟩).below hb; replace HB := Lib.hid (HB.out.trans (hb.mono HB.out.size)); clear hb; clear c0 c1 c2 c3 c4 c5 c6 c7 c8 c9 c10 c11 p0 p1 p2 p3; have ⟨c0, c1, c2, c3, c4, c5, c6, c7, c8, c9, c10, c11⟩ := K.out; have ⟨p0, p1, p2, p3⟩ := hP; clear hP)
                  | (go_at_call 97; refine (cH _).mono ?_; rintro e w4 ⟨rfl, hb⟩; replace K := Lib.hid (K.out.below hb); have hP : Cells4 w4 _ _ _ _ _ := (show Cells4 _ _ _ _ _ _ from ⟨p0, p1, p2, p3⟩).below hb; replace HB := Lib.hid (HB.out.trans (hb.mono HB.out.size)); clear hb; clear c0 c1 c2 c3 c4 c5 c6 c7 c8 c9 c10 c11 p0 p1 p2 p3; have ⟨c0, c1, c2, c3, c4, c5, c6, c7, c8, c9, c10, c11⟩ := K.out; have ⟨p0, p1, p2, p3⟩ := hP; clear hP)
                  | (go_at_call 98; refine (cN _).mono ?_; rintro e w5 ⟨rfl, hw⟩; subst hw))
              all_goals
                go_ret
                first | exact ⟨RS.out, HB.out⟩ | exact ⟨rfl, HB.out⟩
            | true =>
              have RS : Ending.returned (.int .i64 0) = .returned (.int .i64 (if (true && (true && (!(k == 4 && n) && (true && (true && true))))) = true then 0 else 1)) := by simp [e4]
              replace RS := Lib.hid RS
              go_enter Tryz.func54, Tryz.ntmps54
              go_wp2_with (first
                  | (go_at_call 94; refine (cP _).mono ?_; rintro e w1 ⟨rfl, hb⟩; have K := Lib.hid ((cells12_alloc w k x n t o r d i p q s m 39).below hb); have HB : Hid (Below w.heap.size w w1) := ((Below.refl _ w).alloc (Nat.le_refl _) _).trans (hb.mono (by simp)); have HL : Hid (w.heap.size < w1.heap.size) := Nat.lt_of_lt_of_le (by simp) hb.size; clear hb; obtain ⟨V, hV, hP, hb2, hs2⟩ := parts_put w1 true b1 b2 b3; replace K := Lib.hid (K.out.below hb2); replace HB := Lib.hid (HB.out.trans (hb2.mono HB.out.size)); clear hb2 hs2 HL; have ⟨c0, c1, c2, c3, c4, c5, c6, c7, c8, c9, c10, c11⟩ := K.out; have ⟨p0, p1, p2, p3⟩ := hP; clear hP)
                  | (go_at_call 95; refine (cX _).mono ?_; rintro e w2 ⟨rfl, hw⟩; subst hw)
                  | (go_at_call 96; refine (cL _).mono ?_; rintro e w3 ⟨rfl, hb⟩; replace K := Lib.hid (K.out.below hb); have hP : Cells4 w3 _ _ _ _ _ := (show Cells4 _ _ _ _ _ _ from ⟨p0, p1, p2, p3⟩).below hb; replace HB := Lib.hid (HB.out.trans (hb.mono HB.out.size)); clear hb; clear c0 c1 c2 c3 c4 c5 c6 c7 c8 c9 c10 c11 p0 p1 p2 p3; have ⟨c0, c1, c2, c3, c4, c5, c6, c7, c8, c9, c10, c11⟩ := K.out; have ⟨p0, p1, p2, p3⟩ := hP; clear hP)
                  | (go_at_call 97; refine (cH _).mono ?_; rintro e w4 ⟨rfl, hb⟩; replace K := Lib.hid (K.out.below hb); have hP : Cells4 w4 _ _ _ _ _ := (show Cells4 _ _ _ _ _ _ from ⟨p0, p1, p2, p3⟩).below hb; replace HB := Lib.hid (HB.out.trans (hb.mono HB.out.size)); clear hb; clear c0 c1 c2 c3 c4 c5 c6 c7 c8 c9 c10 c11 p0 p1 p2 p3; have ⟨c0, c1, c2, c3, c4, c5, c6, c7, c8, c9, c10, c11⟩ := K.out; have ⟨p0, p1, p2, p3⟩ := hP; clear hP)
                  | (go_at_call 98; refine (cN _).mono ?_; rintro e w5 ⟨rfl, hw⟩; subst hw))
              all_goals
                go_ret
                first | exact ⟨RS.out, HB.out⟩ | exact ⟨rfl, HB.out⟩
theorem obc_eq (k x : Int) (n : Bool) (t o r d i p q s m : Int) : (if (kn k && (decide (NodeOk x) && (!(k == 4 && n) && (decide (LvOk p q s (lvB k)) && (decide (HgOk n t o r d i (hgB k)) && decide (NumOk m (nuB k))))))) = true then (0 : Int) else 1) = obc k x n t o r d i p q s m := by
  unfold obc
  congr 1
  simp only [Bool.and_eq_true, Bool.not_eq_true', Bool.and_eq_false_iff, decide_eq_true_eq, ObOk, beq_eq_false_iff_ne, eq_iff_iff]
  cases n <;> by_cases h4 : k = 4 <;> simp [h4]
theorem ocheck_any (k x : Int) (n : Bool) (t o r d i p q s m : Int) (w : World) :
    Calls Tryz.prog 54 #[.agg #[.int .i64 k, .int .i64 x, .bool n, .int .i64 t, .int .i64 o, .int .i64 r, .int .i64 d, .int .i64 i, .int .i64 p, .int .i64 q, .int .i64 s, .int .i64 m]] w fun e w' => e = .returned (.int .i64 (obc k x n t o r d i p q s m)) ∧ Below w.heap.size w w' := by
  rw [← obc_eq]
  exact ocheck_core k x n t o r d i p q s m _ _ _ _ _ _ _ _ w (fun w => parts_any k w) (fun w => onode_any x w) (fun w => olev_any p q s _ w) (fun w => ohgt_any n t o r d i _ w) (fun w => onum_any m _ w)
end Go.Proofs.YthnajpckhoomgaaGreat
