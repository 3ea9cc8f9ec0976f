/- Texts Bpg, Pq12 of this proof, in one. No conditions but on lengths. -/
import Derived.Test.YtdigjklhfimnbaaGreatRows
import Derived.Test.YtdigjklhfimnbaaGreatU25
import Derived.Test.YtdigjklhfimnbaaGreatU26
import Derived.ArgAppend
import Derived.Below
import Derived.BigQuiet
import Derived.Calls
import Derived.ChangeArms
import Derived.ChangeMade
import Derived.ChangeOld
import Derived.Deep.Cut
import Derived.Deep.CutBlock
import Derived.Deep.LoopGhost
import Derived.Deep.QuietTactic
import Derived.Deep.RegionHeld
import Derived.Deep.RegionLaw
import Derived.Deep.RegionWith
import Derived.Deep.Slices
import Derived.Laws.AppendOwnNone
import Derived.Laws.BytesArg
import Derived.Laws.LoneSync
import Derived.Laws.OwnMore
import Derived.Laws.StructEq
import Derived.Lib.Hide
import Derived.Lib.QuietBelow
import Derived.Lib.SliceRun
import Derived.LoopIn
import Derived.LoopTactic
import Derived.Maps.AppendAt
import Derived.OpenShut
import Derived.Orders
import Derived.Outline
import Derived.OwnWalkIn
import Derived.ProofKit
import Derived.RangeFuncBox
import Derived.RangeFuncCalls
import Derived.RangeFuncLeaves
import Derived.RangeFuncNested
import Derived.Shelf.RegionOpen
import Derived.Shelf.RegionOpenPlain
import Derived.ShutString
import Derived.StillTail
import Derived.TacticsInMore
import Derived.WalkKit
import Derived.WalkLawsBesides
import Derived.WalkSpells
import Derived.WideShapes
namespace Go.Proofs.YtdigjklhfimnbaaGreat
set_option maxRecDepth 100000
open Go.RowKit Go.Sort

set_option maxHeartbeats 8000000 in
theorem ppack_any (v : Value) (ys : List Ob) (first most : Int) (w : World) (hy : Os w v ys) (hl : ys.length ≤ 3000) :
    Calls Tryz.prog 79 #[v, .int .i64 first, .int .i64 most] w fun e w' => ∃ r, e = .returned (.tuple #[r, .int .i64 (packE ys most)]) ∧ RowB w' w.heap.size r (packB ys first most) ∧ Below w.heap.size w w' := by
  have fin : ∀ E : Int, E ≠ 0 → packE ys most = E → packB ys first most = [] := fun E h1 h2 => by unfold packB; rw [if_neg (by omega)]
  by_cases hm : 40 ≤ most ∧ most ≤ 512
  · have hm1 : ¬ most < 40 := by omega
    have hm2 : ¬ (512 : Int) < most := by omega
    have cR := fun w' (hb : Below w.heap.size w w') => areright_any v ys w' (hy.below hb) hl
    by_cases hok : AllOk ys
    · rw [decide_eq_true hok] at cR
      by_cases h1024 : 1024 < ys.length
      · have hE : packE ys most = 2 := by unfold packE; rw [if_pos ⟨hm.1, hm.2, hok⟩, if_pos h1024]
        rw [fin 2 (by decide) hE, hE]
        have hl2 : (1024 : Int) < (ys.length : Int) := by omega
        obtain ⟨a, c, rfl⟩ := hy.form
        clear hy hok fin hE
        go_enter Tryz.func79, Tryz.ntmps79
        go_wp2_with (go_at_call 122; refine (cR _ (Below.refl _ _)).mono ?_; rintro e w1 ⟨rfl, hb⟩; have B1 := Lib.hid hb; clear hb)
        go_ret2
        exact ⟨_, rfl, RowB_nil _ _, B1.out⟩
      · have hE : packE ys most = 0 := by unfold packE; rw [if_pos ⟨hm.1, hm.2, hok⟩, if_neg h1024]
        rw [packB, if_pos hE, hE]
        have hl2 : ¬ (1024 : Int) < (ys.length : Int) := by omega
        have cP := fun w' (hb : Below w.heap.size w w') => part_any v ys (lft first) most w' (hy.below hb) (by omega) hm
        obtain ⟨a, c, rfl⟩ := hy.form
        have HY := Lib.hid hy
        clear hy hok fin hE
        go_enter Tryz.func79, Tryz.ntmps79
        go_wp2_with fail
        refine (cR _ (Below.refl _ _)).mono ?_
        rintro e w1 ⟨rfl, hb⟩
        have B1 := Lib.hid hb
        clear hb
        go_wp2_with fail
        refine (pleft_any first _).mono ?_
        rintro e w2 ⟨rfl, hb⟩
        replace B1 := Lib.hid (B1.out.trans (hb.mono B1.out.size))
        clear hb
        go_wp2_with fail
        refine (cP _ B1.out).mono ?_
        rintro e w3 ⟨r, rfl, hr, hb⟩
        have R := Lib.hid (show RowB w3 w.heap.size r (packL most ys first) from hr.base B1.out.size)
        have B2 := Lib.hid (B1.out.trans (hb.mono B1.out.size))
        obtain ⟨a3, c3, rfl⟩ := R.out.form
        clear hb hr
        go_wp2_with fail
        go_ret2
        exact ⟨_, rfl, R.out, B2.out⟩
    · rw [decide_eq_false hok] at cR
      have hE : packE ys most = 1 := by unfold packE; rw [if_neg (fun h => hok h.2.2)]
      rw [fin 1 (by decide) hE, hE]
      obtain ⟨a, c, rfl⟩ := hy.form
      clear hy hok fin hE
      go_enter Tryz.func79, Tryz.ntmps79
      go_wp2_with (go_at_call 122; refine (cR _ (Below.refl _ _)).mono ?_; rintro e w1 ⟨rfl, hb⟩; have B1 := Lib.hid hb; clear hb)
      go_ret2
      exact ⟨_, rfl, RowB_nil _ _, B1.out⟩
  · have hE : packE ys most = 1 := by unfold packE; rw [if_neg (fun h => hm ⟨h.1, h.2.1⟩)]
    rw [fin 1 (by decide) hE, hE]
    obtain ⟨a, c, rfl⟩ := hy.form
    clear hy fin hE
    by_cases h40 : most < 40
    · go_enter Tryz.func79, Tryz.ntmps79
      go_wp2_with fail
      go_ret2
      exact ⟨_, rfl, RowB_nil _ _, Below.refl _ _⟩
    · have h512 : (512 : Int) < most := by omega
      go_enter Tryz.func79, Tryz.ntmps79
      go_wp2_with fail
      go_ret2
      exact ⟨_, rfl, RowB_nil _ _, Below.refl _ _⟩
end Go.Proofs.YtdigjklhfimnbaaGreat
namespace Go.Proofs.YtdigjklhfimnbaaGreat
set_option maxRecDepth 100000
set_option linter.unusedVariables false
open Go.RowKit

def stk (s : Sd) (k : Nat) : Sd := { s with W := s.W.drop (cnt ((sdT s).take k)), L := s.L ++ ((sdT s).take k).map fun p => (p, 1), nx := numAt s.nx k }
theorem stk_zero (s : Sd) : stk s 0 = s := by
  unfold stk
  show ({ s with W := s.W, L := s.L ++ [], nx := s.nx } : Sd) = s
  rw [List.append_nil]
theorem stk_end (s : Sd) : stk s (sdT s).length = sdS s := by
  unfold stk sdS nxA
  rw [List.take_of_length_le (Nat.le_refl _)]
theorem cnt_app (a b : List Bt) : cnt (a ++ b) = cnt a + cnt b := by unfold cnt; rw [List.map_append, List.sum_append]
theorem sdT_one {s : Sd} {k : Nat} (hk : k < (sdT s).length) : (sdT s).take (k + 1) = (sdT s).take k ++ [(sdT s).getD k zb] := by
  rw [List.take_succ_eq_append_getElem hk]
  simp [List.getD, hk]
theorem stk_succ {s : Sd} (h : SdOk s) {k : Nat} (hk : k < (sdT s).length) : loS (stk s k) ((sdT s).getD k zb) = stk s (k + 1) := by
  unfold loS stk
  rw [sdT_one hk, cnt_app, List.map_append, List.drop_drop, List.append_assoc, numAt_succ, sdT_num h k hk]
  rfl
theorem cnt_le {s : Sd} (k : Nat) : cnt ((sdT s).take k) ≤ s.W.length := by
  have h1 := congrArg List.length (send_all s)
  rw [List.length_append, List.length_flatten, List.map_map] at h1
  have h2 : cnt (sdT s) = (List.map (List.length ∘ Prod.snd) (sdT s)).sum := rfl
  have h3 := cnt_app ((sdT s).take k) ((sdT s).drop k)
  rw [List.take_append_drop] at h3
  omega
theorem stk_len {s : Sd} (h : SdOk s) {k : Nat} (hk : k < (sdT s).length) : BtOk ((sdT s).getD k zb).1 ((sdT s).getD k zb).2 ∧ ((sdT s).getD k zb).2.length ≤ (stk s k).W.length := by
  obtain ⟨R, hR, _⟩ := sdT_split s
  have hl : k < (packL 512 s.W s.nx).length := by rw [hR, List.length_append]; omega
  have hb := packL_ok h.wok (most := 512) ⟨by decide, by decide⟩ s.nx k hl
  rw [hR, getD_app hk] at hb
  refine ⟨hb.1, ?_⟩
  have h1 := cnt_le (s := s) (k + 1)
  rw [sdT_one hk, cnt_app] at h1
  have h2 : cnt [(sdT s).getD k zb] = ((sdT s).getD k zb).2.length := Nat.add_zero _
  show _ ≤ (s.W.drop (cnt ((sdT s).take k))).length
  rw [List.length_drop]
  omega
theorem near_all {s : Sd} (h : SdOk s) {k : Nat} (hk : k < (sdT s).length) : ∀ e ∈ (stk s k).L, withB ((sdT s).getD k zb).1 e.1.1 s.win = true := fun e he => by
  have hx := sdT_in (getD_mem (d := zb) hk)
  have hn := sdT_num h k hk
  have hf := sdT_far h k hk
  rw [← hn] at hf
  have hle : far (fstN s) e.1.1 ≤ far (fstN s) ((sdT s).getD k zb).1 := by
    rcases List.mem_append.1 he with h1 | h1
    · have := h.below e h1; omega
    · obtain ⟨p, hp, rfl⟩ := List.mem_map.1 h1
      obtain ⟨i, hi, rfl⟩ := List.mem_iff_getElem.1 hp
      rw [List.length_take] at hi
      have hi' : i < (sdT s).length := by omega
      have e1 : ((sdT s).take k)[i] = (sdT s).getD i zb := by rw [List.getElem_take]; simp [List.getD, hi']
      have e2 := sdT_far h i hi'
      rw [← sdT_num h i hi'] at e2
      show far (fstN s) (((sdT s).take k)[i]).1 ≤ _
      rw [e1, e2, hf]
      omega
  have h3 := far_shift hle
  have h4 := far_bd (fstN s) e.1.1
  exact decide_eq_true (by rw [h3]; omega)
theorem far_stop {s : Sd} (h : SdOk s) {p : Bt} {R : List Bt} (hR : packL 512 s.W s.nx = sdT s ++ p :: R) : ∃ e, (sdS s).L[0]? = some e ∧ withB p.1 e.1.1 s.win = false := by
  obtain ⟨R2, hR2, hno⟩ := sdT_split s
  have e2 : R2 = p :: R := List.append_cancel_left (hR2.symm.trans hR)
  have hno2 := hno p R e2
  cases hL : (sdS s).L with
  | nil =>
    have hL' : s.L ++ (sdT s).map (fun p => (p, (1 : Int))) = [] := hL
    obtain ⟨h1, h2⟩ := List.append_eq_nil_iff.1 hL'
    have h3 : sdT s = [] := List.map_eq_nil_iff.1 h2
    have hl : 0 < (packL 512 s.W s.nx).length := by rw [hR, List.length_append, List.length_cons]; omega
    have hn := packL_num 512 s.W s.nx 0 hl
    rw [lft_nx h, hR, h3] at hn
    have hn' : p.1 = s.nx := hn
    have hf : fstN s = s.nx := by unfold fstN; rw [h1]
    rw [hn', hf, far_self] at hno2
    exact absurd (by have := h.win; omega) hno2
  | cons e l =>
    refine ⟨e, rfl, ?_⟩
    have hf : fstN (sdS s) = e.1.1 := by unfold fstN; rw [hL]
    rw [fst_send h] at hf
    rw [hf] at hno2
    exact decide_eq_false hno2
end Go.Proofs.YtdigjklhfimnbaaGreat
