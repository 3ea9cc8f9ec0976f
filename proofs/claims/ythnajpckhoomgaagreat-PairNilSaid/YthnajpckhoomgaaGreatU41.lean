/- Texts Pq11 of this proof, in one. No conditions but on lengths. -/
import Derived.Test.YthnajpckhoomgaaGreatRows
import Derived.Test.YthnajpckhoomgaaGreatU55
import Derived.Test.YthnajpckhoomgaaGreatU40
import Derived.ArgAppend
import Derived.Below
import Derived.BigQuiet
import Derived.Calls
import Derived.ChangeArms
import Derived.ChangeMade
import Derived.ChangeOld
import Derived.Deep.Cut
import Derived.Deep.CutBlock
import Derived.Deep.QuietTactic
import Derived.Deep.RegionHeld
import Derived.Deep.RegionLaw
import Derived.Deep.RegionWith
import Derived.Deep.Slices
import Derived.Laws.AppendOwnNone
import Derived.Laws.BitsLemmas
import Derived.Laws.BytesArg
import Derived.Laws.LoneSync
import Derived.Laws.OwnMore
import Derived.Laws.StructEq
import Derived.Lib.Hide
import Derived.Lib.QuietBelow
import Derived.Lib.SliceRun
import Derived.LoopIn
import Derived.LoopTactic
import Derived.Maps.AppendAt
import Derived.OpenShut
import Derived.Orders
import Derived.Outline
import Derived.OwnWalkIn
import Derived.ProofKit
import Derived.RangeFuncBox
import Derived.RangeFuncCalls
import Derived.RangeFuncLeaves
import Derived.RangeFuncNested
import Derived.Shelf.RegionOpen
import Derived.Shelf.RegionOpenPlain
import Derived.ShutString
import Derived.StillTail
import Derived.TacticsInMore
import Derived.WalkKit
import Derived.WalkLawsBesides
import Derived.WalkSpells
import Derived.WideShapes
namespace Go.Proofs.YthnajpckhoomgaaGreat
set_option maxRecDepth 100000
set_option linter.unusedVariables false
open Go.RowKit

def hitA (a : Ak) (z : Nat × Bt × Int) : Bool := decide (AkOne a) && hasN a.2.2.1 a.2.2.2 z.2.1.1
theorem got_nilL {s : Sd} (a : Ak) (h : s.L = []) : gtS s a = s ∧ gtN s a = 0 := by
  have e : gtS s a = s := by
    unfold gtS
    split
    · rw [h]
      show ({ s with L := [] } : Sd) = s
      rw [← h]
    · rfl
  exact ⟨e, by unfold gtN; rw [e]; omega⟩
theorem got_far {s : Sd} {a : Ak} (h : ¬ far (fstN s) a.2.2.1 ≤ far (fstN s) s.nx) : gtS s a = s ∧ gtN s a = 0 := by
  have e : gtS s a = s := gtS_no (fun g => h g.2)
  exact ⟨e, by unfold gtN; rw [e]; omega⟩
theorem got_near {s : Sd} {a : Ak} {Z : Zs1} (hz : s.L = Z.map Prod.snd) (h : far (fstN s) a.2.2.1 ≤ far (fstN s) s.nx) : gtS s a = { s with L := (Z.filter fun z => !hitA a z).map Prod.snd } ∧ gtN s a = Z.length - (Z.filter fun z => !hitA a z).length := by
  have e : gtS s a = { s with L := (Z.filter fun z => !hitA a z).map Prod.snd } := by
    by_cases ha : AkOne a
    · rw [gtS_yes ⟨ha, h⟩, hz, List.filter_map]
      congr 2
      refine List.filter_congr fun z _ => ?_
      show kpt a z.2 = _
      unfold kpt hitA
      rw [decide_eq_true ha, Bool.true_and]
    · rw [gtS_no (fun g => ha g.1)]
      have e2 : (Z.filter fun z => !hitA a z) = Z := by
        rw [List.filter_eq_self]
        intro z _
        unfold hitA
        rw [decide_eq_false ha]
        rfl
      rw [e2, ← hz]
  refine ⟨e, ?_⟩
  unfold gtN
  rw [e, hz, List.length_map, List.length_map]
section
variable {w : World} {F : Nat → Prop} {b : Nat} {s : Sd} {Z : Zs1} {vW vO : Value}
theorem PZ.first (h : PZ w F b s Z vW vO) {z : Nat × Bt × Int} (hz : Z[0]? = some z) : fstN s = z.2.1.1 := by
  obtain ⟨hk, rfl⟩ := List.getElem?_eq_some_iff.1 hz
  unfold fstN
  rw [h.zl]
  cases Z with
  | nil => exact absurd hk (Nat.not_lt_zero 0)
  | cons z Z => rfl
set_option maxHeartbeats 8000000 in
theorem pgot_any (a1 a2 a3 a4 : Int) (h : PZ w F b s Z vW vO) (hok : SdOk s) : Calls Tryz.prog 74 #[.pointer (some ⟨b, 0, none⟩), .agg #[.int .i64 a1, .int .i64 a2, .int .i64 a3, .int .i64 a4]] w fun e w' => e = .returned (.int .i64 (gtN s (a1, a2, a3, a4))) ∧ Chg F w w' ∧ ∃ F' Z' vO', PZ w' F' b (gtS s (a1, a2, a3, a4)) Z' vW vO' ∧ ∀ k, F' k → F k ∨ w.heap.size ≤ k := by
  obtain ⟨aO, cO, rfl⟩ := h.oform
  have hzl : Z.length ≤ 16 := (h.olen hok).1
  obtain ⟨g0, hg0⟩ : ∃ g0, w.heap.size = g0 := ⟨_, rfl⟩
  obtain ⟨W1, hW1⟩ : ∃ W1, w.alloc (.cells #[.int .i64 a1, .int .i64 a2, .int .i64 a3, .int .i64 a4] 112) = W1 := ⟨_, rfl⟩
  have hb1 : Below w.heap.size w W1 := hW1 ▸ (Below.refl _ w).alloc (Nat.le_refl _) _
  have ha1 : Cells4a W1 g0 0 (a1, a2, a3, a4) := by rw [← hW1, ← hg0]; refine ⟨?_, ?_, ?_, ?_⟩ <;> simp
  have hFp : ∀ k, F k → k < g0 := fun k hk => hg0 ▸ h.lt k hk
  have H1 := Lib.hid (h.below hb1)
  have HW1 := Lib.hid hW1
  have HB1 := Lib.hid hb1
  have HG0 := Lib.hid hg0
  have HA1 := Lib.hid ha1
  have HFP := Lib.hid hFp
  have HSZ : Hid (w.heap.size ≤ W1.heap.size) := hb1.size
  clear hW1 hb1 hg0 ha1 hFp h
  by_cases hnil : Z = []
  · subst hnil
    obtain ⟨e1, e2⟩ := got_nilL (a1, a2, a3, a4) (s := s) H1.out.zl
    have HE1 := Lib.hid e1
    have HE2 := Lib.hid e2
    obtain ⟨c0, c1, c2, c3, c4, cf⟩ := H1.out.cells
    clear e1 e2 c0 c1 c2 c3 cf
    go_enter Tryz.func74, Tryz.ntmps74
    go_upto_region 1 with (fail)
    rw [HW1.out]
    try simp only [HG0.out]
    go_wp2_with fail
    go_ret
    rw [HE1.out, HE2.out]
    exact ⟨rfl, chg0 HB1.out, F, [], _, H1.out, fun k hk => .inl hk⟩
  · obtain ⟨z0, hz0⟩ : ∃ z0, Z[0]? = some z0 := by
      cases Z with
      | nil => exact absurd rfl hnil
      | cons z Z => exact ⟨z, rfl⟩
    have hpos : 0 < Z.length := (List.getElem?_eq_some_iff.1 hz0).1
    obtain ⟨g, cap, hgo⟩ : ∃ g cap, Value.slice aO Z.length cO = .slice (some ⟨g, 0, none⟩) Z.length cap := by
      rcases H1.out.ot.2 with ⟨_, h2⟩ | ⟨g, cap, cur, h2, _⟩
      · rw [List.length_map] at h2; omega
      · rw [List.length_map] at h2; exact ⟨g, cap, h2⟩
    simp only [Value.slice.injEq, true_and] at hgo
    obtain ⟨rfl, rfl⟩ := hgo
    obtain ⟨p0, pf⟩ := row_pt H1.out.ot (k := 0) (p := z0.1) (by rw [List.getElem?_map, hz0]; rfl)
    obtain ⟨x1, x2, hx, -, hs0, -, -, pn⟩ := H1.out.pt rfl hz0
    have hZ0 := hz0
    clear hx x1 x2
    have hf := H1.out.first hz0
    obtain ⟨n0, hn0⟩ : ∃ n0, fstN s = n0 := ⟨_, rfl⟩
    rw [← hf, hn0] at pn
    obtain ⟨q, hq⟩ : ∃ q, z0.1 = q := ⟨_, rfl⟩
    rw [hq] at p0 pn
    obtain ⟨c0, c1, c2, c3, c4, cf⟩ := H1.out.cells
    have HN0 := Lib.hid hn0
    have hb0 : ((Z.length : Int) == 0) = false := beq_false_of_ne (by omega)
    have hltz : (0 : Int) < Z.length := by omega
    obtain ⟨W2, hW2⟩ : ∃ W2, W2 = W1 := ⟨_, rfl⟩
    subst hW2
    have hbl := H1.out.lt b H1.out.fb
    have kc : ∀ w', Below W2.heap.size W2 w' → w'.cell? ⟨g0, 2, none⟩ = some (.int .i64 a3) ∧ w'.cell? ⟨b, 2, none⟩ = some (.int .i64 s.nx) := fun w' h => by
      have h4 := HA1.out.below h
      simp only [Cells4a, Nat.zero_add] at h4
      exact ⟨h4.2.2.1, (h.cell (p := ⟨b, 2, none⟩) hbl).trans c2⟩
    clear c0 c1 c2 c3 cf hnil pf hs0 hf hn0 hq hz0 hZ0 hbl
    go_enter Tryz.func74, Tryz.ntmps74
    go_upto_region 1 with (fail)
    rw [HW1.out]
    try simp only [HG0.out]
    go_upto_region 4 with (fail)
    clear p0 pn c4
    refine T3.wp_region_tail (C := fun w' => Below W2.heap.size W2 w') (X := fun _ w w' => Below w.heap.size w w') (n := 59) 10 (by kernel_rfl) (by kernel_rfl) (by kernel_rfl) (by kernel_rfl) rfl (fun _ w => Below.refl _ w) (Below.refl _ _).drew ?_
    simp only [List.take_succ_cons, List.take_zero, List.drop_succ_cons, List.drop_zero]
    refine T3.w_is (fun _ w => Below.refl _ w) rfl _ (.inl rfl) (fun ρ w hC hc hfn hf => by have e5 : ρ (.tmp 5) = _ := hf 5 (by decide); (conv => lhs; simp [execOp, go_sem, hc, e5])) ?_
    refine T3.w_is (fun _ w => Below.refl _ w) rfl _ (.inl rfl) (fun ρ w hC hc hfn hf => by have e3 : ρ (.tmp 3) = _ := hf 3 (by decide); (conv => lhs; simp [execOp, go_sem, hc, e3])) ?_
    refine T3.w_is (fun _ w => Below.refl _ w) rfl _ (.inl rfl) (fun ρ w hC hc hfn hf => by have e28 : ρ (.tmp 28) = _ := hf 28 (by decide); (conv => lhs; simp [execOp, go_sem, hc, e28, kc w hC])) ?_
    refine T3.w_call rfl (Is _) (fun _ _ _ _ _ h _ => h) 109 (.inl rfl) (fun ρ w hC hc hfn hf => by have e27 : ρ (.tmp 27) = _ := hf 27 (by decide); have e29 : ρ (.tmp 29) = _ := hf 29 (by decide); exact ⟨_, by (conv => lhs; simp [execOp, resolve, invoke, go_sem, hc, hfn, e27, e29]), (far_any n0 a3 w).mono fun e w' h => ⟨_, h.1, hC.trans (h.2.mono hC.size), h.2, rfl⟩⟩) ?_
    refine T3.w_is (fun _ w => Below.refl _ w) rfl _ (.inl rfl) (fun ρ w hC hc hfn hf => by have e5 : ρ (.tmp 5) = _ := hf 5 (by decide); (conv => lhs; simp [execOp, go_sem, hc, e5])) ?_
    refine T3.w_is (fun _ w => Below.refl _ w) rfl _ (.inl rfl) (fun ρ w hC hc hfn hf => by have e0 : ρ (.tmp 0) = _ := hf 0 (by decide); (conv => lhs; simp [execOp, go_sem, hc, e0])) ?_
    refine T3.w_is (fun _ w => Below.refl _ w) rfl _ (.inl rfl) (fun ρ w hC hc hfn hf => by have e32 : ρ (.tmp 32) = _ := hf 32 (by decide); (conv => lhs; simp [execOp, go_sem, hc, e32])) ?_
    refine T3.w_is (fun _ w => Below.refl _ w) rfl _ (.inl rfl) (fun ρ w hC hc hfn hf => by have e33 : ρ (.tmp 33) = _ := hf 33 (by decide); (conv => lhs; simp [execOp, go_sem, hc, e33])) ?_
    refine T3.w_is (fun _ w => Below.refl _ w) rfl _ (.inl rfl) (fun ρ w hC hc hfn hf => by have e34 : ρ (.tmp 34) = _ := hf 34 (by decide); (conv => lhs; simp [execOp, go_sem, hc, e34, kc w hC])) ?_
    refine T3.w_call rfl (Is _) (fun _ _ _ _ _ h _ => h) 109 (.inl rfl) (fun ρ w hC hc hfn hf => by have e31 : ρ (.tmp 31) = _ := hf 31 (by decide); have e35 : ρ (.tmp 35) = _ := hf 35 (by decide); exact ⟨_, by (conv => lhs; simp [execOp, resolve, invoke, go_sem, hc, hfn, e31, e35]), (far_any n0 s.nx w).mono fun e w' h => ⟨_, h.1, hC.trans (h.2.mono hC.size), h.2, rfl⟩⟩) ?_
    intro A V5 hC hn hd hf
    have y0 : A.eval (.tmp 0) = _ := Eq.trans (hf 0) (by conv => lhs; simp [go_sem])
    have y1 : A.eval (.tmp 1) = _ := Eq.trans (hf 1) (by conv => lhs; simp [go_sem])
    have y2 : A.eval (.tmp 2) = _ := Eq.trans (hf 2) (by conv => lhs; simp [go_sem])
    have y3 : A.eval (.tmp 3) = _ := Eq.trans (hf 3) (by conv => lhs; simp [go_sem])
    have y4 : A.eval (.tmp 4) = _ := Eq.trans (hf 4) (by conv => lhs; simp [go_sem])
    have y5 : A.eval (.tmp 5) = _ := Eq.trans (hf 5) (by conv => lhs; simp [go_sem])
    have y6 : A.eval (.tmp 6) = _ := Eq.trans (hf 6) (by conv => lhs; simp [go_sem])
    have y7 : A.eval (.tmp 7) = _ := Eq.trans (hf 7) (by conv => lhs; simp [go_sem])
    have y8 : A.eval (.tmp 8) = _ := Eq.trans (hf 8) (by conv => lhs; simp [go_sem])
    have y9 : A.eval (.tmp 9) = _ := Eq.trans (hf 9) (by conv => lhs; simp [go_sem])
    have y10 : A.eval (.tmp 10) = _ := Eq.trans (hf 10) (by conv => lhs; simp [go_sem])
    have y11 : A.eval (.tmp 11) = _ := Eq.trans (hf 11) (by conv => lhs; simp [go_sem])
    have y12 : A.eval (.tmp 12) = _ := Eq.trans (hf 12) (by conv => lhs; simp [go_sem])
    have y13 : A.eval (.tmp 13) = _ := Eq.trans (hf 13) (by conv => lhs; simp [go_sem])
    have y14 : A.eval (.tmp 14) = _ := Eq.trans (hf 14) (by conv => lhs; simp [go_sem])
    have y15 : A.eval (.tmp 15) = _ := Eq.trans (hf 15) (by conv => lhs; simp [go_sem])
    have y16 : A.eval (.tmp 16) = _ := Eq.trans (hf 16) (by conv => lhs; simp [go_sem])
    have y17 : A.eval (.tmp 17) = _ := Eq.trans (hf 17) (by conv => lhs; simp [go_sem])
    have y18 : A.eval (.tmp 18) = _ := Eq.trans (hf 18) (by conv => lhs; simp [go_sem])
    have y19 : A.eval (.tmp 19) = _ := Eq.trans (hf 19) (by conv => lhs; simp [go_sem])
    have y20 : A.eval (.tmp 20) = _ := Eq.trans (hf 20) (by conv => lhs; simp [go_sem])
    have y21 : A.eval (.tmp 21) = _ := Eq.trans (hf 21) (by conv => lhs; simp [go_sem])
    have y22 : A.eval (.tmp 22) = _ := Eq.trans (hf 22) (by conv => lhs; simp [go_sem])
    have y23 : A.eval (.tmp 23) = _ := Eq.trans (hf 23) (by conv => lhs; simp [go_sem])
    have y24 : A.eval (.tmp 24) = _ := Eq.trans (hf 24) (by conv => lhs; simp [go_sem])
    have y25 : A.eval (.tmp 25) = _ := Eq.trans (hf 25) (by conv => lhs; simp [go_sem])
    have y26 : A.eval (.tmp 26) = _ := Eq.trans (hf 26) (by conv => lhs; simp [go_sem])
    have y27 : A.eval (.tmp 27) = _ := hf 27
    have y28 : A.eval (.tmp 28) = _ := hf 28
    have y29 : A.eval (.tmp 29) = _ := hf 29
    have y30 : A.eval (.tmp 30) = _ := hf 30
    have y31 : A.eval (.tmp 31) = _ := hf 31
    have y32 : A.eval (.tmp 32) = _ := hf 32
    have y33 : A.eval (.tmp 33) = _ := hf 33
    have y34 : A.eval (.tmp 34) = _ := hf 34
    have y35 : A.eval (.tmp 35) = _ := hf 35
    have y36 : A.eval (.tmp 36) = _ := hf 36
    have y37 : A.eval (.tmp 37) = _ := Eq.trans (hf 37) (by conv => lhs; simp [go_sem])
    have y38 : A.eval (.tmp 38) = _ := Eq.trans (hf 38) (by conv => lhs; simp [go_sem])
    have y39 : A.eval (.tmp 39) = _ := Eq.trans (hf 39) (by conv => lhs; simp [go_sem])
    have y40 : A.eval (.tmp 40) = _ := Eq.trans (hf 40) (by conv => lhs; simp [go_sem])
    have y41 : A.eval (.tmp 41) = _ := Eq.trans (hf 41) (by conv => lhs; simp [go_sem])
    have y42 : A.eval (.tmp 42) = _ := Eq.trans (hf 42) (by conv => lhs; simp [go_sem])
    have y43 : A.eval (.tmp 43) = _ := Eq.trans (hf 43) (by conv => lhs; simp [go_sem])
    have y44 : A.eval (.tmp 44) = _ := Eq.trans (hf 44) (by conv => lhs; simp [go_sem])
    have y45 : A.eval (.tmp 45) = _ := Eq.trans (hf 45) (by conv => lhs; simp [go_sem])
    have y46 : A.eval (.tmp 46) = _ := Eq.trans (hf 46) (by conv => lhs; simp [go_sem])
    have y47 : A.eval (.tmp 47) = _ := Eq.trans (hf 47) (by conv => lhs; simp [go_sem])
    have y48 : A.eval (.tmp 48) = _ := Eq.trans (hf 48) (by conv => lhs; simp [go_sem])
    have y49 : A.eval (.tmp 49) = _ := Eq.trans (hf 49) (by conv => lhs; simp [go_sem])
    have y50 : A.eval (.tmp 50) = _ := Eq.trans (hf 50) (by conv => lhs; simp [go_sem])
    have y51 : A.eval (.tmp 51) = _ := Eq.trans (hf 51) (by conv => lhs; simp [go_sem])
    have y52 : A.eval (.tmp 52) = _ := Eq.trans (hf 52) (by conv => lhs; simp [go_sem])
    have y53 : A.eval (.tmp 53) = _ := Eq.trans (hf 53) (by conv => lhs; simp [go_sem])
    have y54 : A.eval (.tmp 54) = _ := Eq.trans (hf 54) (by conv => lhs; simp [go_sem])
    have y55 : A.eval (.tmp 55) = _ := Eq.trans (hf 55) (by conv => lhs; simp [go_sem])
    have y56 : A.eval (.tmp 56) = _ := Eq.trans (hf 56) (by conv => lhs; simp [go_sem])
    have y57 : A.eval (.tmp 57) = _ := Eq.trans (hf 57) (by conv => lhs; simp [go_sem])
    have y58 : A.eval (.tmp 58) = _ := Eq.trans (hf 58) (by conv => lhs; simp [go_sem])
    clear hf
    have hA := frame_eq hn
    rw [show List.range 59 = [0, 1, 2, 3, 4, 5, 6, 7, 8, 9, 10, 11, 12, 13, 14, 15, 16, 17, 18, 19, 20, 21, 22, 23, 24, 25, 26, 27, 28, 29, 30, 31, 32, 33, 34, 35, 36, 37, 38, 39, 40, 41, 42, 43, 44, 45, 46, 47, 48, 49, 50, 51, 52, 53, 54, 55, 56, 57, 58] from rfl, hd] at hA
    simp only [List.map_cons, List.map_nil, y0, y1, y2, y3, y4, y5, y6, y7, y8, y9, y10, y11, y12, y13, y14, y15, y16, y17, y18, y19, y20, y21, y22, y23, y24, y25, y26, y27, y28, y29, y30, y31, y32, y33, y34, y35, y36, y37, y38, y39, y40, y41, y42, y43, y44, y45, y46, y47, y48, y49, y50, y51, y52, y53, y54, y55, y56, y57, y58] at hA
    clear y0 y1 y2 y3 y4 y5 y6 y7 y8 y9 y10 y11 y12 y13 y14 y15 y16 y17 y18 y19 y20 y21 y22 y23 y24 y25 y26 y27 y28 y29 y30 y31 y32 y33 y34 y35 y36 y37 y38 y39 y40 y41 y42 y43 y44 y45 y46 y47 y48 y49 y50 y51 y52 y53 y54 y55 y56 y57 y58
    clear hn hd
    subst hA
    have HC5 := Lib.hid hC
    clear kc hC
    by_cases hgt : far n0 s.nx < far n0 a3
    · obtain ⟨e1, e2⟩ := got_far (s := s) (a := (a1, a2, a3, a4)) (by rw [HN0.out]; show ¬ far n0 a3 ≤ far n0 s.nx; omega)
      have HE1 := Lib.hid e1
      have HE2 := Lib.hid e2
      have hd : decide (far n0 s.nx < far n0 a3) = true := decide_eq_true hgt
      clear e1 e2
      go_wp2_with fail
      go_ret
      rw [HE1.out, HE2.out]
      exact ⟨rfl, chg0 (HB1.out.trans (HC5.out.mono HSZ.out)), F, Z, _, H1.out.below HC5.out, fun k hk => .inl hk⟩
    · obtain ⟨e1, e2⟩ := got_near (s := s) (a := (a1, a2, a3, a4)) H1.out.zl (by rw [HN0.out]; show far n0 a3 ≤ far n0 s.nx; omega)
      have HE1 := Lib.hid e1
      have HE2 := Lib.hid e2
      have hd : decide (far n0 s.nx < far n0 a3) = false := decide_eq_false hgt
      have h5 := H1.out.below HC5.out
      have ha5 := HA1.out.below HC5.out
      obtain ⟨c0, c1, c2, c3, c4, cf⟩ := h5.cells
      have H5 := Lib.hid h5
      have hgF : F g := h5.of g rfl
      have hgb : g ≠ b := (own_blk h5.ot rfl).ne h5.bt (by decide)
      have hT : Tells g0 g (hitA (a1, a2, a3, a4)) Z V5 := fun z hz W hc => by
        have hs := h5.snd z hz
        obtain ⟨u, h6, h7⟩ := hs.cell
        have hne : z.1 ≠ g := hs.blk.ne (own_blk h5.ot rfl) (by decide)
        have h8 : W.cell? ⟨z.1, 0, none⟩ = some (.int .i64 z.2.1.1) := by
          rw [World.cell?_of_block (hc.block z.1 (some_lt h6) hne)]
          simp [World.cell?, h6]
        have hg9 : g0 < V5.heap.size := World.block_lt_of_cell? V5 _ ha5.1
        have h9 : Cells4a W g0 0 (a1, a2, a3, a4) := by
          have f : ∀ {j : Nat} {v : Value}, V5.cell? ⟨g0, j, none⟩ = some v → W.cell? ⟨g0, j, none⟩ = some v := fun h => (hc.cell hg9 (fun e => by have := HFP.out g hgF; have e' : g0 = g := e; omega)).trans h
          obtain ⟨x0, x1, x2, x3⟩ := ha5
          exact ⟨f x0, f x1, f x2, f x3⟩
        exact gotc_any g0 z.1 a1 a2 a3 a4 z.2.1.1 W h9 h8
      have C7 := Lib.hid (delf_any g0 g cO (hitA (a1, a2, a3, a4)) Z V5 hT h5.ot (by omega))
      have hzl2 : (Z.filter fun z => !hitA (a1, a2, a3, a4) z).length ≤ Z.length := List.length_filter_le _ _
      have HGB := Lib.hid hgb
      have HGF := Lib.hid hgF
      clear e1 e2 c0 c1 c2 c3 h5 ha5 hT hgF hgb hgt
      go_wp2_with fail
      refine C7.out.mono ?_
      rintro e W7 ⟨⟨n, hn, rfl, ho⟩, hc⟩
      have hc7 : Chg (fun k => (Value.slice (some ⟨g, 0, none⟩) Z.length cO).ownBlock = some k) V5 W7 := hc.mono (fun x _ e => by rw [e]; rfl)
      have hp7 : W7.heap[b]? = some (.cells #[.int .i64 s.win, .int .i64 s.tries, .int .i64 s.nx, vW, .slice (some ⟨g, 0, none⟩) Z.length cO] 123) := (hc.block b (H5.out.lt b H5.out.fb) (fun e => HGB.out e.symm)).trans H5.out.hp
      have h8 := H5.out.oset hc7 (vO' := .slice (some ⟨g, 0, none⟩) n cO) (Z' := Z.filter fun z => !hitA (a1, a2, a3, a4) z) ho (fun g2 hg2 => .inl hg2) (H5.out.nd.sublist (List.filter_sublist.map _)) (fun z hz => H5.out.snd z (List.mem_filter.1 hz).1)
      have hcg : Chg F w (W7.setCell ⟨b, 4, none⟩ (.slice (some ⟨g, 0, none⟩) n cO)) := ((chg0 (HB1.out.trans (HC5.out.mono HSZ.out)) : Chg F w V5).trans (hc7.mono (fun x _ e => by cases e; exact HGF.out)) (fun _ _ e => e)).setCell (.inl H5.out.fb) _
      have c4' : W7.cell? ⟨b, 4, none⟩ = some (.slice (some ⟨g, 0, none⟩) Z.length cO) := by simp [World.cell?, hp7]
      have cf' : ∀ j, W7.frozen? ⟨b, j, none⟩ = false := fun j => by simp [World.frozen?, hp7]
      have HS8 : Hid (w.heap.size ≤ V5.heap.size) := (HB1.out.trans (HC5.out.mono HSZ.out)).size
      rw [← hn] at hzl2 HE2
      have HGN : Hid (((Z.length - n : Nat) : Int) = (Z.length : Int) - n) := by show _ = _; omega
      have H8 := Lib.hid h8
      have HCG := Lib.hid hcg
      have HNN := Lib.hid hn
      have hnn : n ≤ 16 := by omega
      clear c4 cf hc hc7 hp7 h8 hcg hn ho
      go_wp2_with fail
      go_ret
      rw [HE1.out, HE2.out, HGN.out]
      refine ⟨by go_num, HCG.out, _, _, _, H8.out, fun k hk => hk.imp (fun h => h) (fun h => Nat.le_trans HS8.out h.1)⟩
end
end Go.Proofs.YthnajpckhoomgaaGreat
