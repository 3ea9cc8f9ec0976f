/- thalweglaw02.HeightDoes: for any two heights, level, numbers the law answers true; no condition. -/
import Derived.Test.YtkgckmlphfafjaaOrd0
import Derived.WalkLawsBesides
import Derived.WalkKit
import Derived.ProofKit
import Derived.OpenShut
import Derived.ShutString
import Derived.ChangeOld
import Derived.Below
namespace Go.Proofs.Ytkgckmlphfafjaa.heightDoes
open Go.ChangeShapes Go.WideShapes Go.ChangeAt Go.RowKit
open Go.Proofs.Ytkgckmlphfafjaa.heightOrder (lv lev_any)
open Go.ChangeMaps (open_string shut_string)
set_option linter.unusedVariables false

theorem own : ownKnob Try.prog.godebug = none := by kernel_rfl
theorem laidOut : laidOutB Try.prog = true := by kernel_rfl

theorem _root_.Go.Proofs.Ytkgckmlphfafjaa.Cells3.allocs {w : World} {b : Nat} {t o r : Int} (h : Cells3 w b t o r) : (∀ O, (w.alloc O).cell? ⟨b, 0, none⟩ = some (.int .i64 t)) ∧ (∀ O, (w.alloc O).cell? ⟨b, 1, none⟩ = some (.int .i64 o)) ∧ (∀ O, (w.alloc O).cell? ⟨b, 2, none⟩ = some (.int .i64 r)) := by
  have k : ∀ O, Cells3 (w.alloc O) b t o r := fun O => h.below ((Below.refl _ _).alloc (Nat.le_refl _) O)
  exact ⟨fun O => (k O).1, fun O => (k O).2.1, fun O => (k O).2.2⟩
theorem rlev_any (n : Bool) (t o r d i : Int) (w : World) : Calls Try.prog 17 #[.agg #[.bool n, .int .i64 t, .int .i64 o, .int .i64 r, .int .i64 d, .int .i64 i]] w fun e w' => e = .returned (.agg #[.int .i64 (lv (told n t o r d i) t), .int .i64 (lv (told n t o r d i) o), .int .i64 (lv (told n t o r d i) r)]) ∧ Below w.heap.size w w' := by
  have h := rlevel_any n t o r d i w
  unfold levV at h
  cases ht : told n t o r d i with
  | true => rw [ht, if_pos rfl] at h; exact h
  | false => rw [ht, if_neg (by decide)] at h; exact h
theorem at_form (t o r d i : Int) : ∃ m x1 x2 x3 x4 x5 e0, atV t o r d i = .tuple #[.agg #[.bool m, .int .i64 x1, .int .i64 x2, .int .i64 x3, .int .i64 x4, .int .i64 x5], .int .i64 e0] := by
  unfold atV
  by_cases h : HtOk false t o r d i
  · rw [if_pos h]; exact ⟨_, _, _, _, _, _, _, rfl⟩
  · rw [if_neg h]; exact ⟨_, _, _, _, _, _, _, rfl⟩

set_option maxHeartbeats 16000000 in
theorem case_ok (n0 : Bool) (t0 o0 r0 d0 i0 : Int) (w0 : I64 t0 ∧ I64 o0 ∧ I64 r0 ∧ I64 d0 ∧ I64 i0) (n1 : Bool) (t1 o1 r1 d1 i1 : Int) (w1 : I64 t1 ∧ I64 o1 ∧ I64 r1 ∧ I64 d1 ∧ I64 i1) (t2 o2 r2 : Int) (w2 : I64 t2 ∧ I64 o2 ∧ I64 r2) (a3 : Int) (w3 : I64 a3) (a4 : Int) (w4 : I64 a4) (w : World) (hc : chk n0 t0 o0 r0 d0 i0 = 0) (hd : decide (HtOk n0 t0 o0 r0 d0 i0) = true) (m : Bool) (x1 x2 x3 x4 x5 e0 : Int) (hat : atV t2 o2 r2 a3 a4 = .tuple #[.agg #[.bool m, .int .i64 x1, .int .i64 x2, .int .i64 x3, .int .i64 x4, .int .i64 x5], .int .i64 e0]) :
    Calls Try.prog 3 #[.agg #[.bool n0, .int .i64 t0, .int .i64 o0, .int .i64 r0, .int .i64 d0, .int .i64 i0], .agg #[.bool n1, .int .i64 t1, .int .i64 o1, .int .i64 r1, .int .i64 d1, .int .i64 i1], .agg #[.int .i64 t2, .int .i64 o2, .int .i64 r2], .int .i64 a3, .int .i64 a4] w fun e w' => e = .returned (.bool true) ∧ Below w.heap.size w w' := by
  have cA1 : ∀ w, Calls Try.prog 8 #[.agg #[.int .i64 t2, .int .i64 o2, .int .i64 r2], .int .i64 a3, .int .i64 a4] w fun e w' => e = .returned (.tuple #[.agg #[.bool m, .int .i64 x1, .int .i64 x2, .int .i64 x3, .int .i64 x4, .int .i64 x5], .int .i64 e0]) ∧ Below w.heap.size w w' := fun w => by rw [← hat]; exact at_any _ _ _ _ _ w
  have cA2 : ∀ w, Calls Try.prog 9 #[.agg #[.int .i64 t2, .int .i64 o2, .int .i64 r2], .int .i64 a3, .int .i64 a4] w fun e w' => e = .returned (.tuple #[.agg #[.bool m, .int .i64 x1, .int .i64 x2, .int .i64 x3, .int .i64 x4, .int .i64 x5], .int .i64 e0]) ∧ Below w.heap.size w w' := fun w => by rw [← hat]; exact rat_any _ _ _ _ _ w
  have cC : ∀ w, Calls Try.prog 12 #[.agg #[.bool n0, .int .i64 t0, .int .i64 o0, .int .i64 r0, .int .i64 d0, .int .i64 i0]] w fun e w' => e = .returned (.int .i64 0) ∧ Below w.heap.size w w' := fun w => by rw [← hc]; exact check_any n0 t0 o0 r0 d0 i0 w
  have cR : ∀ w, Calls Try.prog 13 #[.agg #[.bool n0, .int .i64 t0, .int .i64 o0, .int .i64 r0, .int .i64 d0, .int .i64 i0]] w fun e w' => e = .returned (.bool true) ∧ Below w.heap.size w w' := fun w => by rw [← hd]; exact rright_any n0 t0 o0 r0 d0 i0 w
  clear hc hd hat
  go_enter Try.func3, Try.ntmps3
  go_wp2_with fail
  have KA := Lib.hid (((cells6_alloc w n0 t0 o0 r0 d0 i0 23).below ((Below.refl _ _).alloc (Nat.le_refl _) (.cells #[.bool n1, .int .i64 t1, .int .i64 o1, .int .i64 r1, .int .i64 d1, .int .i64 i1] 23))).below ((Below.refl _ _).alloc (Nat.le_refl _) (.cells #[.int .i64 t2, .int .i64 o2, .int .i64 r2] 25)))
  have KB := Lib.hid (((own6_alloc (w.alloc (.cells #[.bool n0, .int .i64 t0, .int .i64 o0, .int .i64 r0, .int .i64 d0, .int .i64 i0] 23)) n1 t1 o1 r1 d1 i1 23 (w.heap.size + 1) (by simp)).below ((Below.refl _ _).alloc (Nat.le_refl _) (.cells #[.int .i64 t2, .int .i64 o2, .int .i64 r2] 25))).1)
  have KL := Lib.hid ((own3_alloc ((w.alloc (.cells #[.bool n0, .int .i64 t0, .int .i64 o0, .int .i64 r0, .int .i64 d0, .int .i64 i0] 23)).alloc (.cells #[.bool n1, .int .i64 t1, .int .i64 o1, .int .i64 r1, .int .i64 d1, .int .i64 i1] 23)) t2 o2 r2 25 (w.heap.size + 1 + 1) (by simp)).1)
  have HB : Hid (Below w.heap.size w (((w.alloc (.cells #[.bool n0, .int .i64 t0, .int .i64 o0, .int .i64 r0, .int .i64 d0, .int .i64 i0] 23)).alloc (.cells #[.bool n1, .int .i64 t1, .int .i64 o1, .int .i64 r1, .int .i64 d1, .int .i64 i1] 23)).alloc (.cells #[.int .i64 t2, .int .i64 o2, .int .i64 r2] 25))) := (((Below.refl _ w).alloc (Nat.le_refl _) _).alloc (by simp) _).alloc (by simp; omega) _
  generalize (((w.alloc (.cells #[.bool n0, .int .i64 t0, .int .i64 o0, .int .i64 r0, .int .i64 d0, .int .i64 i0] 23)).alloc (.cells #[.bool n1, .int .i64 t1, .int .i64 o1, .int .i64 r1, .int .i64 d1, .int .i64 i1] 23)).alloc (.cells #[.int .i64 t2, .int .i64 o2, .int .i64 r2] 25)) = V0 at *
  obtain ⟨p0, p1, p2, p3, p4, p5⟩ := KA.out; obtain ⟨b0, b1, b2, b3, b4, b5⟩ := KB.out; obtain ⟨l0, l1, l2⟩ := KL.out
  go_wp2_with (first
    | (go_at_call 8; refine (cA1 _).mono ?_; rintro e V1 ⟨rfl, hb⟩; replace KA := Lib.hid (KA.out.below hb); replace KB := Lib.hid (KB.out.below hb); replace KL := Lib.hid (KL.out.below hb); replace HB := Lib.hid (HB.out.trans (hb.mono HB.out.size)); clear hb; clear p0 p1 p2 p3 p4 p5 b0 b1 b2 b3 b4 b5 l0 l1 l2; obtain ⟨p0, p1, p2, p3, p4, p5⟩ := KA.out; obtain ⟨b0, b1, b2, b3, b4, b5⟩ := KB.out; obtain ⟨l0, l1, l2⟩ := KL.out; obtain ⟨L0, L1, L2⟩ := KL.out.allocs)
    | (go_at_call 9; refine (cA2 _).mono ?_; rintro e V2 ⟨rfl, hb⟩; have KX := Lib.hid ((own6_alloc V1 m x1 x2 x3 x4 x5 23 V1.heap.size rfl).below hb).1; replace hb := (((Below.refl _ _).alloc (Nat.le_refl _) _) : Below V1.heap.size V1 (V1.alloc (.cells #[.bool m, .int .i64 x1, .int .i64 x2, .int .i64 x3, .int .i64 x4, .int .i64 x5] 23))).trans (hb.mono (by simp)); replace KA := Lib.hid (KA.out.below hb); replace KB := Lib.hid (KB.out.below hb); replace KL := Lib.hid (KL.out.below hb); replace HB := Lib.hid (HB.out.trans (hb.mono HB.out.size)); clear hb; clear p0 p1 p2 p3 p4 p5 b0 b1 b2 b3 b4 b5 l0 l1 l2; obtain ⟨p0, p1, p2, p3, p4, p5⟩ := KA.out; obtain ⟨b0, b1, b2, b3, b4, b5⟩ := KB.out; obtain ⟨l0, l1, l2⟩ := KL.out; clear L0 L1 L2; obtain ⟨P0, P1, P2, P3, P4, P5⟩ := KA.out.allocs)
    | (go_at_call 10; refine (bytes_any _ _ _ _ _ _ _).mono ?_; rintro e V3 ⟨s3, rfl, hr, hb⟩; have KY := Lib.hid ((own6_alloc V2 m x1 x2 x3 x4 x5 23 V2.heap.size rfl).below hb).1; have R1 : Hid (Bs V3 s3 (htBs n0 t0 o0 r0 d0 i0)) := hr; replace hb := (((Below.refl _ _).alloc (Nat.le_refl _) _) : Below V2.heap.size V2 (V2.alloc (.cells #[.bool m, .int .i64 x1, .int .i64 x2, .int .i64 x3, .int .i64 x4, .int .i64 x5] 23))).trans (hb.mono (by simp)); clear hr P0 P1 P2 P3 P4 P5; replace KA := Lib.hid (KA.out.below hb); replace KB := Lib.hid (KB.out.below hb); replace KL := Lib.hid (KL.out.below hb); replace KX := Lib.hid (KX.out.below hb); replace HB := Lib.hid (HB.out.trans (hb.mono HB.out.size)); clear hb; clear p0 p1 p2 p3 p4 p5 b0 b1 b2 b3 b4 b5 l0 l1 l2; obtain ⟨p0, p1, p2, p3, p4, p5⟩ := KA.out; obtain ⟨b0, b1, b2, b3, b4, b5⟩ := KB.out; obtain ⟨l0, l1, l2⟩ := KL.out)
    | (go_at_call 11; refine (rbytes_any _ _ _ _ _ _ _ w0.1.1 w0.1.2 w0.2.2.2.1.1 w0.2.2.2.1.2).mono ?_; rintro e V4 ⟨s4, rfl, hr, hb⟩; have R2 : Hid (Bs V4 s4 (htBs n0 t0 o0 r0 d0 i0)) := hr; clear hr; replace KA := Lib.hid (KA.out.below hb); replace KB := Lib.hid (KB.out.below hb); replace KL := Lib.hid (KL.out.below hb); replace KX := Lib.hid (KX.out.below hb); replace KY := Lib.hid (KY.out.below hb); replace R1 := Lib.hid (Bs_below R1.out hb); replace HB := Lib.hid (HB.out.trans (hb.mono HB.out.size)); clear hb; clear p0 p1 p2 p3 p4 p5 b0 b1 b2 b3 b4 b5 l0 l1 l2; obtain ⟨p0, p1, p2, p3, p4, p5⟩ := KA.out; obtain ⟨b0, b1, b2, b3, b4, b5⟩ := KB.out; obtain ⟨l0, l1, l2⟩ := KL.out))
  have kc : ∀ w', Below V4.heap.size V4 w' → Cells6 w' w.heap.size n0 t0 o0 r0 d0 i0 ∧ Cells6 w' (w.heap.size + 1) n1 t1 o1 r1 d1 i1 ∧ Cells3 w' (w.heap.size + 1 + 1) t2 o2 r2 := fun w' h => ⟨KA.out.below h, KB.out.below h, KL.out.below h⟩
  unfold Cells6 Cells3 at kc
  have hEL : ∀ x y z, eqL x y z x y z = true := fun x y z => eqL_iff.2 ⟨rfl, rfl, rfl⟩
  refine wp_region_typed (C := fun w' => Below V4.heap.size V4 w') (X := fun w w' => Below w.heap.size w w') (n := 117) (by kernel_rfl) (by kernel_rfl) rfl (fun w => Below.refl _ w) (Below.refl _ _).drew ?_
  refine w_is (fun w => Below.refl _ w) _ (.inl rfl) (fun ρ w hC hc hfn hf => by have e5 : ρ (.tmp 5) = _ := hf 5 (by decide); (conv => lhs; simp [execOp, go_sem, hc, e5, kc w hC])) ?_
  refine w_call (Is _) (fun _ _ _ h _ => h) 12 (.inl rfl) (fun ρ w hC hc hfn hf => by have e44 : ρ (.tmp 44) = _ := hf 44 (by decide); exact ⟨_, by (conv => lhs; simp [execOp, resolve, invoke, go_sem, hc, hfn, e44]), (tc_below hC (cC w))⟩) ?_
  refine w_is (fun w => Below.refl _ w) _ (.inl rfl) (fun ρ w hC hc hfn hf => by have e45 : ρ (.tmp 45) = _ := hf 45 (by decide); (conv => lhs; simp [execOp, go_sem, hc, e45])) ?_
  refine w_is (fun w => Below.refl _ w) _ (.inl rfl) (fun ρ w hC hc hfn hf => by have e5 : ρ (.tmp 5) = _ := hf 5 (by decide); (conv => lhs; simp [execOp, go_sem, hc, e5, kc w hC])) ?_
  refine w_call (Is _) (fun _ _ _ h _ => h) 13 (.inl rfl) (fun ρ w hC hc hfn hf => by have e47 : ρ (.tmp 47) = _ := hf 47 (by decide); exact ⟨_, by (conv => lhs; simp [execOp, resolve, invoke, go_sem, hc, hfn, e47]), (tc_below hC (cR w))⟩) ?_
  refine w_is (fun w => Below.refl _ w) _ (.inl rfl) (fun ρ w hC hc hfn hf => by have e46 : ρ (.tmp 46) = _ := hf 46 (by decide); have e48 : ρ (.tmp 48) = _ := hf 48 (by decide); (conv => lhs; simp [execOp, go_sem, hc, e46, e48])) ?_
  refine w_is (fun w => Below.refl _ w) _ (.inl rfl) (fun ρ w hC hc hfn hf => by have e49 : ρ (.tmp 49) = _ := hf 49 (by decide); (conv => lhs; simp [execOp, go_sem, hc, e49])) ?_
  refine w_is (fun w => Below.refl _ w) _ (.inr ⟨6, 50, true, rfl, rfl, known_is rfl⟩) (fun ρ w hC hc hfn hf => by have e5 : ρ (.tmp 5) = _ := hf 5 (by decide); (conv => lhs; simp [execOp, go_sem, hc, e5, kc w hC])) ?_
  refine w_is (fun w => Below.refl _ w) _ (.inr ⟨6, 50, true, rfl, rfl, known_is rfl⟩) (fun ρ w hC hc hfn hf => by have e6 : ρ (.tmp 6) = _ := hf 6 (by decide); (conv => lhs; simp [execOp, go_sem, hc, e6, kc w hC])) ?_
  refine w_call (Is _) (fun _ _ _ h _ => h) 14 (.inr ⟨6, 50, true, rfl, rfl, known_is rfl⟩) (fun ρ w hC hc hfn hf => by have e51 : ρ (.tmp 51) = _ := hf 51 (by decide); have e52 : ρ (.tmp 52) = _ := hf 52 (by decide); exact ⟨_, by (conv => lhs; simp [execOp, resolve, invoke, go_sem, hc, hfn, e51, e52]), (tc_below hC (less_any n0 t0 o0 r0 d0 i0 n1 t1 o1 r1 d1 i1 w))⟩) ?_
  refine w_is (fun w => Below.refl _ w) _ (.inr ⟨6, 50, true, rfl, rfl, known_is rfl⟩) (fun ρ w hC hc hfn hf => by have e5 : ρ (.tmp 5) = _ := hf 5 (by decide); (conv => lhs; simp [execOp, go_sem, hc, e5, kc w hC])) ?_
  refine w_is (fun w => Below.refl _ w) _ (.inr ⟨6, 50, true, rfl, rfl, known_is rfl⟩) (fun ρ w hC hc hfn hf => by have e6 : ρ (.tmp 6) = _ := hf 6 (by decide); (conv => lhs; simp [execOp, go_sem, hc, e6, kc w hC])) ?_
  refine w_call (Is _) (fun _ _ _ h _ => h) 15 (.inr ⟨6, 50, true, rfl, rfl, known_is rfl⟩) (fun ρ w hC hc hfn hf => by have e54 : ρ (.tmp 54) = _ := hf 54 (by decide); have e55 : ρ (.tmp 55) = _ := hf 55 (by decide); exact ⟨_, by (conv => lhs; simp [execOp, resolve, invoke, go_sem, hc, hfn, e54, e55]), (tc_below hC (rless_any n0 t0 o0 r0 d0 i0 n1 t1 o1 r1 d1 i1 w))⟩) ?_
  refine w_is (fun w => Below.refl _ w) _ (.inr ⟨6, 50, true, rfl, rfl, known_is rfl⟩) (fun ρ w hC hc hfn hf => by have e53 : ρ (.tmp 53) = _ := hf 53 (by decide); have e56 : ρ (.tmp 56) = _ := hf 56 (by decide); (conv => lhs; simp [execOp, go_sem, hc, e53, e56])) ?_
  refine w_is (fun w => Below.refl _ w) _ (.inl rfl) (fun ρ w hC hc hfn hf => by have e50 : ρ (.tmp 50) = _ := hf 50 (by decide); have e57 : ρ (.tmp 57) = _ := hf 57 (by decide); (conv => lhs; simp [execOp, go_sem, hc, e50, e57])) ?_
  refine w_is (fun w => Below.refl _ w) _ (.inl rfl) (fun ρ w hC hc hfn hf => by have e58 : ρ (.tmp 58) = _ := hf 58 (by decide); (conv => lhs; simp [execOp, go_sem, hc, e58])) ?_
  refine w_is (fun w => Below.refl _ w) _ (.inr ⟨15, 59, true, rfl, rfl, known_is rfl⟩) (fun ρ w hC hc hfn hf => by have e5 : ρ (.tmp 5) = _ := hf 5 (by decide); (conv => lhs; simp [execOp, go_sem, hc, e5, kc w hC])) ?_
  refine w_call (Is _) (fun _ _ _ h _ => h) 16 (.inr ⟨15, 59, true, rfl, rfl, known_is rfl⟩) (fun ρ w hC hc hfn hf => by have e60 : ρ (.tmp 60) = _ := hf 60 (by decide); exact ⟨_, by (conv => lhs; simp [execOp, resolve, invoke, go_sem, hc, hfn, e60]), (tc_below hC (lev_any n0 t0 o0 r0 d0 i0 w))⟩) ?_
  refine w_is (fun w => Below.refl _ w) _ (.inr ⟨15, 59, true, rfl, rfl, known_is rfl⟩) (fun ρ w hC hc hfn hf => by have e5 : ρ (.tmp 5) = _ := hf 5 (by decide); (conv => lhs; simp [execOp, go_sem, hc, e5, kc w hC])) ?_
  refine w_call (Is _) (fun _ _ _ h _ => h) 17 (.inr ⟨15, 59, true, rfl, rfl, known_is rfl⟩) (fun ρ w hC hc hfn hf => by have e62 : ρ (.tmp 62) = _ := hf 62 (by decide); exact ⟨_, by (conv => lhs; simp [execOp, resolve, invoke, go_sem, hc, hfn, e62]), (tc_below hC (rlev_any n0 t0 o0 r0 d0 i0 w))⟩) ?_
  refine w_is (fun w => Below.refl _ w) _ (.inr ⟨15, 59, true, rfl, rfl, known_is rfl⟩) (fun ρ w hC hc hfn hf => by have e61 : ρ (.tmp 61) = _ := hf 61 (by decide); have e63 : ρ (.tmp 63) = _ := hf 63 (by decide); (conv => lhs; simp [execOp, go_sem, hc, e61, e63, eql25, guard25, hEL])) ?_
  refine w_is (fun w => Below.refl _ w) _ (.inl rfl) (fun ρ w hC hc hfn hf => by have e59 : ρ (.tmp 59) = _ := hf 59 (by decide); have e64 : ρ (.tmp 64) = _ := hf 64 (by decide); (conv => lhs; simp [execOp, go_sem, hc, e59, e64])) ?_
  refine w_is (fun w => Below.refl _ w) _ (.inl rfl) (fun ρ w hC hc hfn hf => by have e65 : ρ (.tmp 65) = _ := hf 65 (by decide); (conv => lhs; simp [execOp, go_sem, hc, e65])) ?_
  refine w_is (fun w => Below.refl _ w) _ (.inr ⟨22, 66, true, rfl, rfl, known_is rfl⟩) (fun ρ w hC hc hfn hf => by have e7 : ρ (.tmp 7) = _ := hf 7 (by decide); (conv => lhs; simp [execOp, go_sem, hc, e7, kc w hC])) ?_
  refine w_is (fun w => Below.refl _ w) _ (.inr ⟨22, 66, true, rfl, rfl, known_is rfl⟩) (fun ρ w hC hc hfn hf => by have e6 : ρ (.tmp 6) = _ := hf 6 (by decide); (conv => lhs; simp [execOp, go_sem, hc, e6, kc w hC])) ?_
  refine w_call (Is _) (fun _ _ _ h _ => h) 16 (.inr ⟨22, 66, true, rfl, rfl, known_is rfl⟩) (fun ρ w hC hc hfn hf => by have e68 : ρ (.tmp 68) = _ := hf 68 (by decide); exact ⟨_, by (conv => lhs; simp [execOp, resolve, invoke, go_sem, hc, hfn, e68]), (tc_below hC (lev_any n1 t1 o1 r1 d1 i1 w))⟩) ?_
  refine w_call (Is _) (fun _ _ _ h _ => h) 18 (.inr ⟨22, 66, true, rfl, rfl, known_is rfl⟩) (fun ρ w hC hc hfn hf => by have e67 : ρ (.tmp 67) = _ := hf 67 (by decide); have e69 : ρ (.tmp 69) = _ := hf 69 (by decide); exact ⟨_, by (conv => lhs; simp [execOp, resolve, invoke, go_sem, hc, hfn, e67, e69]), (tc_below hC (order_any _ _ _ _ _ _ w))⟩) ?_
  refine w_is (fun w => Below.refl _ w) _ (.inr ⟨22, 66, true, rfl, rfl, known_is rfl⟩) (fun ρ w hC hc hfn hf => by have e7 : ρ (.tmp 7) = _ := hf 7 (by decide); (conv => lhs; simp [execOp, go_sem, hc, e7, kc w hC])) ?_
  refine w_is (fun w => Below.refl _ w) _ (.inr ⟨22, 66, true, rfl, rfl, known_is rfl⟩) (fun ρ w hC hc hfn hf => by have e6 : ρ (.tmp 6) = _ := hf 6 (by decide); (conv => lhs; simp [execOp, go_sem, hc, e6, kc w hC])) ?_
  refine w_call (Is _) (fun _ _ _ h _ => h) 17 (.inr ⟨22, 66, true, rfl, rfl, known_is rfl⟩) (fun ρ w hC hc hfn hf => by have e72 : ρ (.tmp 72) = _ := hf 72 (by decide); exact ⟨_, by (conv => lhs; simp [execOp, resolve, invoke, go_sem, hc, hfn, e72]), (tc_below hC (rlev_any n1 t1 o1 r1 d1 i1 w))⟩) ?_
  refine w_call (Is _) (fun _ _ _ h _ => h) 19 (.inr ⟨22, 66, true, rfl, rfl, known_is rfl⟩) (fun ρ w hC hc hfn hf => by have e71 : ρ (.tmp 71) = _ := hf 71 (by decide); have e73 : ρ (.tmp 73) = _ := hf 73 (by decide); exact ⟨_, by (conv => lhs; simp [execOp, resolve, invoke, go_sem, hc, hfn, e71, e73]), (tc_below hC (rorder_any _ _ _ _ _ _ w))⟩) ?_
  refine w_is (fun w => Below.refl _ w) _ (.inr ⟨22, 66, true, rfl, rfl, known_is rfl⟩) (fun ρ w hC hc hfn hf => by have e70 : ρ (.tmp 70) = _ := hf 70 (by decide); have e74 : ρ (.tmp 74) = _ := hf 74 (by decide); (conv => lhs; simp [execOp, go_sem, hc, e70, e74])) ?_
  refine w_is (fun w => Below.refl _ w) _ (.inl rfl) (fun ρ w hC hc hfn hf => by have e66 : ρ (.tmp 66) = _ := hf 66 (by decide); have e75 : ρ (.tmp 75) = _ := hf 75 (by decide); (conv => lhs; simp [execOp, go_sem, hc, e66, e75])) ?_
  refine w_is (fun w => Below.refl _ w) _ (.inl rfl) (fun ρ w hC hc hfn hf => by have e76 : ρ (.tmp 76) = _ := hf 76 (by decide); (conv => lhs; simp [execOp, go_sem, hc, e76])) ?_
  intro A V5 hC hn hd hf
  have y0 : A.eval (.tmp 0) = _ := Eq.trans (hf 0) (by conv => lhs; simp [go_sem])
  have y1 : A.eval (.tmp 1) = _ := Eq.trans (hf 1) (by conv => lhs; simp [go_sem])
  have y2 : A.eval (.tmp 2) = _ := Eq.trans (hf 2) (by conv => lhs; simp [go_sem])
  have y3 : A.eval (.tmp 3) = _ := Eq.trans (hf 3) (by conv => lhs; simp [go_sem])
  have y4 : A.eval (.tmp 4) = _ := Eq.trans (hf 4) (by conv => lhs; simp [go_sem])
  have y5 : A.eval (.tmp 5) = _ := Eq.trans (hf 5) (by conv => lhs; simp [go_sem])
  have y6 : A.eval (.tmp 6) = _ := Eq.trans (hf 6) (by conv => lhs; simp [go_sem])
  have y7 : A.eval (.tmp 7) = _ := Eq.trans (hf 7) (by conv => lhs; simp [go_sem])
  have y8 : A.eval (.tmp 8) = _ := Eq.trans (hf 8) (by conv => lhs; simp [go_sem])
  have y9 : A.eval (.tmp 9) = _ := Eq.trans (hf 9) (by conv => lhs; simp [go_sem])
  have y10 : A.eval (.tmp 10) = _ := Eq.trans (hf 10) (by conv => lhs; simp [go_sem])
  have y11 : A.eval (.tmp 11) = _ := Eq.trans (hf 11) (by conv => lhs; simp [go_sem])
  have y12 : A.eval (.tmp 12) = _ := Eq.trans (hf 12) (by conv => lhs; simp [go_sem])
  have y13 : A.eval (.tmp 13) = _ := Eq.trans (hf 13) (by conv => lhs; simp [go_sem])
  have y14 : A.eval (.tmp 14) = _ := Eq.trans (hf 14) (by conv => lhs; simp [go_sem])
  have y15 : A.eval (.tmp 15) = _ := Eq.trans (hf 15) (by conv => lhs; simp [go_sem])
  have y16 : A.eval (.tmp 16) = _ := Eq.trans (hf 16) (by conv => lhs; simp [go_sem])
  have y17 : A.eval (.tmp 17) = _ := Eq.trans (hf 17) (by conv => lhs; simp [go_sem])
  have y18 : A.eval (.tmp 18) = _ := Eq.trans (hf 18) (by conv => lhs; simp [go_sem])
  have y19 : A.eval (.tmp 19) = _ := hf 19
  have y20 : A.eval (.tmp 20) = _ := Eq.trans (hf 20) (by conv => lhs; simp [go_sem])
  have y21 : A.eval (.tmp 21) = _ := Eq.trans (hf 21) (by conv => lhs; simp [go_sem])
  have y22 : A.eval (.tmp 22) = _ := Eq.trans (hf 22) (by conv => lhs; simp [go_sem])
  have y23 : A.eval (.tmp 23) = _ := Eq.trans (hf 23) (by conv => lhs; simp [go_sem])
  have y24 : A.eval (.tmp 24) = _ := Eq.trans (hf 24) (by conv => lhs; simp [go_sem])
  have y25 : A.eval (.tmp 25) = _ := Eq.trans (hf 25) (by conv => lhs; simp [go_sem])
  have y26 : A.eval (.tmp 26) = _ := Eq.trans (hf 26) (by conv => lhs; simp [go_sem])
  have y27 : A.eval (.tmp 27) = _ := Eq.trans (hf 27) (by conv => lhs; simp [go_sem])
  have y28 : A.eval (.tmp 28) = _ := Eq.trans (hf 28) (by conv => lhs; simp [go_sem])
  have y29 : A.eval (.tmp 29) = _ := Eq.trans (hf 29) (by conv => lhs; simp [go_sem])
  have y30 : A.eval (.tmp 30) = _ := Eq.trans (hf 30) (by conv => lhs; simp [go_sem])
  have y31 : A.eval (.tmp 31) = _ := Eq.trans (hf 31) (by conv => lhs; simp [go_sem])
  have y32 : A.eval (.tmp 32) = _ := Eq.trans (hf 32) (by conv => lhs; simp [go_sem])
  have y33 : A.eval (.tmp 33) = _ := Eq.trans (hf 33) (by conv => lhs; simp [go_sem])
  have y34 : A.eval (.tmp 34) = _ := Eq.trans (hf 34) (by conv => lhs; simp [go_sem])
  have y35 : A.eval (.tmp 35) = _ := Eq.trans (hf 35) (by conv => lhs; simp [go_sem])
  have y36 : A.eval (.tmp 36) = _ := Eq.trans (hf 36) (by conv => lhs; simp [go_sem])
  have y37 : A.eval (.tmp 37) = _ := Eq.trans (hf 37) (by conv => lhs; simp [go_sem])
  have y38 : A.eval (.tmp 38) = _ := Eq.trans (hf 38) (by conv => lhs; simp [go_sem])
  have y39 : A.eval (.tmp 39) = _ := Eq.trans (hf 39) (by conv => lhs; simp [go_sem])
  have y40 : A.eval (.tmp 40) = _ := Eq.trans (hf 40) (by conv => lhs; simp [go_sem])
  have y41 : A.eval (.tmp 41) = _ := Eq.trans (hf 41) (by conv => lhs; simp [go_sem])
  have y42 : A.eval (.tmp 42) = _ := Eq.trans (hf 42) (by conv => lhs; simp [go_sem])
  have y43 : A.eval (.tmp 43) = _ := Eq.trans (hf 43) (by conv => lhs; simp [go_sem])
  have y44 : A.eval (.tmp 44) = _ := hf 44
  have y45 : A.eval (.tmp 45) = _ := hf 45
  have y46 : A.eval (.tmp 46) = _ := hf 46
  have y47 : A.eval (.tmp 47) = _ := hf 47
  have y48 : A.eval (.tmp 48) = _ := hf 48
  have y49 : A.eval (.tmp 49) = _ := hf 49
  have y50 : A.eval (.tmp 50) = _ := hf 50
  have y51 : A.eval (.tmp 51) = _ := hf 51
  have y52 : A.eval (.tmp 52) = _ := hf 52
  have y53 : A.eval (.tmp 53) = _ := hf 53
  have y54 : A.eval (.tmp 54) = _ := hf 54
  have y55 : A.eval (.tmp 55) = _ := hf 55
  have y56 : A.eval (.tmp 56) = _ := hf 56
  have y57 : A.eval (.tmp 57) = _ := hf 57
  have y58 : A.eval (.tmp 58) = _ := hf 58
  have y59 : A.eval (.tmp 59) = _ := hf 59
  have y60 : A.eval (.tmp 60) = _ := hf 60
  have y61 : A.eval (.tmp 61) = _ := hf 61
  have y62 : A.eval (.tmp 62) = _ := hf 62
  have y63 : A.eval (.tmp 63) = _ := hf 63
  have y64 : A.eval (.tmp 64) = _ := hf 64
  have y65 : A.eval (.tmp 65) = _ := hf 65
  have y66 : A.eval (.tmp 66) = _ := hf 66
  have y67 : A.eval (.tmp 67) = _ := hf 67
  have y68 : A.eval (.tmp 68) = _ := hf 68
  have y69 : A.eval (.tmp 69) = _ := hf 69
  have y70 : A.eval (.tmp 70) = _ := hf 70
  have y71 : A.eval (.tmp 71) = _ := hf 71
  have y72 : A.eval (.tmp 72) = _ := hf 72
  have y73 : A.eval (.tmp 73) = _ := hf 73
  have y74 : A.eval (.tmp 74) = _ := hf 74
  have y75 : A.eval (.tmp 75) = _ := hf 75
  have y76 : A.eval (.tmp 76) = _ := hf 76
  have y77 : A.eval (.tmp 77) = _ := Eq.trans (hf 77) (by conv => lhs; simp [go_sem])
  have y78 : A.eval (.tmp 78) = _ := Eq.trans (hf 78) (by conv => lhs; simp [go_sem])
  have y79 : A.eval (.tmp 79) = _ := Eq.trans (hf 79) (by conv => lhs; simp [go_sem])
  have y80 : A.eval (.tmp 80) = _ := Eq.trans (hf 80) (by conv => lhs; simp [go_sem])
  have y81 : A.eval (.tmp 81) = _ := Eq.trans (hf 81) (by conv => lhs; simp [go_sem])
  have y82 : A.eval (.tmp 82) = _ := Eq.trans (hf 82) (by conv => lhs; simp [go_sem])
  have y83 : A.eval (.tmp 83) = _ := Eq.trans (hf 83) (by conv => lhs; simp [go_sem])
  have y84 : A.eval (.tmp 84) = _ := Eq.trans (hf 84) (by conv => lhs; simp [go_sem])
  have y85 : A.eval (.tmp 85) = _ := Eq.trans (hf 85) (by conv => lhs; simp [go_sem])
  have y86 : A.eval (.tmp 86) = _ := Eq.trans (hf 86) (by conv => lhs; simp [go_sem])
  have y87 : A.eval (.tmp 87) = _ := Eq.trans (hf 87) (by conv => lhs; simp [go_sem])
  have y88 : A.eval (.tmp 88) = _ := Eq.trans (hf 88) (by conv => lhs; simp [go_sem])
  have y89 : A.eval (.tmp 89) = _ := Eq.trans (hf 89) (by conv => lhs; simp [go_sem])
  have y90 : A.eval (.tmp 90) = _ := Eq.trans (hf 90) (by conv => lhs; simp [go_sem])
  have y91 : A.eval (.tmp 91) = _ := Eq.trans (hf 91) (by conv => lhs; simp [go_sem])
  have y92 : A.eval (.tmp 92) = _ := Eq.trans (hf 92) (by conv => lhs; simp [go_sem])
  have y93 : A.eval (.tmp 93) = _ := Eq.trans (hf 93) (by conv => lhs; simp [go_sem])
  have y94 : A.eval (.tmp 94) = _ := Eq.trans (hf 94) (by conv => lhs; simp [go_sem])
  have y95 : A.eval (.tmp 95) = _ := Eq.trans (hf 95) (by conv => lhs; simp [go_sem])
  have y96 : A.eval (.tmp 96) = _ := Eq.trans (hf 96) (by conv => lhs; simp [go_sem])
  have y97 : A.eval (.tmp 97) = _ := Eq.trans (hf 97) (by conv => lhs; simp [go_sem])
  have y98 : A.eval (.tmp 98) = _ := Eq.trans (hf 98) (by conv => lhs; simp [go_sem])
  have y99 : A.eval (.tmp 99) = _ := Eq.trans (hf 99) (by conv => lhs; simp [go_sem])
  have y100 : A.eval (.tmp 100) = _ := Eq.trans (hf 100) (by conv => lhs; simp [go_sem])
  have y101 : A.eval (.tmp 101) = _ := Eq.trans (hf 101) (by conv => lhs; simp [go_sem])
  have y102 : A.eval (.tmp 102) = _ := Eq.trans (hf 102) (by conv => lhs; simp [go_sem])
  have y103 : A.eval (.tmp 103) = _ := Eq.trans (hf 103) (by conv => lhs; simp [go_sem])
  have y104 : A.eval (.tmp 104) = _ := Eq.trans (hf 104) (by conv => lhs; simp [go_sem])
  have y105 : A.eval (.tmp 105) = _ := Eq.trans (hf 105) (by conv => lhs; simp [go_sem])
  have y106 : A.eval (.tmp 106) = _ := Eq.trans (hf 106) (by conv => lhs; simp [go_sem])
  have y107 : A.eval (.tmp 107) = _ := Eq.trans (hf 107) (by conv => lhs; simp [go_sem])
  have y108 : A.eval (.tmp 108) = _ := Eq.trans (hf 108) (by conv => lhs; simp [go_sem])
  have y109 : A.eval (.tmp 109) = _ := Eq.trans (hf 109) (by conv => lhs; simp [go_sem])
  have y110 : A.eval (.tmp 110) = _ := Eq.trans (hf 110) (by conv => lhs; simp [go_sem])
  have y111 : A.eval (.tmp 111) = _ := Eq.trans (hf 111) (by conv => lhs; simp [go_sem])
  have y112 : A.eval (.tmp 112) = _ := Eq.trans (hf 112) (by conv => lhs; simp [go_sem])
  have y113 : A.eval (.tmp 113) = _ := Eq.trans (hf 113) (by conv => lhs; simp [go_sem])
  have y114 : A.eval (.tmp 114) = _ := Eq.trans (hf 114) (by conv => lhs; simp [go_sem])
  have y115 : A.eval (.tmp 115) = _ := Eq.trans (hf 115) (by conv => lhs; simp [go_sem])
  have y116 : A.eval (.tmp 116) = _ := Eq.trans (hf 116) (by conv => lhs; simp [go_sem])
  clear hf
  have hA := frame_eq hn
  rw [show List.range 117 = [0, 1, 2, 3, 4, 5, 6, 7, 8, 9, 10, 11, 12, 13, 14, 15, 16, 17, 18, 19, 20, 21, 22, 23, 24, 25, 26, 27, 28, 29, 30, 31, 32, 33, 34, 35, 36, 37, 38, 39, 40, 41, 42, 43, 44, 45, 46, 47, 48, 49, 50, 51, 52, 53, 54, 55, 56, 57, 58, 59, 60, 61, 62, 63, 64, 65, 66, 67, 68, 69, 70, 71, 72, 73, 74, 75, 76, 77, 78, 79, 80, 81, 82, 83, 84, 85, 86, 87, 88, 89, 90, 91, 92, 93, 94, 95, 96, 97, 98, 99, 100, 101, 102, 103, 104, 105, 106, 107, 108, 109, 110, 111, 112, 113, 114, 115, 116] from rfl, hd] at hA
  simp only [List.map_cons, List.map_nil, y0, y1, y2, y3, y4, y5, y6, y7, y8, y9, y10, y11, y12, y13, y14, y15, y16, y17, y18, y19, y20, y21, y22, y23, y24, y25, y26, y27, y28, y29, y30, y31, y32, y33, y34, y35, y36, y37, y38, y39, y40, y41, y42, y43, y44, y45, y46, y47, y48, y49, y50, y51, y52, y53, y54, y55, y56, y57, y58, y59, y60, y61, y62, y63, y64, y65, y66, y67, y68, y69, y70, y71, y72, y73, y74, y75, y76, y77, y78, y79, y80, y81, y82, y83, y84, y85, y86, y87, y88, y89, y90, y91, y92, y93, y94, y95, y96, y97, y98, y99, y100, y101, y102, y103, y104, y105, y106, y107, y108, y109, y110, y111, y112, y113, y114, y115, y116] at hA
  clear y0 y1 y2 y3 y4 y5 y6 y7 y8 y9 y10 y11 y12 y13 y14 y15 y16 y17 y18 y19 y20 y21 y22 y23 y24 y25 y26 y27 y28 y29 y30 y31 y32 y33 y34 y35 y36 y37 y38 y39 y40 y41 y42 y43 y44 y45 y46 y47 y48 y49 y50 y51 y52 y53 y54 y55 y56 y57 y58 y59 y60 y61 y62 y63 y64 y65 y66 y67 y68 y69 y70 y71 y72 y73 y74 y75 y76 y77 y78 y79 y80 y81 y82 y83 y84 y85 y86 y87 y88 y89 y90 y91 y92 y93 y94 y95 y96 y97 y98 y99 y100 y101 y102 y103 y104 y105 y106 y107 y108 y109 y110 y111 y112 y113 y114 y115 y116
  clear hn hd
  subst hA
  clear kc cA1 cA2 cC cR
  have E1 := guard23
  have E2 := eql23
  have E3 : ∀ n t o r d i, eqH n t o r d i n t o r d i = true := fun n t o r d i => eqH_iff.2 ⟨rfl, rfl, rfl, rfl, rfl, rfl⟩
  replace KA := Lib.hid (KA.out.below hC); replace KB := Lib.hid (KB.out.below hC); replace KL := Lib.hid (KL.out.below hC); replace KX := Lib.hid (KX.out.below hC); replace KY := Lib.hid (KY.out.below hC); replace R1 := Lib.hid (Bs_below R1.out hC); replace R2 := Lib.hid (Bs_below R2.out hC); replace HB := Lib.hid (HB.out.trans (hC.mono HB.out.size)); clear hC; clear p0 p1 p2 p3 p4 p5 b0 b1 b2 b3 b4 b5 l0 l1 l2; obtain ⟨p0, p1, p2, p3, p4, p5⟩ := KA.out; obtain ⟨b0, b1, b2, b3, b4, b5⟩ := KB.out; obtain ⟨l0, l1, l2⟩ := KL.out
  go_wp2_with (first
    | (go_at_call 20; refine (awake_any _).mono ?_; rintro e V6 ⟨rfl, hb⟩; replace KA := Lib.hid (KA.out.below hb); replace KB := Lib.hid (KB.out.below hb); replace KL := Lib.hid (KL.out.below hb); replace KX := Lib.hid (KX.out.below hb); replace KY := Lib.hid (KY.out.below hb); replace R1 := Lib.hid (Bs_below R1.out hb); replace R2 := Lib.hid (Bs_below R2.out hb); replace HB := Lib.hid (HB.out.trans (hb.mono HB.out.size)); clear hb; clear p0 p1 p2 p3 p4 p5 b0 b1 b2 b3 b4 b5 l0 l1 l2; obtain ⟨p0, p1, p2, p3, p4, p5⟩ := KA.out; obtain ⟨b0, b1, b2, b3, b4, b5⟩ := KB.out; obtain ⟨l0, l1, l2⟩ := KL.out)
    | (go_at_call 21; refine (null_any _ _).mono ?_; rintro e V6 ⟨rfl, hb⟩; replace KA := Lib.hid (KA.out.below hb); replace KB := Lib.hid (KB.out.below hb); replace KL := Lib.hid (KL.out.below hb); replace KX := Lib.hid (KX.out.below hb); replace KY := Lib.hid (KY.out.below hb); replace R1 := Lib.hid (Bs_below R1.out hb); replace R2 := Lib.hid (Bs_below R2.out hb); replace HB := Lib.hid (HB.out.trans (hb.mono HB.out.size)); clear hb; clear p0 p1 p2 p3 p4 p5 b0 b1 b2 b3 b4 b5 l0 l1 l2; obtain ⟨p0, p1, p2, p3, p4, p5⟩ := KA.out; obtain ⟨b0, b1, b2, b3, b4, b5⟩ := KB.out; obtain ⟨l0, l1, l2⟩ := KL.out)
    | (go_at_call 22; refine (rnull_any _ _).mono ?_; rintro e V6 ⟨rfl, hb⟩; replace KA := Lib.hid (KA.out.below hb); replace KB := Lib.hid (KB.out.below hb); replace KL := Lib.hid (KL.out.below hb); replace KX := Lib.hid (KX.out.below hb); replace KY := Lib.hid (KY.out.below hb); replace R1 := Lib.hid (Bs_below R1.out hb); replace R2 := Lib.hid (Bs_below R2.out hb); replace HB := Lib.hid (HB.out.trans (hb.mono HB.out.size)); clear hb; clear p0 p1 p2 p3 p4 p5 b0 b1 b2 b3 b4 b5 l0 l1 l2; obtain ⟨p0, p1, p2, p3, p4, p5⟩ := KA.out; obtain ⟨b0, b1, b2, b3, b4, b5⟩ := KB.out; obtain ⟨l0, l1, l2⟩ := KL.out)
    | (go_at_call 23; refine (zero_any _ _).mono ?_; rintro e V6 ⟨rfl, hb⟩; replace KA := Lib.hid (KA.out.below hb); replace KB := Lib.hid (KB.out.below hb); replace KL := Lib.hid (KL.out.below hb); replace KX := Lib.hid (KX.out.below hb); replace KY := Lib.hid (KY.out.below hb); replace R1 := Lib.hid (Bs_below R1.out hb); replace R2 := Lib.hid (Bs_below R2.out hb); replace HB := Lib.hid (HB.out.trans (hb.mono HB.out.size)); clear hb; clear p0 p1 p2 p3 p4 p5 b0 b1 b2 b3 b4 b5 l0 l1 l2; obtain ⟨p0, p1, p2, p3, p4, p5⟩ := KA.out; obtain ⟨b0, b1, b2, b3, b4, b5⟩ := KB.out; obtain ⟨l0, l1, l2⟩ := KL.out)
    | (go_at_call 24; refine (rzero_any _ _).mono ?_; rintro e V6 ⟨rfl, hb⟩; replace KA := Lib.hid (KA.out.below hb); replace KB := Lib.hid (KB.out.below hb); replace KL := Lib.hid (KL.out.below hb); replace KX := Lib.hid (KX.out.below hb); replace KY := Lib.hid (KY.out.below hb); replace R1 := Lib.hid (Bs_below R1.out hb); replace R2 := Lib.hid (Bs_below R2.out hb); replace HB := Lib.hid (HB.out.trans (hb.mono HB.out.size)); clear hb; clear p0 p1 p2 p3 p4 p5 b0 b1 b2 b3 b4 b5 l0 l1 l2; obtain ⟨p0, p1, p2, p3, p4, p5⟩ := KA.out; obtain ⟨b0, b1, b2, b3, b4, b5⟩ := KB.out; obtain ⟨l0, l1, l2⟩ := KL.out; have hc1 := Bs_conv R1.out; have hc2 := Bs_conv R2.out; obtain ⟨q0, q1, q2, q3, q4, q5⟩ := KX.out; obtain ⟨y0, y1, y2, y3, y4, y5⟩ := KY.out))
  go_ret
  exact ⟨rfl, HB.out⟩

set_option maxHeartbeats 16000000 in
theorem case_no (n0 : Bool) (t0 o0 r0 d0 i0 : Int) (w0 : I64 t0 ∧ I64 o0 ∧ I64 r0 ∧ I64 d0 ∧ I64 i0) (n1 : Bool) (t1 o1 r1 d1 i1 : Int) (w1 : I64 t1 ∧ I64 o1 ∧ I64 r1 ∧ I64 d1 ∧ I64 i1) (t2 o2 r2 : Int) (w2 : I64 t2 ∧ I64 o2 ∧ I64 r2) (a3 : Int) (w3 : I64 a3) (a4 : Int) (w4 : I64 a4) (w : World) (hc : chk n0 t0 o0 r0 d0 i0 = 1) (hd : decide (HtOk n0 t0 o0 r0 d0 i0) = false) (m : Bool) (x1 x2 x3 x4 x5 e0 : Int) (hat : atV t2 o2 r2 a3 a4 = .tuple #[.agg #[.bool m, .int .i64 x1, .int .i64 x2, .int .i64 x3, .int .i64 x4, .int .i64 x5], .int .i64 e0]) :
    Calls Try.prog 3 #[.agg #[.bool n0, .int .i64 t0, .int .i64 o0, .int .i64 r0, .int .i64 d0, .int .i64 i0], .agg #[.bool n1, .int .i64 t1, .int .i64 o1, .int .i64 r1, .int .i64 d1, .int .i64 i1], .agg #[.int .i64 t2, .int .i64 o2, .int .i64 r2], .int .i64 a3, .int .i64 a4] w fun e w' => e = .returned (.bool true) ∧ Below w.heap.size w w' := by
  have cA1 : ∀ w, Calls Try.prog 8 #[.agg #[.int .i64 t2, .int .i64 o2, .int .i64 r2], .int .i64 a3, .int .i64 a4] w fun e w' => e = .returned (.tuple #[.agg #[.bool m, .int .i64 x1, .int .i64 x2, .int .i64 x3, .int .i64 x4, .int .i64 x5], .int .i64 e0]) ∧ Below w.heap.size w w' := fun w => by rw [← hat]; exact at_any _ _ _ _ _ w
  have cA2 : ∀ w, Calls Try.prog 9 #[.agg #[.int .i64 t2, .int .i64 o2, .int .i64 r2], .int .i64 a3, .int .i64 a4] w fun e w' => e = .returned (.tuple #[.agg #[.bool m, .int .i64 x1, .int .i64 x2, .int .i64 x3, .int .i64 x4, .int .i64 x5], .int .i64 e0]) ∧ Below w.heap.size w w' := fun w => by rw [← hat]; exact rat_any _ _ _ _ _ w
  have cC : ∀ w, Calls Try.prog 12 #[.agg #[.bool n0, .int .i64 t0, .int .i64 o0, .int .i64 r0, .int .i64 d0, .int .i64 i0]] w fun e w' => e = .returned (.int .i64 1) ∧ Below w.heap.size w w' := fun w => by rw [← hc]; exact check_any n0 t0 o0 r0 d0 i0 w
  have cR : ∀ w, Calls Try.prog 13 #[.agg #[.bool n0, .int .i64 t0, .int .i64 o0, .int .i64 r0, .int .i64 d0, .int .i64 i0]] w fun e w' => e = .returned (.bool false) ∧ Below w.heap.size w w' := fun w => by rw [← hd]; exact rright_any n0 t0 o0 r0 d0 i0 w
  clear hc hd hat
  go_enter Try.func3, Try.ntmps3
  go_wp2_with fail
  have KA := Lib.hid (((cells6_alloc w n0 t0 o0 r0 d0 i0 23).below ((Below.refl _ _).alloc (Nat.le_refl _) (.cells #[.bool n1, .int .i64 t1, .int .i64 o1, .int .i64 r1, .int .i64 d1, .int .i64 i1] 23))).below ((Below.refl _ _).alloc (Nat.le_refl _) (.cells #[.int .i64 t2, .int .i64 o2, .int .i64 r2] 25)))
  have KB := Lib.hid (((own6_alloc (w.alloc (.cells #[.bool n0, .int .i64 t0, .int .i64 o0, .int .i64 r0, .int .i64 d0, .int .i64 i0] 23)) n1 t1 o1 r1 d1 i1 23 (w.heap.size + 1) (by simp)).below ((Below.refl _ _).alloc (Nat.le_refl _) (.cells #[.int .i64 t2, .int .i64 o2, .int .i64 r2] 25))).1)
  have KL := Lib.hid ((own3_alloc ((w.alloc (.cells #[.bool n0, .int .i64 t0, .int .i64 o0, .int .i64 r0, .int .i64 d0, .int .i64 i0] 23)).alloc (.cells #[.bool n1, .int .i64 t1, .int .i64 o1, .int .i64 r1, .int .i64 d1, .int .i64 i1] 23)) t2 o2 r2 25 (w.heap.size + 1 + 1) (by simp)).1)
  have HB : Hid (Below w.heap.size w (((w.alloc (.cells #[.bool n0, .int .i64 t0, .int .i64 o0, .int .i64 r0, .int .i64 d0, .int .i64 i0] 23)).alloc (.cells #[.bool n1, .int .i64 t1, .int .i64 o1, .int .i64 r1, .int .i64 d1, .int .i64 i1] 23)).alloc (.cells #[.int .i64 t2, .int .i64 o2, .int .i64 r2] 25))) := (((Below.refl _ w).alloc (Nat.le_refl _) _).alloc (by simp) _).alloc (by simp; omega) _
  generalize (((w.alloc (.cells #[.bool n0, .int .i64 t0, .int .i64 o0, .int .i64 r0, .int .i64 d0, .int .i64 i0] 23)).alloc (.cells #[.bool n1, .int .i64 t1, .int .i64 o1, .int .i64 r1, .int .i64 d1, .int .i64 i1] 23)).alloc (.cells #[.int .i64 t2, .int .i64 o2, .int .i64 r2] 25)) = V0 at *
  obtain ⟨p0, p1, p2, p3, p4, p5⟩ := KA.out; obtain ⟨b0, b1, b2, b3, b4, b5⟩ := KB.out; obtain ⟨l0, l1, l2⟩ := KL.out
  go_wp2_with (first
    | (go_at_call 8; refine (cA1 _).mono ?_; rintro e V1 ⟨rfl, hb⟩; replace KA := Lib.hid (KA.out.below hb); replace KB := Lib.hid (KB.out.below hb); replace KL := Lib.hid (KL.out.below hb); replace HB := Lib.hid (HB.out.trans (hb.mono HB.out.size)); clear hb; clear p0 p1 p2 p3 p4 p5 b0 b1 b2 b3 b4 b5 l0 l1 l2; obtain ⟨p0, p1, p2, p3, p4, p5⟩ := KA.out; obtain ⟨b0, b1, b2, b3, b4, b5⟩ := KB.out; obtain ⟨l0, l1, l2⟩ := KL.out; obtain ⟨L0, L1, L2⟩ := KL.out.allocs)
    | (go_at_call 9; refine (cA2 _).mono ?_; rintro e V2 ⟨rfl, hb⟩; have KX := Lib.hid ((own6_alloc V1 m x1 x2 x3 x4 x5 23 V1.heap.size rfl).below hb).1; replace hb := (((Below.refl _ _).alloc (Nat.le_refl _) _) : Below V1.heap.size V1 (V1.alloc (.cells #[.bool m, .int .i64 x1, .int .i64 x2, .int .i64 x3, .int .i64 x4, .int .i64 x5] 23))).trans (hb.mono (by simp)); replace KA := Lib.hid (KA.out.below hb); replace KB := Lib.hid (KB.out.below hb); replace KL := Lib.hid (KL.out.below hb); replace HB := Lib.hid (HB.out.trans (hb.mono HB.out.size)); clear hb; clear p0 p1 p2 p3 p4 p5 b0 b1 b2 b3 b4 b5 l0 l1 l2; obtain ⟨p0, p1, p2, p3, p4, p5⟩ := KA.out; obtain ⟨b0, b1, b2, b3, b4, b5⟩ := KB.out; obtain ⟨l0, l1, l2⟩ := KL.out; clear L0 L1 L2; obtain ⟨P0, P1, P2, P3, P4, P5⟩ := KA.out.allocs)
    | (go_at_call 10; refine (bytes_any _ _ _ _ _ _ _).mono ?_; rintro e V3 ⟨s3, rfl, hr, hb⟩; have KY := Lib.hid ((own6_alloc V2 m x1 x2 x3 x4 x5 23 V2.heap.size rfl).below hb).1; have R1 : Hid (Bs V3 s3 (htBs n0 t0 o0 r0 d0 i0)) := hr; replace hb := (((Below.refl _ _).alloc (Nat.le_refl _) _) : Below V2.heap.size V2 (V2.alloc (.cells #[.bool m, .int .i64 x1, .int .i64 x2, .int .i64 x3, .int .i64 x4, .int .i64 x5] 23))).trans (hb.mono (by simp)); clear hr P0 P1 P2 P3 P4 P5; replace KA := Lib.hid (KA.out.below hb); replace KB := Lib.hid (KB.out.below hb); replace KL := Lib.hid (KL.out.below hb); replace KX := Lib.hid (KX.out.below hb); replace HB := Lib.hid (HB.out.trans (hb.mono HB.out.size)); clear hb; clear p0 p1 p2 p3 p4 p5 b0 b1 b2 b3 b4 b5 l0 l1 l2; obtain ⟨p0, p1, p2, p3, p4, p5⟩ := KA.out; obtain ⟨b0, b1, b2, b3, b4, b5⟩ := KB.out; obtain ⟨l0, l1, l2⟩ := KL.out)
    | (go_at_call 11; refine (rbytes_any _ _ _ _ _ _ _ w0.1.1 w0.1.2 w0.2.2.2.1.1 w0.2.2.2.1.2).mono ?_; rintro e V4 ⟨s4, rfl, hr, hb⟩; have R2 : Hid (Bs V4 s4 (htBs n0 t0 o0 r0 d0 i0)) := hr; clear hr; replace KA := Lib.hid (KA.out.below hb); replace KB := Lib.hid (KB.out.below hb); replace KL := Lib.hid (KL.out.below hb); replace KX := Lib.hid (KX.out.below hb); replace KY := Lib.hid (KY.out.below hb); replace R1 := Lib.hid (Bs_below R1.out hb); replace HB := Lib.hid (HB.out.trans (hb.mono HB.out.size)); clear hb; clear p0 p1 p2 p3 p4 p5 b0 b1 b2 b3 b4 b5 l0 l1 l2; obtain ⟨p0, p1, p2, p3, p4, p5⟩ := KA.out; obtain ⟨b0, b1, b2, b3, b4, b5⟩ := KB.out; obtain ⟨l0, l1, l2⟩ := KL.out))
  have kc : ∀ w', Below V4.heap.size V4 w' → Cells6 w' w.heap.size n0 t0 o0 r0 d0 i0 ∧ Cells6 w' (w.heap.size + 1) n1 t1 o1 r1 d1 i1 ∧ Cells3 w' (w.heap.size + 1 + 1) t2 o2 r2 := fun w' h => ⟨KA.out.below h, KB.out.below h, KL.out.below h⟩
  unfold Cells6 Cells3 at kc
  have hEL : ∀ x y z, eqL x y z x y z = true := fun x y z => eqL_iff.2 ⟨rfl, rfl, rfl⟩
  refine wp_region_typed (C := fun w' => Below V4.heap.size V4 w') (X := fun w w' => Below w.heap.size w w') (n := 117) (by kernel_rfl) (by kernel_rfl) rfl (fun w => Below.refl _ w) (Below.refl _ _).drew ?_
  refine w_is (fun w => Below.refl _ w) _ (.inl rfl) (fun ρ w hC hc hfn hf => by have e5 : ρ (.tmp 5) = _ := hf 5 (by decide); (conv => lhs; simp [execOp, go_sem, hc, e5, kc w hC])) ?_
  refine w_call (Is _) (fun _ _ _ h _ => h) 12 (.inl rfl) (fun ρ w hC hc hfn hf => by have e44 : ρ (.tmp 44) = _ := hf 44 (by decide); exact ⟨_, by (conv => lhs; simp [execOp, resolve, invoke, go_sem, hc, hfn, e44]), (tc_below hC (cC w))⟩) ?_
  refine w_is (fun w => Below.refl _ w) _ (.inl rfl) (fun ρ w hC hc hfn hf => by have e45 : ρ (.tmp 45) = _ := hf 45 (by decide); (conv => lhs; simp [execOp, go_sem, hc, e45])) ?_
  refine w_is (fun w => Below.refl _ w) _ (.inl rfl) (fun ρ w hC hc hfn hf => by have e5 : ρ (.tmp 5) = _ := hf 5 (by decide); (conv => lhs; simp [execOp, go_sem, hc, e5, kc w hC])) ?_
  refine w_call (Is _) (fun _ _ _ h _ => h) 13 (.inl rfl) (fun ρ w hC hc hfn hf => by have e47 : ρ (.tmp 47) = _ := hf 47 (by decide); exact ⟨_, by (conv => lhs; simp [execOp, resolve, invoke, go_sem, hc, hfn, e47]), (tc_below hC (cR w))⟩) ?_
  refine w_is (fun w => Below.refl _ w) _ (.inl rfl) (fun ρ w hC hc hfn hf => by have e46 : ρ (.tmp 46) = _ := hf 46 (by decide); have e48 : ρ (.tmp 48) = _ := hf 48 (by decide); (conv => lhs; simp [execOp, go_sem, hc, e46, e48])) ?_
  refine w_is (fun w => Below.refl _ w) _ (.inl rfl) (fun ρ w hC hc hfn hf => by have e49 : ρ (.tmp 49) = _ := hf 49 (by decide); (conv => lhs; simp [execOp, go_sem, hc, e49])) ?_
  refine w_is (fun w => Below.refl _ w) _ (.inr ⟨6, 50, true, rfl, rfl, known_is rfl⟩) (fun ρ w hC hc hfn hf => by have e5 : ρ (.tmp 5) = _ := hf 5 (by decide); (conv => lhs; simp [execOp, go_sem, hc, e5, kc w hC])) ?_
  refine w_is (fun w => Below.refl _ w) _ (.inr ⟨6, 50, true, rfl, rfl, known_is rfl⟩) (fun ρ w hC hc hfn hf => by have e6 : ρ (.tmp 6) = _ := hf 6 (by decide); (conv => lhs; simp [execOp, go_sem, hc, e6, kc w hC])) ?_
  refine w_call (Is _) (fun _ _ _ h _ => h) 14 (.inr ⟨6, 50, true, rfl, rfl, known_is rfl⟩) (fun ρ w hC hc hfn hf => by have e51 : ρ (.tmp 51) = _ := hf 51 (by decide); have e52 : ρ (.tmp 52) = _ := hf 52 (by decide); exact ⟨_, by (conv => lhs; simp [execOp, resolve, invoke, go_sem, hc, hfn, e51, e52]), (tc_below hC (less_any n0 t0 o0 r0 d0 i0 n1 t1 o1 r1 d1 i1 w))⟩) ?_
  refine w_is (fun w => Below.refl _ w) _ (.inr ⟨6, 50, true, rfl, rfl, known_is rfl⟩) (fun ρ w hC hc hfn hf => by have e5 : ρ (.tmp 5) = _ := hf 5 (by decide); (conv => lhs; simp [execOp, go_sem, hc, e5, kc w hC])) ?_
  refine w_is (fun w => Below.refl _ w) _ (.inr ⟨6, 50, true, rfl, rfl, known_is rfl⟩) (fun ρ w hC hc hfn hf => by have e6 : ρ (.tmp 6) = _ := hf 6 (by decide); (conv => lhs; simp [execOp, go_sem, hc, e6, kc w hC])) ?_
  refine w_call (Is _) (fun _ _ _ h _ => h) 15 (.inr ⟨6, 50, true, rfl, rfl, known_is rfl⟩) (fun ρ w hC hc hfn hf => by have e54 : ρ (.tmp 54) = _ := hf 54 (by decide); have e55 : ρ (.tmp 55) = _ := hf 55 (by decide); exact ⟨_, by (conv => lhs; simp [execOp, resolve, invoke, go_sem, hc, hfn, e54, e55]), (tc_below hC (rless_any n0 t0 o0 r0 d0 i0 n1 t1 o1 r1 d1 i1 w))⟩) ?_
  refine w_is (fun w => Below.refl _ w) _ (.inr ⟨6, 50, true, rfl, rfl, known_is rfl⟩) (fun ρ w hC hc hfn hf => by have e53 : ρ (.tmp 53) = _ := hf 53 (by decide); have e56 : ρ (.tmp 56) = _ := hf 56 (by decide); (conv => lhs; simp [execOp, go_sem, hc, e53, e56])) ?_
  refine w_is (fun w => Below.refl _ w) _ (.inl rfl) (fun ρ w hC hc hfn hf => by have e50 : ρ (.tmp 50) = _ := hf 50 (by decide); have e57 : ρ (.tmp 57) = _ := hf 57 (by decide); (conv => lhs; simp [execOp, go_sem, hc, e50, e57])) ?_
  refine w_is (fun w => Below.refl _ w) _ (.inl rfl) (fun ρ w hC hc hfn hf => by have e58 : ρ (.tmp 58) = _ := hf 58 (by decide); (conv => lhs; simp [execOp, go_sem, hc, e58])) ?_
  refine w_is (fun w => Below.refl _ w) _ (.inr ⟨15, 59, true, rfl, rfl, known_is rfl⟩) (fun ρ w hC hc hfn hf => by have e5 : ρ (.tmp 5) = _ := hf 5 (by decide); (conv => lhs; simp [execOp, go_sem, hc, e5, kc w hC])) ?_
  refine w_call (Is _) (fun _ _ _ h _ => h) 16 (.inr ⟨15, 59, true, rfl, rfl, known_is rfl⟩) (fun ρ w hC hc hfn hf => by have e60 : ρ (.tmp 60) = _ := hf 60 (by decide); exact ⟨_, by (conv => lhs; simp [execOp, resolve, invoke, go_sem, hc, hfn, e60]), (tc_below hC (lev_any n0 t0 o0 r0 d0 i0 w))⟩) ?_
  refine w_is (fun w => Below.refl _ w) _ (.inr ⟨15, 59, true, rfl, rfl, known_is rfl⟩) (fun ρ w hC hc hfn hf => by have e5 : ρ (.tmp 5) = _ := hf 5 (by decide); (conv => lhs; simp [execOp, go_sem, hc, e5, kc w hC])) ?_
  refine w_call (Is _) (fun _ _ _ h _ => h) 17 (.inr ⟨15, 59, true, rfl, rfl, known_is rfl⟩) (fun ρ w hC hc hfn hf => by have e62 : ρ (.tmp 62) = _ := hf 62 (by decide); exact ⟨_, by (conv => lhs; simp [execOp, resolve, invoke, go_sem, hc, hfn, e62]), (tc_below hC (rlev_any n0 t0 o0 r0 d0 i0 w))⟩) ?_
  refine w_is (fun w => Below.refl _ w) _ (.inr ⟨15, 59, true, rfl, rfl, known_is rfl⟩) (fun ρ w hC hc hfn hf => by have e61 : ρ (.tmp 61) = _ := hf 61 (by decide); have e63 : ρ (.tmp 63) = _ := hf 63 (by decide); (conv => lhs; simp [execOp, go_sem, hc, e61, e63, eql25, guard25, hEL])) ?_
  refine w_is (fun w => Below.refl _ w) _ (.inl rfl) (fun ρ w hC hc hfn hf => by have e59 : ρ (.tmp 59) = _ := hf 59 (by decide); have e64 : ρ (.tmp 64) = _ := hf 64 (by decide); (conv => lhs; simp [execOp, go_sem, hc, e59, e64])) ?_
  refine w_is (fun w => Below.refl _ w) _ (.inl rfl) (fun ρ w hC hc hfn hf => by have e65 : ρ (.tmp 65) = _ := hf 65 (by decide); (conv => lhs; simp [execOp, go_sem, hc, e65])) ?_
  refine w_is (fun w => Below.refl _ w) _ (.inr ⟨22, 66, true, rfl, rfl, known_is rfl⟩) (fun ρ w hC hc hfn hf => by have e7 : ρ (.tmp 7) = _ := hf 7 (by decide); (conv => lhs; simp [execOp, go_sem, hc, e7, kc w hC])) ?_
  refine w_is (fun w => Below.refl _ w) _ (.inr ⟨22, 66, true, rfl, rfl, known_is rfl⟩) (fun ρ w hC hc hfn hf => by have e6 : ρ (.tmp 6) = _ := hf 6 (by decide); (conv => lhs; simp [execOp, go_sem, hc, e6, kc w hC])) ?_
  refine w_call (Is _) (fun _ _ _ h _ => h) 16 (.inr ⟨22, 66, true, rfl, rfl, known_is rfl⟩) (fun ρ w hC hc hfn hf => by have e68 : ρ (.tmp 68) = _ := hf 68 (by decide); exact ⟨_, by (conv => lhs; simp [execOp, resolve, invoke, go_sem, hc, hfn, e68]), (tc_below hC (lev_any n1 t1 o1 r1 d1 i1 w))⟩) ?_
  refine w_call (Is _) (fun _ _ _ h _ => h) 18 (.inr ⟨22, 66, true, rfl, rfl, known_is rfl⟩) (fun ρ w hC hc hfn hf => by have e67 : ρ (.tmp 67) = _ := hf 67 (by decide); have e69 : ρ (.tmp 69) = _ := hf 69 (by decide); exact ⟨_, by (conv => lhs; simp [execOp, resolve, invoke, go_sem, hc, hfn, e67, e69]), (tc_below hC (order_any _ _ _ _ _ _ w))⟩) ?_
  refine w_is (fun w => Below.refl _ w) _ (.inr ⟨22, 66, true, rfl, rfl, known_is rfl⟩) (fun ρ w hC hc hfn hf => by have e7 : ρ (.tmp 7) = _ := hf 7 (by decide); (conv => lhs; simp [execOp, go_sem, hc, e7, kc w hC])) ?_
  refine w_is (fun w => Below.refl _ w) _ (.inr ⟨22, 66, true, rfl, rfl, known_is rfl⟩) (fun ρ w hC hc hfn hf => by have e6 : ρ (.tmp 6) = _ := hf 6 (by decide); (conv => lhs; simp [execOp, go_sem, hc, e6, kc w hC])) ?_
  refine w_call (Is _) (fun _ _ _ h _ => h) 17 (.inr ⟨22, 66, true, rfl, rfl, known_is rfl⟩) (fun ρ w hC hc hfn hf => by have e72 : ρ (.tmp 72) = _ := hf 72 (by decide); exact ⟨_, by (conv => lhs; simp [execOp, resolve, invoke, go_sem, hc, hfn, e72]), (tc_below hC (rlev_any n1 t1 o1 r1 d1 i1 w))⟩) ?_
  refine w_call (Is _) (fun _ _ _ h _ => h) 19 (.inr ⟨22, 66, true, rfl, rfl, known_is rfl⟩) (fun ρ w hC hc hfn hf => by have e71 : ρ (.tmp 71) = _ := hf 71 (by decide); have e73 : ρ (.tmp 73) = _ := hf 73 (by decide); exact ⟨_, by (conv => lhs; simp [execOp, resolve, invoke, go_sem, hc, hfn, e71, e73]), (tc_below hC (rorder_any _ _ _ _ _ _ w))⟩) ?_
  refine w_is (fun w => Below.refl _ w) _ (.inr ⟨22, 66, true, rfl, rfl, known_is rfl⟩) (fun ρ w hC hc hfn hf => by have e70 : ρ (.tmp 70) = _ := hf 70 (by decide); have e74 : ρ (.tmp 74) = _ := hf 74 (by decide); (conv => lhs; simp [execOp, go_sem, hc, e70, e74])) ?_
  refine w_is (fun w => Below.refl _ w) _ (.inl rfl) (fun ρ w hC hc hfn hf => by have e66 : ρ (.tmp 66) = _ := hf 66 (by decide); have e75 : ρ (.tmp 75) = _ := hf 75 (by decide); (conv => lhs; simp [execOp, go_sem, hc, e66, e75])) ?_
  refine w_is (fun w => Below.refl _ w) _ (.inl rfl) (fun ρ w hC hc hfn hf => by have e76 : ρ (.tmp 76) = _ := hf 76 (by decide); (conv => lhs; simp [execOp, go_sem, hc, e76])) ?_
  intro A V5 hC hn hd hf
  have y0 : A.eval (.tmp 0) = _ := Eq.trans (hf 0) (by conv => lhs; simp [go_sem])
  have y1 : A.eval (.tmp 1) = _ := Eq.trans (hf 1) (by conv => lhs; simp [go_sem])
  have y2 : A.eval (.tmp 2) = _ := Eq.trans (hf 2) (by conv => lhs; simp [go_sem])
  have y3 : A.eval (.tmp 3) = _ := Eq.trans (hf 3) (by conv => lhs; simp [go_sem])
  have y4 : A.eval (.tmp 4) = _ := Eq.trans (hf 4) (by conv => lhs; simp [go_sem])
  have y5 : A.eval (.tmp 5) = _ := Eq.trans (hf 5) (by conv => lhs; simp [go_sem])
  have y6 : A.eval (.tmp 6) = _ := Eq.trans (hf 6) (by conv => lhs; simp [go_sem])
  have y7 : A.eval (.tmp 7) = _ := Eq.trans (hf 7) (by conv => lhs; simp [go_sem])
  have y8 : A.eval (.tmp 8) = _ := Eq.trans (hf 8) (by conv => lhs; simp [go_sem])
  have y9 : A.eval (.tmp 9) = _ := Eq.trans (hf 9) (by conv => lhs; simp [go_sem])
  have y10 : A.eval (.tmp 10) = _ := Eq.trans (hf 10) (by conv => lhs; simp [go_sem])
  have y11 : A.eval (.tmp 11) = _ := Eq.trans (hf 11) (by conv => lhs; simp [go_sem])
  have y12 : A.eval (.tmp 12) = _ := Eq.trans (hf 12) (by conv => lhs; simp [go_sem])
  have y13 : A.eval (.tmp 13) = _ := Eq.trans (hf 13) (by conv => lhs; simp [go_sem])
  have y14 : A.eval (.tmp 14) = _ := Eq.trans (hf 14) (by conv => lhs; simp [go_sem])
  have y15 : A.eval (.tmp 15) = _ := Eq.trans (hf 15) (by conv => lhs; simp [go_sem])
  have y16 : A.eval (.tmp 16) = _ := Eq.trans (hf 16) (by conv => lhs; simp [go_sem])
  have y17 : A.eval (.tmp 17) = _ := Eq.trans (hf 17) (by conv => lhs; simp [go_sem])
  have y18 : A.eval (.tmp 18) = _ := Eq.trans (hf 18) (by conv => lhs; simp [go_sem])
  have y19 : A.eval (.tmp 19) = _ := hf 19
  have y20 : A.eval (.tmp 20) = _ := Eq.trans (hf 20) (by conv => lhs; simp [go_sem])
  have y21 : A.eval (.tmp 21) = _ := Eq.trans (hf 21) (by conv => lhs; simp [go_sem])
  have y22 : A.eval (.tmp 22) = _ := Eq.trans (hf 22) (by conv => lhs; simp [go_sem])
  have y23 : A.eval (.tmp 23) = _ := Eq.trans (hf 23) (by conv => lhs; simp [go_sem])
  have y24 : A.eval (.tmp 24) = _ := Eq.trans (hf 24) (by conv => lhs; simp [go_sem])
  have y25 : A.eval (.tmp 25) = _ := Eq.trans (hf 25) (by conv => lhs; simp [go_sem])
  have y26 : A.eval (.tmp 26) = _ := Eq.trans (hf 26) (by conv => lhs; simp [go_sem])
  have y27 : A.eval (.tmp 27) = _ := Eq.trans (hf 27) (by conv => lhs; simp [go_sem])
  have y28 : A.eval (.tmp 28) = _ := Eq.trans (hf 28) (by conv => lhs; simp [go_sem])
  have y29 : A.eval (.tmp 29) = _ := Eq.trans (hf 29) (by conv => lhs; simp [go_sem])
  have y30 : A.eval (.tmp 30) = _ := Eq.trans (hf 30) (by conv => lhs; simp [go_sem])
  have y31 : A.eval (.tmp 31) = _ := Eq.trans (hf 31) (by conv => lhs; simp [go_sem])
  have y32 : A.eval (.tmp 32) = _ := Eq.trans (hf 32) (by conv => lhs; simp [go_sem])
  have y33 : A.eval (.tmp 33) = _ := Eq.trans (hf 33) (by conv => lhs; simp [go_sem])
  have y34 : A.eval (.tmp 34) = _ := Eq.trans (hf 34) (by conv => lhs; simp [go_sem])
  have y35 : A.eval (.tmp 35) = _ := Eq.trans (hf 35) (by conv => lhs; simp [go_sem])
  have y36 : A.eval (.tmp 36) = _ := Eq.trans (hf 36) (by conv => lhs; simp [go_sem])
  have y37 : A.eval (.tmp 37) = _ := Eq.trans (hf 37) (by conv => lhs; simp [go_sem])
  have y38 : A.eval (.tmp 38) = _ := Eq.trans (hf 38) (by conv => lhs; simp [go_sem])
  have y39 : A.eval (.tmp 39) = _ := Eq.trans (hf 39) (by conv => lhs; simp [go_sem])
  have y40 : A.eval (.tmp 40) = _ := Eq.trans (hf 40) (by conv => lhs; simp [go_sem])
  have y41 : A.eval (.tmp 41) = _ := Eq.trans (hf 41) (by conv => lhs; simp [go_sem])
  have y42 : A.eval (.tmp 42) = _ := Eq.trans (hf 42) (by conv => lhs; simp [go_sem])
  have y43 : A.eval (.tmp 43) = _ := Eq.trans (hf 43) (by conv => lhs; simp [go_sem])
  have y44 : A.eval (.tmp 44) = _ := hf 44
  have y45 : A.eval (.tmp 45) = _ := hf 45
  have y46 : A.eval (.tmp 46) = _ := hf 46
  have y47 : A.eval (.tmp 47) = _ := hf 47
  have y48 : A.eval (.tmp 48) = _ := hf 48
  have y49 : A.eval (.tmp 49) = _ := hf 49
  have y50 : A.eval (.tmp 50) = _ := hf 50
  have y51 : A.eval (.tmp 51) = _ := hf 51
  have y52 : A.eval (.tmp 52) = _ := hf 52
  have y53 : A.eval (.tmp 53) = _ := hf 53
  have y54 : A.eval (.tmp 54) = _ := hf 54
  have y55 : A.eval (.tmp 55) = _ := hf 55
  have y56 : A.eval (.tmp 56) = _ := hf 56
  have y57 : A.eval (.tmp 57) = _ := hf 57
  have y58 : A.eval (.tmp 58) = _ := hf 58
  have y59 : A.eval (.tmp 59) = _ := hf 59
  have y60 : A.eval (.tmp 60) = _ := hf 60
  have y61 : A.eval (.tmp 61) = _ := hf 61
  have y62 : A.eval (.tmp 62) = _ := hf 62
  have y63 : A.eval (.tmp 63) = _ := hf 63
  have y64 : A.eval (.tmp 64) = _ := hf 64
  have y65 : A.eval (.tmp 65) = _ := hf 65
  have y66 : A.eval (.tmp 66) = _ := hf 66
  have y67 : A.eval (.tmp 67) = _ := hf 67
  have y68 : A.eval (.tmp 68) = _ := hf 68
  have y69 : A.eval (.tmp 69) = _ := hf 69
  have y70 : A.eval (.tmp 70) = _ := hf 70
  have y71 : A.eval (.tmp 71) = _ := hf 71
  have y72 : A.eval (.tmp 72) = _ := hf 72
  have y73 : A.eval (.tmp 73) = _ := hf 73
  have y74 : A.eval (.tmp 74) = _ := hf 74
  have y75 : A.eval (.tmp 75) = _ := hf 75
  have y76 : A.eval (.tmp 76) = _ := hf 76
  have y77 : A.eval (.tmp 77) = _ := Eq.trans (hf 77) (by conv => lhs; simp [go_sem])
  have y78 : A.eval (.tmp 78) = _ := Eq.trans (hf 78) (by conv => lhs; simp [go_sem])
  have y79 : A.eval (.tmp 79) = _ := Eq.trans (hf 79) (by conv => lhs; simp [go_sem])
  have y80 : A.eval (.tmp 80) = _ := Eq.trans (hf 80) (by conv => lhs; simp [go_sem])
  have y81 : A.eval (.tmp 81) = _ := Eq.trans (hf 81) (by conv => lhs; simp [go_sem])
  have y82 : A.eval (.tmp 82) = _ := Eq.trans (hf 82) (by conv => lhs; simp [go_sem])
  have y83 : A.eval (.tmp 83) = _ := Eq.trans (hf 83) (by conv => lhs; simp [go_sem])
  have y84 : A.eval (.tmp 84) = _ := Eq.trans (hf 84) (by conv => lhs; simp [go_sem])
  have y85 : A.eval (.tmp 85) = _ := Eq.trans (hf 85) (by conv => lhs; simp [go_sem])
  have y86 : A.eval (.tmp 86) = _ := Eq.trans (hf 86) (by conv => lhs; simp [go_sem])
  have y87 : A.eval (.tmp 87) = _ := Eq.trans (hf 87) (by conv => lhs; simp [go_sem])
  have y88 : A.eval (.tmp 88) = _ := Eq.trans (hf 88) (by conv => lhs; simp [go_sem])
  have y89 : A.eval (.tmp 89) = _ := Eq.trans (hf 89) (by conv => lhs; simp [go_sem])
  have y90 : A.eval (.tmp 90) = _ := Eq.trans (hf 90) (by conv => lhs; simp [go_sem])
  have y91 : A.eval (.tmp 91) = _ := Eq.trans (hf 91) (by conv => lhs; simp [go_sem])
  have y92 : A.eval (.tmp 92) = _ := Eq.trans (hf 92) (by conv => lhs; simp [go_sem])
  have y93 : A.eval (.tmp 93) = _ := Eq.trans (hf 93) (by conv => lhs; simp [go_sem])
  have y94 : A.eval (.tmp 94) = _ := Eq.trans (hf 94) (by conv => lhs; simp [go_sem])
  have y95 : A.eval (.tmp 95) = _ := Eq.trans (hf 95) (by conv => lhs; simp [go_sem])
  have y96 : A.eval (.tmp 96) = _ := Eq.trans (hf 96) (by conv => lhs; simp [go_sem])
  have y97 : A.eval (.tmp 97) = _ := Eq.trans (hf 97) (by conv => lhs; simp [go_sem])
  have y98 : A.eval (.tmp 98) = _ := Eq.trans (hf 98) (by conv => lhs; simp [go_sem])
  have y99 : A.eval (.tmp 99) = _ := Eq.trans (hf 99) (by conv => lhs; simp [go_sem])
  have y100 : A.eval (.tmp 100) = _ := Eq.trans (hf 100) (by conv => lhs; simp [go_sem])
  have y101 : A.eval (.tmp 101) = _ := Eq.trans (hf 101) (by conv => lhs; simp [go_sem])
  have y102 : A.eval (.tmp 102) = _ := Eq.trans (hf 102) (by conv => lhs; simp [go_sem])
  have y103 : A.eval (.tmp 103) = _ := Eq.trans (hf 103) (by conv => lhs; simp [go_sem])
  have y104 : A.eval (.tmp 104) = _ := Eq.trans (hf 104) (by conv => lhs; simp [go_sem])
  have y105 : A.eval (.tmp 105) = _ := Eq.trans (hf 105) (by conv => lhs; simp [go_sem])
  have y106 : A.eval (.tmp 106) = _ := Eq.trans (hf 106) (by conv => lhs; simp [go_sem])
  have y107 : A.eval (.tmp 107) = _ := Eq.trans (hf 107) (by conv => lhs; simp [go_sem])
  have y108 : A.eval (.tmp 108) = _ := Eq.trans (hf 108) (by conv => lhs; simp [go_sem])
  have y109 : A.eval (.tmp 109) = _ := Eq.trans (hf 109) (by conv => lhs; simp [go_sem])
  have y110 : A.eval (.tmp 110) = _ := Eq.trans (hf 110) (by conv => lhs; simp [go_sem])
  have y111 : A.eval (.tmp 111) = _ := Eq.trans (hf 111) (by conv => lhs; simp [go_sem])
  have y112 : A.eval (.tmp 112) = _ := Eq.trans (hf 112) (by conv => lhs; simp [go_sem])
  have y113 : A.eval (.tmp 113) = _ := Eq.trans (hf 113) (by conv => lhs; simp [go_sem])
  have y114 : A.eval (.tmp 114) = _ := Eq.trans (hf 114) (by conv => lhs; simp [go_sem])
  have y115 : A.eval (.tmp 115) = _ := Eq.trans (hf 115) (by conv => lhs; simp [go_sem])
  have y116 : A.eval (.tmp 116) = _ := Eq.trans (hf 116) (by conv => lhs; simp [go_sem])
  clear hf
  have hA := frame_eq hn
  rw [show List.range 117 = [0, 1, 2, 3, 4, 5, 6, 7, 8, 9, 10, 11, 12, 13, 14, 15, 16, 17, 18, 19, 20, 21, 22, 23, 24, 25, 26, 27, 28, 29, 30, 31, 32, 33, 34, 35, 36, 37, 38, 39, 40, 41, 42, 43, 44, 45, 46, 47, 48, 49, 50, 51, 52, 53, 54, 55, 56, 57, 58, 59, 60, 61, 62, 63, 64, 65, 66, 67, 68, 69, 70, 71, 72, 73, 74, 75, 76, 77, 78, 79, 80, 81, 82, 83, 84, 85, 86, 87, 88, 89, 90, 91, 92, 93, 94, 95, 96, 97, 98, 99, 100, 101, 102, 103, 104, 105, 106, 107, 108, 109, 110, 111, 112, 113, 114, 115, 116] from rfl, hd] at hA
  simp only [List.map_cons, List.map_nil, y0, y1, y2, y3, y4, y5, y6, y7, y8, y9, y10, y11, y12, y13, y14, y15, y16, y17, y18, y19, y20, y21, y22, y23, y24, y25, y26, y27, y28, y29, y30, y31, y32, y33, y34, y35, y36, y37, y38, y39, y40, y41, y42, y43, y44, y45, y46, y47, y48, y49, y50, y51, y52, y53, y54, y55, y56, y57, y58, y59, y60, y61, y62, y63, y64, y65, y66, y67, y68, y69, y70, y71, y72, y73, y74, y75, y76, y77, y78, y79, y80, y81, y82, y83, y84, y85, y86, y87, y88, y89, y90, y91, y92, y93, y94, y95, y96, y97, y98, y99, y100, y101, y102, y103, y104, y105, y106, y107, y108, y109, y110, y111, y112, y113, y114, y115, y116] at hA
  clear y0 y1 y2 y3 y4 y5 y6 y7 y8 y9 y10 y11 y12 y13 y14 y15 y16 y17 y18 y19 y20 y21 y22 y23 y24 y25 y26 y27 y28 y29 y30 y31 y32 y33 y34 y35 y36 y37 y38 y39 y40 y41 y42 y43 y44 y45 y46 y47 y48 y49 y50 y51 y52 y53 y54 y55 y56 y57 y58 y59 y60 y61 y62 y63 y64 y65 y66 y67 y68 y69 y70 y71 y72 y73 y74 y75 y76 y77 y78 y79 y80 y81 y82 y83 y84 y85 y86 y87 y88 y89 y90 y91 y92 y93 y94 y95 y96 y97 y98 y99 y100 y101 y102 y103 y104 y105 y106 y107 y108 y109 y110 y111 y112 y113 y114 y115 y116
  clear hn hd
  subst hA
  clear kc cA1 cA2 cC cR
  have E1 := guard23
  have E2 := eql23
  have E3 : ∀ n t o r d i, eqH n t o r d i n t o r d i = true := fun n t o r d i => eqH_iff.2 ⟨rfl, rfl, rfl, rfl, rfl, rfl⟩
  replace KA := Lib.hid (KA.out.below hC); replace KB := Lib.hid (KB.out.below hC); replace KL := Lib.hid (KL.out.below hC); replace KX := Lib.hid (KX.out.below hC); replace KY := Lib.hid (KY.out.below hC); replace R1 := Lib.hid (Bs_below R1.out hC); replace R2 := Lib.hid (Bs_below R2.out hC); replace HB := Lib.hid (HB.out.trans (hC.mono HB.out.size)); clear hC; clear p0 p1 p2 p3 p4 p5 b0 b1 b2 b3 b4 b5 l0 l1 l2; obtain ⟨p0, p1, p2, p3, p4, p5⟩ := KA.out; obtain ⟨b0, b1, b2, b3, b4, b5⟩ := KB.out; obtain ⟨l0, l1, l2⟩ := KL.out
  go_wp2_with (first
    | (go_at_call 20; refine (awake_any _).mono ?_; rintro e V6 ⟨rfl, hb⟩; replace KA := Lib.hid (KA.out.below hb); replace KB := Lib.hid (KB.out.below hb); replace KL := Lib.hid (KL.out.below hb); replace KX := Lib.hid (KX.out.below hb); replace KY := Lib.hid (KY.out.below hb); replace R1 := Lib.hid (Bs_below R1.out hb); replace R2 := Lib.hid (Bs_below R2.out hb); replace HB := Lib.hid (HB.out.trans (hb.mono HB.out.size)); clear hb; clear p0 p1 p2 p3 p4 p5 b0 b1 b2 b3 b4 b5 l0 l1 l2; obtain ⟨p0, p1, p2, p3, p4, p5⟩ := KA.out; obtain ⟨b0, b1, b2, b3, b4, b5⟩ := KB.out; obtain ⟨l0, l1, l2⟩ := KL.out)
    | (go_at_call 21; refine (null_any _ _).mono ?_; rintro e V6 ⟨rfl, hb⟩; replace KA := Lib.hid (KA.out.below hb); replace KB := Lib.hid (KB.out.below hb); replace KL := Lib.hid (KL.out.below hb); replace KX := Lib.hid (KX.out.below hb); replace KY := Lib.hid (KY.out.below hb); replace R1 := Lib.hid (Bs_below R1.out hb); replace R2 := Lib.hid (Bs_below R2.out hb); replace HB := Lib.hid (HB.out.trans (hb.mono HB.out.size)); clear hb; clear p0 p1 p2 p3 p4 p5 b0 b1 b2 b3 b4 b5 l0 l1 l2; obtain ⟨p0, p1, p2, p3, p4, p5⟩ := KA.out; obtain ⟨b0, b1, b2, b3, b4, b5⟩ := KB.out; obtain ⟨l0, l1, l2⟩ := KL.out)
    | (go_at_call 22; refine (rnull_any _ _).mono ?_; rintro e V6 ⟨rfl, hb⟩; replace KA := Lib.hid (KA.out.below hb); replace KB := Lib.hid (KB.out.below hb); replace KL := Lib.hid (KL.out.below hb); replace KX := Lib.hid (KX.out.below hb); replace KY := Lib.hid (KY.out.below hb); replace R1 := Lib.hid (Bs_below R1.out hb); replace R2 := Lib.hid (Bs_below R2.out hb); replace HB := Lib.hid (HB.out.trans (hb.mono HB.out.size)); clear hb; clear p0 p1 p2 p3 p4 p5 b0 b1 b2 b3 b4 b5 l0 l1 l2; obtain ⟨p0, p1, p2, p3, p4, p5⟩ := KA.out; obtain ⟨b0, b1, b2, b3, b4, b5⟩ := KB.out; obtain ⟨l0, l1, l2⟩ := KL.out)
    | (go_at_call 23; refine (zero_any _ _).mono ?_; rintro e V6 ⟨rfl, hb⟩; replace KA := Lib.hid (KA.out.below hb); replace KB := Lib.hid (KB.out.below hb); replace KL := Lib.hid (KL.out.below hb); replace KX := Lib.hid (KX.out.below hb); replace KY := Lib.hid (KY.out.below hb); replace R1 := Lib.hid (Bs_below R1.out hb); replace R2 := Lib.hid (Bs_below R2.out hb); replace HB := Lib.hid (HB.out.trans (hb.mono HB.out.size)); clear hb; clear p0 p1 p2 p3 p4 p5 b0 b1 b2 b3 b4 b5 l0 l1 l2; obtain ⟨p0, p1, p2, p3, p4, p5⟩ := KA.out; obtain ⟨b0, b1, b2, b3, b4, b5⟩ := KB.out; obtain ⟨l0, l1, l2⟩ := KL.out)
    | (go_at_call 24; refine (rzero_any _ _).mono ?_; rintro e V6 ⟨rfl, hb⟩; replace KA := Lib.hid (KA.out.below hb); replace KB := Lib.hid (KB.out.below hb); replace KL := Lib.hid (KL.out.below hb); replace KX := Lib.hid (KX.out.below hb); replace KY := Lib.hid (KY.out.below hb); replace R1 := Lib.hid (Bs_below R1.out hb); replace R2 := Lib.hid (Bs_below R2.out hb); replace HB := Lib.hid (HB.out.trans (hb.mono HB.out.size)); clear hb; clear p0 p1 p2 p3 p4 p5 b0 b1 b2 b3 b4 b5 l0 l1 l2; obtain ⟨p0, p1, p2, p3, p4, p5⟩ := KA.out; obtain ⟨b0, b1, b2, b3, b4, b5⟩ := KB.out; obtain ⟨l0, l1, l2⟩ := KL.out; have hc1 := Bs_conv R1.out; have hc2 := Bs_conv R2.out; obtain ⟨q0, q1, q2, q3, q4, q5⟩ := KX.out; obtain ⟨y0, y1, y2, y3, y4, y5⟩ := KY.out))
  go_ret
  exact ⟨rfl, HB.out⟩

theorem walk (n0 : Bool) (t0 o0 r0 d0 i0 : Int) (w0 : I64 t0 ∧ I64 o0 ∧ I64 r0 ∧ I64 d0 ∧ I64 i0) (n1 : Bool) (t1 o1 r1 d1 i1 : Int) (w1 : I64 t1 ∧ I64 o1 ∧ I64 r1 ∧ I64 d1 ∧ I64 i1) (t2 o2 r2 : Int) (w2 : I64 t2 ∧ I64 o2 ∧ I64 r2) (a3 : Int) (w3 : I64 a3) (a4 : Int) (w4 : I64 a4) (w : World) :
    Calls Try.prog 3 #[.agg #[.bool n0, .int .i64 t0, .int .i64 o0, .int .i64 r0, .int .i64 d0, .int .i64 i0], .agg #[.bool n1, .int .i64 t1, .int .i64 o1, .int .i64 r1, .int .i64 d1, .int .i64 i1], .agg #[.int .i64 t2, .int .i64 o2, .int .i64 r2], .int .i64 a3, .int .i64 a4] w fun e w' => e = .returned (.bool true) ∧ Below w.heap.size w w' := by
  obtain ⟨m, x1, x2, x3, x4, x5, e0, hat⟩ := at_form t2 o2 r2 a3 a4
  by_cases h : HtOk n0 t0 o0 r0 d0 i0
  · exact case_ok n0 t0 o0 r0 d0 i0 w0 n1 t1 o1 r1 d1 i1 w1 t2 o2 r2 w2 a3 w3 a4 w4 w (chk_ok h) (decide_eq_true h) m x1 x2 x3 x4 x5 e0 hat
  · exact case_no n0 t0 o0 r0 d0 i0 w0 n1 t1 o1 r1 d1 i1 w1 t2 o2 r2 w2 a3 w3 a4 w4 w (chk_no h) (decide_eq_false h) m x1 x2 x3 x4 x5 e0 hat

set_option maxRecDepth 100000 in
theorem lifted (os : Os) (started : os.Started) (H : Type) (enc : TypeId × Value → H) :
    ReturnsInHanded {} Try.checked os 3 .any (Rows.heightDoesSpec.pre6 enc Try.prog Try.f3 Rows.heightDoesRow.domain false) (Rows.heightDoesSpec.post enc Try.prog Try.f3 false true false false) := by
  refine returnsInHanded_of_change (C := Try.checked) own started (by kernel_rfl) Try.func3
    (ChangeSpec.witness6 (enc := enc) (C := Try.checked) false ⟨#[], #[.agg #[.bool false, .int .i64 0, .int .i64 0, .int .i64 0, .int .i64 0, .int .i64 0], .agg #[.bool false, .int .i64 0, .int .i64 0, .int .i64 0, .int .i64 0, .int .i64 0], .agg #[.int .i64 0, .int .i64 0, .int .i64 0], .int .i64 0, .int .i64 0], []⟩ 16 (by kernel_rfl) (by kernel_rfl) (by kernel_rfl) (by kernel_rfl)) ?_
  intro W base args ds gs before hval0 hW hcnd _
  have hval : ∀ (j : Nat) t v, Try.f3.params[j]? = some t → args[j]? = some v → Value.okWide Try.prog W .any base t v := hval0
  have hW' := hW
  obtain ⟨p, q, hA0, hV, rfl, hfz, hnd⟩ := hW
  have hA : DataW.TrodAll enc Try.prog W 0 (fun _ => true) true Try.f3.params.toList args.toList ds p := hA0
  rw [Try.params3] at hA hval
  obtain ⟨v0, vs0, e0, ds0, p0, q0, hargs, rfl, rfl, h0, x0⟩ := trodAll_cons hA
  obtain ⟨v1, vs1, e1, ds1, p1, q1, rfl, rfl, rfl, h1, x1⟩ := trodAll_cons x0
  obtain ⟨v2, vs2, e2, ds2, p2, q2, rfl, rfl, rfl, h2, x2⟩ := trodAll_cons x1
  obtain ⟨v3, vs3, e3, ds3, p3, q3, rfl, rfl, rfl, h3, x3⟩ := trodAll_cons x2
  obtain ⟨v4, vs4, e4, ds4, p4, q4, rfl, rfl, rfl, h4, x4⟩ := trodAll_cons x3
  obtain ⟨rfl, rfl, rfl⟩ := trodAll_nil x4
  obtain rfl : args = #[v0, v1, v2, v3, v4] := by cases args; simp_all
  obtain ⟨rfl, rfl⟩ := trodVars_none hV
  have k0 := h0
  have lt0 : ∀ x ∈ p0, x.block < W.heap.size := by obtain ⟨m, hm⟩ := k0; exact DataW.trod_lt m _ _ _ hm
  obtain ⟨n0, t0, o0, r0, d0, i0, rfl, w0⟩ := ht_form (hval 0 23 v0 rfl rfl) h0
  have k1 := h1
  have lt1 : ∀ x ∈ p1, x.block < W.heap.size := by obtain ⟨m, hm⟩ := k1; exact DataW.trod_lt m _ _ _ hm
  obtain ⟨n1, t1, o1, r1, d1, i1, rfl, w1⟩ := ht_form (hval 1 23 v1 rfl rfl) h1
  have k2 := h2
  have lt2 : ∀ x ∈ p2, x.block < W.heap.size := by obtain ⟨m, hm⟩ := k2; exact DataW.trod_lt m _ _ _ hm
  obtain ⟨t2, o2, r2, rfl, w2⟩ := lev_form (hval 2 25 v2 rfl rfl) h2
  have k3 := h3
  have lt3 : ∀ x ∈ p3, x.block < W.heap.size := by obtain ⟨m, hm⟩ := k3; exact DataW.trod_lt m _ _ _ hm
  obtain ⟨a3, rfl, _, _, w3⟩ := open_int Try.underlying3 (hval 3 3 v3 rfl rfl) h3
  have k4 := h4
  have lt4 : ∀ x ∈ p4, x.block < W.heap.size := by obtain ⟨m, hm⟩ := k4; exact DataW.trod_lt m _ _ _ hm
  obtain ⟨a4, rfl, _, _, w4⟩ := open_int Try.underlying3 (hval 4 3 v4 rfl rfl) h4
  clear hA0 hval0
  refine (walk n0 t0 o0 r0 d0 i0 w0 n1 t1 o1 r1 d1 i1 w1 t2 o2 r2 w2 a3 (i64_wf w3) a4 (i64_wf w4) W).mono fun e W' ⟨he, bel⟩ => ?_
  subst he
  exact ⟨_, rfl, _, _, _, [], _, [], hW', trodAll_mk1 (shut_bool Try.underlying4 _), (trodAll_cons_mk (Below.trod laidOut (by kernel_rfl) (of_decide_eq_true (by kernel_rfl)) k0 bel lt0) (trodAll_cons_mk (Below.trod laidOut (by kernel_rfl) (of_decide_eq_true (by kernel_rfl)) k1 bel lt1) (trodAll_cons_mk (Below.trod laidOut (by kernel_rfl) (of_decide_eq_true (by kernel_rfl)) k2 bel lt2) (trodAll_cons_mk (Below.trod laidOut (by kernel_rfl) (of_decide_eq_true (by kernel_rfl)) k3 bel lt3) (trodAll_cons_mk (Below.trod laidOut (by kernel_rfl) (of_decide_eq_true (by kernel_rfl)) k4 bel lt4) trodAll_mk0))))), rfl, bel.frame _, fun h => by cases h⟩

theorem over : Rows.heightDoesRow.holds Try.pinned (OpenSpec.ofChange Rows.heightDoesSpec) :=
  OpenClaim.holds_of_wide 3 Try.f3 rfl rfl rfl rfl rfl rfl rfl ⟨rfl, rfl, rfl, rfl, rfl⟩ rfl rfl rfl rfl rfl (by kernel_rfl) Try.func3 (by kernel_rfl)
    (of_decide_eq_true (by kernel_rfl)) (by unfold Func.isWrapper; first | (rw [if_pos (by decide +kernel)]; kernel_rfl) | (rw [if_neg (by decide +kernel)]; exact ⟨rfl, rfl⟩))
    (fun os started H enc _ => lifted os started H enc)

theorem proved : Rows.HeightDoesSaid := over
#print axioms proved
end Go.Proofs.Ytkgckmlphfafjaa.heightDoes
