/- thalweglaw08.PacketDoes: for any packet the law answers true; no condition. -/
import Derived.Test.YteleedpiadcfjaaPkf
import Derived.Test.YteleedpiadcfjaaTyp2
import Derived.Test.YteleedpiadcfjaaPkg
import Derived.WalkLawsBesides
import Derived.WalkKit
import Derived.ProofKit
import Derived.OpenShut
import Derived.ShutString
import Derived.ChangeOld
import Derived.Below
namespace Go.Proofs.Yteleedpiadcfjaa.packetDoes
open Go.ChangeShapes Go.WideShapes Go.ChangeAt Go.RowKit
open Go.ChangeMaps (open_string shut_string)
set_option linter.unusedVariables false
set_option maxRecDepth 100000

theorem own : ownKnob Try.prog.godebug = none := by kernel_rfl
theorem laidOut : laidOutB Try.prog = true := by kernel_rfl

theorem early (ps0 pd0 pt0 pn0 : Int) (px0 : ByteArray) (w : World) (h : (600 : Int) < (px0.size : Int)) :
    Calls Try.prog 3 #[.agg #[.int .i64 ps0, .int .i64 pd0, .int .i64 pt0, .int .i64 pn0, .string px0]] w fun e w' => e = .returned (.bool true) ∧ Below w.heap.size w w' := by
  go_enter Try.func3, Try.ntmps3
  go_wp2_with fail
  go_ret
  exact ⟨rfl, (Below.refl _ _).alloc (Nat.le_refl _) _⟩
set_option maxHeartbeats 16000000 in
theorem case_ok (H : Pc) (ps0 pd0 pt0 pn0 : Int) (px0 : ByteArray) (w : World) (h : ¬ (600 : Int) < (px0.size : Int)) (bs : List Int) (K E : Int) (QR : Bool) (hQ : QR = (K == 0)) (r1 r2 r3 r4 : Int) (rx : ByteArray)
    (c1 : ∀ W, Calls Try.prog 8 #[.agg #[.int .i64 ps0, .int .i64 pd0, .int .i64 pt0, .int .i64 pn0, .string px0]] W (RetK W bs K)) (c2 : ∀ W, Calls Try.prog 9 #[.agg #[.int .i64 ps0, .int .i64 pd0, .int .i64 pt0, .int .i64 pn0, .string px0]] W (RetK W bs K))
    (c3 : ∀ W, Calls Try.prog 10 #[.agg #[.int .i64 ps0, .int .i64 pd0, .int .i64 pt0, .int .i64 pn0, .string px0]] W fun e w' => e = .returned (.tuple #[.agg #[.int .i64 r1, .int .i64 r2, .int .i64 r3, .int .i64 r4, .string rx], .int .i64 E]) ∧ Below W.heap.size W w')
    (c4 : ∀ W, Calls Try.prog 11 #[.agg #[.int .i64 ps0, .int .i64 pd0, .int .i64 pt0, .int .i64 pn0, .string px0]] W fun e w' => e = .returned (.tuple #[.agg #[.int .i64 r1, .int .i64 r2, .int .i64 r3, .int .i64 r4, .string rx], .int .i64 E]) ∧ Below W.heap.size W w')
    (cK : ∀ W, Calls Try.prog 13 #[.agg #[.int .i64 ps0, .int .i64 pd0, .int .i64 pt0, .int .i64 pn0, .string px0]] W fun e w' => e = .returned (.int .i64 K) ∧ Below W.heap.size W w')
    (cR : ∀ W, Calls Try.prog 14 #[.agg #[.int .i64 ps0, .int .i64 pd0, .int .i64 pt0, .int .i64 pn0, .string px0]] W fun e w' => e = .returned (.bool QR) ∧ Below W.heap.size W w') :
    Calls Try.prog 3 #[.agg #[.int .i64 ps0, .int .i64 pd0, .int .i64 pt0, .int .i64 pn0, .string px0]] w fun e w' => e = .returned (.bool true) ∧ Below w.heap.size w w' := by
  have C1 := Lib.hid c1
  have C2 := Lib.hid c2
  have C3 := Lib.hid c3
  have C4 := Lib.hid c4
  have HQ := Lib.hid hQ
  have O0 := Lib.hid (ownp_alloc w ps0 pd0 pt0 pn0 px0 23 w.heap.size rfl)
  have HB : Hid (Below w.heap.size w (w.alloc (.cells #[.int .i64 ps0, .int .i64 pd0, .int .i64 pt0, .int .i64 pn0, .string px0] 23))) := (Below.refl _ w).alloc (Nat.le_refl _) _
  clear c1 c2 c3 c4 hQ
  go_enter Try.func3, Try.ntmps3
  go_wp2_with fail
  refine (C1.out _).mono ?_
  rintro e V1 ⟨a1, k1, rfl, hr, hc, hb⟩
  replace O0 := Lib.hid (O0.out.below hb)
  replace HB := Lib.hid (HB.out.trans (hb.mono HB.out.size))
  have R1 := Lib.hid hr
  clear hb hr hc
  obtain ⟨⟨p0, p1, p2, p3, p4⟩, -⟩ := O0.out
  go_wp2_with fail
  refine (C2.out _).mono ?_
  rintro e V2 ⟨a2, k2, rfl, hr, hc, hb⟩
  clear p0 p1 p2 p3 p4
  replace O0 := Lib.hid (O0.out.below hb)
  replace R1 := Lib.hid (Bs_below R1.out hb)
  replace HB := Lib.hid (HB.out.trans (hb.mono HB.out.size))
  have R2 := Lib.hid hr
  clear hb hr hc
  obtain ⟨⟨p0, p1, p2, p3, p4⟩, -⟩ := O0.out
  go_wp2_with fail
  refine (C3.out _).mono ?_
  rintro e V3 ⟨rfl, hb⟩
  clear p0 p1 p2 p3 p4
  replace O0 := Lib.hid (O0.out.below hb)
  replace R1 := Lib.hid (Bs_below R1.out hb)
  replace R2 := Lib.hid (Bs_below R2.out hb)
  replace HB := Lib.hid (HB.out.trans (hb.mono HB.out.size))
  clear hb
  have hal : Below V3.heap.size V3 (V3.alloc (.cells #[.int .i64 r1, .int .i64 r2, .int .i64 r3, .int .i64 r4, .string rx] 23)) := (Below.refl _ V3).alloc (Nat.le_refl _) _
  have O1 := Lib.hid (ownp_alloc V3 r1 r2 r3 r4 rx 23 V3.heap.size rfl)
  replace O0 := Lib.hid (O0.out.below hal)
  replace R1 := Lib.hid (Bs_below R1.out hal)
  replace R2 := Lib.hid (Bs_below R2.out hal)
  replace HB := Lib.hid (HB.out.trans (hal.mono HB.out.size))
  clear hal
  obtain ⟨g1, hg⟩ : ∃ g1, V3.heap.size = g1 := ⟨_, rfl⟩
  obtain ⟨U3, hU⟩ : ∃ U3, V3.alloc (.cells #[.int .i64 r1, .int .i64 r2, .int .i64 r3, .int .i64 r4, .string rx] 23) = U3 := ⟨_, rfl⟩
  rw [hU] at HB O1 O0 R1 R2
  rw [hg] at O1
  obtain ⟨⟨p0, p1, p2, p3, p4⟩, -⟩ := O0.out
  go_wp2_with fail
  clear hU hg
  refine (C4.out _).mono ?_
  rintro e V4 ⟨rfl, hb⟩
  clear p0 p1 p2 p3 p4
  replace O0 := Lib.hid (O0.out.below hb)
  replace R1 := Lib.hid (Bs_below R1.out hb)
  replace R2 := Lib.hid (Bs_below R2.out hb)
  replace O1 := Lib.hid (O1.out.below hb)
  replace HB := Lib.hid (HB.out.trans (hb.mono HB.out.size))
  clear hb
  have hal : Below V4.heap.size V4 (V4.alloc (.cells #[.int .i64 r1, .int .i64 r2, .int .i64 r3, .int .i64 r4, .string rx] 23)) := (Below.refl _ V4).alloc (Nat.le_refl _) _
  have O2 := Lib.hid (ownp_alloc V4 r1 r2 r3 r4 rx 23 V4.heap.size rfl)
  replace O0 := Lib.hid (O0.out.below hal)
  replace R1 := Lib.hid (Bs_below R1.out hal)
  replace R2 := Lib.hid (Bs_below R2.out hal)
  replace O1 := Lib.hid (O1.out.below hal)
  replace HB := Lib.hid (HB.out.trans (hal.mono HB.out.size))
  clear hal
  obtain ⟨g2, hg⟩ : ∃ g2, V4.heap.size = g2 := ⟨_, rfl⟩
  obtain ⟨V9, hU⟩ : ∃ V9, V4.alloc (.cells #[.int .i64 r1, .int .i64 r2, .int .i64 r3, .int .i64 r4, .string rx] 23) = V9 := ⟨_, rfl⟩
  rw [hU] at HB O2 O0 R1 R2 O1
  rw [hg] at O2
  go_wp2_with fail
  clear hU hg
  have kc : ∀ w', Below V9.heap.size V9 w' → (w'.cell? ⟨w.heap.size, 0, none⟩ = some (.int .i64 ps0) ∧ w'.cell? ⟨w.heap.size, 1, none⟩ = some (.int .i64 pd0) ∧ w'.cell? ⟨w.heap.size, 2, none⟩ = some (.int .i64 pt0) ∧ w'.cell? ⟨w.heap.size, 3, none⟩ = some (.int .i64 pn0) ∧ w'.cell? ⟨w.heap.size, 4, none⟩ = some (.string px0)) ∧ (w'.cell? ⟨g1, 0, none⟩ = some (.int .i64 r1) ∧ w'.cell? ⟨g1, 1, none⟩ = some (.int .i64 r2) ∧ w'.cell? ⟨g1, 2, none⟩ = some (.int .i64 r3) ∧ w'.cell? ⟨g1, 3, none⟩ = some (.int .i64 r4) ∧ w'.cell? ⟨g1, 4, none⟩ = some (.string rx)) ∧ (w'.cell? ⟨g2, 0, none⟩ = some (.int .i64 r1) ∧ w'.cell? ⟨g2, 1, none⟩ = some (.int .i64 r2) ∧ w'.cell? ⟨g2, 2, none⟩ = some (.int .i64 r3) ∧ w'.cell? ⟨g2, 3, none⟩ = some (.int .i64 r4) ∧ w'.cell? ⟨g2, 4, none⟩ = some (.string rx)) := fun w' h => ⟨(O0.out.below h).1, (O1.out.below h).1, (O2.out.below h).1⟩
  have hc1 : ∀ w', Below V9.heap.size V9 w' → (convert 24 9 (.slice a1 bs.length k1)).run Try.prog w' = .ok (.string (strOfNums bs)) w' := fun w' h => Bs_conv (Bs_below R1.out h)
  have hc2 : ∀ w', Below V9.heap.size V9 w' → (convert 24 9 (.slice a2 bs.length k2)).run Try.prog w' = .ok (.string (strOfNums bs)) w' := fun w' h => Bs_conv (Bs_below R2.out h)
  have hEq : ∀ w', (binOp .eql 23 (.agg #[.int .i64 r1, .int .i64 r2, .int .i64 r3, .int .i64 r4, .string rx]) (.agg #[.int .i64 r1, .int .i64 r2, .int .i64 r3, .int .i64 r4, .string rx])).run Try.prog w' = .ok (.bool true) w' := fun w' => by rw [eqlPK]; simp [eqK]
  have hQ := HQ.out
  cases QR with
  | true =>
    have hk : K = 0 := by simpa using hQ.symm
    subst hk
    refine wp_region_typed (C := fun w' => Below V9.heap.size V9 w') (X := fun w w' => Below w.heap.size w w') (n := 66) (by kernel_rfl) (by kernel_rfl) rfl (fun w => Below.refl _ w) (Below.refl _ _).drew ?_
    refine w_call (Is _) (fun _ _ _ h _ => h) 12 (.inl rfl) (fun ρ w hC hc hfn hf => by exact ⟨_, by (conv => lhs; simp [execOp, resolve, invoke, go_sem, hc, hfn]), tc_below hC (awake8 H w)⟩) ?_
    refine w_is (fun w => Below.refl _ w) _ (.inl rfl) (fun ρ w hC hc hfn hf => by have e35 : ρ (.tmp 35) = _ := hf 35 (by decide); (conv => lhs; simp [execOp, go_sem, hc, e35])) ?_
    refine w_is (fun w => Below.refl _ w) _ (.inr ⟨1, 36, true, rfl, rfl, known_is rfl⟩) (fun ρ w hC hc hfn hf => by have e1 : ρ (.tmp 1) = _ := hf 1 (by decide); (conv => lhs; simp [execOp, go_sem, hc, e1, kc w hC])) ?_
    refine w_call (Is _) (fun _ _ _ h _ => h) 13 (.inr ⟨1, 36, true, rfl, rfl, known_is rfl⟩) (fun ρ w hC hc hfn hf => by have e37 : ρ (.tmp 37) = _ := hf 37 (by decide); exact ⟨_, by (conv => lhs; simp [execOp, resolve, invoke, go_sem, hc, hfn, e37]), tc_below hC (cK w)⟩) ?_
    refine w_is (fun w => Below.refl _ w) _ (.inr ⟨1, 36, true, rfl, rfl, known_is rfl⟩) (fun ρ w hC hc hfn hf => by have e38 : ρ (.tmp 38) = _ := hf 38 (by decide); (conv => lhs; simp [execOp, go_sem, hc, e38])) ?_
    refine w_is (fun w => Below.refl _ w) _ (.inr ⟨1, 36, true, rfl, rfl, known_is rfl⟩) (fun ρ w hC hc hfn hf => by have e1 : ρ (.tmp 1) = _ := hf 1 (by decide); (conv => lhs; simp [execOp, go_sem, hc, e1, kc w hC])) ?_
    refine w_call (Is _) (fun _ _ _ h _ => h) 14 (.inr ⟨1, 36, true, rfl, rfl, known_is rfl⟩) (fun ρ w hC hc hfn hf => by have e40 : ρ (.tmp 40) = _ := hf 40 (by decide); exact ⟨_, by (conv => lhs; simp [execOp, resolve, invoke, go_sem, hc, hfn, e40]), tc_below hC (cR w)⟩) ?_
    refine w_is (fun w => Below.refl _ w) _ (.inr ⟨1, 36, true, rfl, rfl, known_is rfl⟩) (fun ρ w hC hc hfn hf => by have e39 : ρ (.tmp 39) = _ := hf 39 (by decide); have e41 : ρ (.tmp 41) = _ := hf 41 (by decide); (conv => lhs; simp [execOp, go_sem, hc, e39, e41])) ?_
    refine w_is (fun w => Below.refl _ w) _ (.inl rfl) (fun ρ w hC hc hfn hf => by have e36 : ρ (.tmp 36) = _ := hf 36 (by decide); have e42 : ρ (.tmp 42) = _ := hf 42 (by decide); (conv => lhs; simp [execOp, go_sem, hc, e36, e42])) ?_
    refine w_is (fun w => Below.refl _ w) _ (.inl rfl) (fun ρ w hC hc hfn hf => by have e43 : ρ (.tmp 43) = _ := hf 43 (by decide); (conv => lhs; simp [execOp, go_sem, hc, e43])) ?_
    refine w_is (fun w => Below.refl _ w) _ (.inr ⟨9, 44, true, rfl, rfl, known_is rfl⟩) (fun ρ w hC hc hfn hf => by have e3 : ρ (.tmp 3) = _ := hf 3 (by decide); (conv => lhs; simp [execOp, go_sem, hc, e3])) ?_
    refine w_is (fun w => Below.refl _ w) _ (.inr ⟨9, 44, true, rfl, rfl, known_is rfl⟩) (fun ρ w hC hc hfn hf => by have e45 : ρ (.tmp 45) = _ := hf 45 (by decide); (conv => lhs; simp [execOp, go_sem, hc, e45, hc1 w hC])) ?_
    refine w_is (fun w => Below.refl _ w) _ (.inr ⟨9, 44, true, rfl, rfl, known_is rfl⟩) (fun ρ w hC hc hfn hf => by have e5 : ρ (.tmp 5) = _ := hf 5 (by decide); (conv => lhs; simp [execOp, go_sem, hc, e5])) ?_
    refine w_is (fun w => Below.refl _ w) _ (.inr ⟨9, 44, true, rfl, rfl, known_is rfl⟩) (fun ρ w hC hc hfn hf => by have e47 : ρ (.tmp 47) = _ := hf 47 (by decide); (conv => lhs; simp [execOp, go_sem, hc, e47, hc2 w hC])) ?_
    refine w_is (fun w => Below.refl _ w) _ (.inr ⟨9, 44, true, rfl, rfl, known_is rfl⟩) (fun ρ w hC hc hfn hf => by have e46 : ρ (.tmp 46) = _ := hf 46 (by decide); have e48 : ρ (.tmp 48) = _ := hf 48 (by decide); (conv => lhs; simp [execOp, go_sem, hc, e46, e48])) ?_
    refine w_is (fun w => Below.refl _ w) _ (.inl rfl) (fun ρ w hC hc hfn hf => by have e44 : ρ (.tmp 44) = _ := hf 44 (by decide); have e49 : ρ (.tmp 49) = _ := hf 49 (by decide); (conv => lhs; simp [execOp, go_sem, hc, e44, e49])) ?_
    refine w_is (fun w => Below.refl _ w) _ (.inl rfl) (fun ρ w hC hc hfn hf => by have e50 : ρ (.tmp 50) = _ := hf 50 (by decide); (conv => lhs; simp [execOp, go_sem, hc, e50])) ?_
    refine w_is (fun w => Below.refl _ w) _ (.inr ⟨16, 51, true, rfl, rfl, known_is rfl⟩) (fun ρ w hC hc hfn hf => by have e4 : ρ (.tmp 4) = _ := hf 4 (by decide); (conv => lhs; simp [execOp, go_sem, hc, e4])) ?_
    refine w_is (fun w => Below.refl _ w) _ (.inr ⟨16, 51, true, rfl, rfl, known_is rfl⟩) (fun ρ w hC hc hfn hf => by have e6 : ρ (.tmp 6) = _ := hf 6 (by decide); (conv => lhs; simp [execOp, go_sem, hc, e6])) ?_
    refine w_is (fun w => Below.refl _ w) _ (.inr ⟨16, 51, true, rfl, rfl, known_is rfl⟩) (fun ρ w hC hc hfn hf => by have e52 : ρ (.tmp 52) = _ := hf 52 (by decide); have e53 : ρ (.tmp 53) = _ := hf 53 (by decide); (conv => lhs; simp [execOp, go_sem, hc, e52, e53])) ?_
    refine w_is (fun w => Below.refl _ w) _ (.inl rfl) (fun ρ w hC hc hfn hf => by have e51 : ρ (.tmp 51) = _ := hf 51 (by decide); have e54 : ρ (.tmp 54) = _ := hf 54 (by decide); (conv => lhs; simp [execOp, go_sem, hc, e51, e54])) ?_
    refine w_is (fun w => Below.refl _ w) _ (.inl rfl) (fun ρ w hC hc hfn hf => by have e55 : ρ (.tmp 55) = _ := hf 55 (by decide); (conv => lhs; simp [execOp, go_sem, hc, e55])) ?_
    refine w_is (fun w => Below.refl _ w) _ (.inr ⟨21, 56, true, rfl, rfl, known_is rfl⟩) (fun ρ w hC hc hfn hf => by have e7 : ρ (.tmp 7) = _ := hf 7 (by decide); (conv => lhs; simp [execOp, go_sem, hc, e7, kc w hC])) ?_
    refine w_is (fun w => Below.refl _ w) _ (.inr ⟨21, 56, true, rfl, rfl, known_is rfl⟩) (fun ρ w hC hc hfn hf => by have e9 : ρ (.tmp 9) = _ := hf 9 (by decide); (conv => lhs; simp [execOp, go_sem, hc, e9, kc w hC])) ?_
    refine w_is (fun w => Below.refl _ w) _ (.inr ⟨21, 56, true, rfl, rfl, known_is rfl⟩) (fun ρ w hC hc hfn hf => by have e57 : ρ (.tmp 57) = _ := hf 57 (by decide); have e58 : ρ (.tmp 58) = _ := hf 58 (by decide); (conv => lhs; simp [execOp, go_sem, hc, e57, e58, hEq w, guardPK])) ?_
    refine w_is (fun w => Below.refl _ w) _ (.inl rfl) (fun ρ w hC hc hfn hf => by have e56 : ρ (.tmp 56) = _ := hf 56 (by decide); have e59 : ρ (.tmp 59) = _ := hf 59 (by decide); (conv => lhs; simp [execOp, go_sem, hc, e56, e59])) ?_
    refine w_is (fun w => Below.refl _ w) _ (.inl rfl) (fun ρ w hC hc hfn hf => by have e60 : ρ (.tmp 60) = _ := hf 60 (by decide); (conv => lhs; simp [execOp, go_sem, hc, e60])) ?_
    refine w_is (fun w => Below.refl _ w) _ (.inr ⟨26, 61, true, rfl, rfl, known_is rfl⟩) (fun ρ w hC hc hfn hf => by have e8 : ρ (.tmp 8) = _ := hf 8 (by decide); (conv => lhs; simp [execOp, go_sem, hc, e8])) ?_
    refine w_is (fun w => Below.refl _ w) _ (.inr ⟨26, 61, true, rfl, rfl, known_is rfl⟩) (fun ρ w hC hc hfn hf => by have e10 : ρ (.tmp 10) = _ := hf 10 (by decide); (conv => lhs; simp [execOp, go_sem, hc, e10])) ?_
    refine w_is (fun w => Below.refl _ w) _ (.inr ⟨26, 61, true, rfl, rfl, known_is rfl⟩) (fun ρ w hC hc hfn hf => by have e62 : ρ (.tmp 62) = _ := hf 62 (by decide); have e63 : ρ (.tmp 63) = _ := hf 63 (by decide); (conv => lhs; simp [execOp, go_sem, hc, e62, e63])) ?_
    refine w_is (fun w => Below.refl _ w) _ (.inl rfl) (fun ρ w hC hc hfn hf => by have e61 : ρ (.tmp 61) = _ := hf 61 (by decide); have e64 : ρ (.tmp 64) = _ := hf 64 (by decide); (conv => lhs; simp [execOp, go_sem, hc, e61, e64])) ?_
    refine w_is (fun w => Below.refl _ w) _ (.inl rfl) (fun ρ w hC hc hfn hf => by have e65 : ρ (.tmp 65) = _ := hf 65 (by decide); (conv => lhs; simp [execOp, go_sem, hc, e65])) ?_
    intro A VX hC hn hd hf
    have y0 : A.eval (.tmp 0) = _ := Eq.trans (hf 0) (by conv => lhs; simp [go_sem])
    have y1 : A.eval (.tmp 1) = _ := Eq.trans (hf 1) (by conv => lhs; simp [go_sem])
    have y2 : A.eval (.tmp 2) = _ := hf 2
    have y3 : A.eval (.tmp 3) = _ := Eq.trans (hf 3) (by conv => lhs; simp [go_sem])
    have y4 : A.eval (.tmp 4) = _ := Eq.trans (hf 4) (by conv => lhs; simp [go_sem])
    have y5 : A.eval (.tmp 5) = _ := Eq.trans (hf 5) (by conv => lhs; simp [go_sem])
    have y6 : A.eval (.tmp 6) = _ := Eq.trans (hf 6) (by conv => lhs; simp [go_sem])
    have y7 : A.eval (.tmp 7) = _ := Eq.trans (hf 7) (by conv => lhs; simp [go_sem])
    have y8 : A.eval (.tmp 8) = _ := Eq.trans (hf 8) (by conv => lhs; simp [go_sem])
    have y9 : A.eval (.tmp 9) = _ := Eq.trans (hf 9) (by conv => lhs; simp [go_sem])
    have y10 : A.eval (.tmp 10) = _ := Eq.trans (hf 10) (by conv => lhs; simp [go_sem])
    have y11 : A.eval (.tmp 11) = _ := Eq.trans (hf 11) (by conv => lhs; simp [go_sem])
    have y12 : A.eval (.tmp 12) = _ := Eq.trans (hf 12) (by conv => lhs; simp [go_sem])
    have y13 : A.eval (.tmp 13) = _ := Eq.trans (hf 13) (by conv => lhs; simp [go_sem])
    have y14 : A.eval (.tmp 14) = _ := Eq.trans (hf 14) (by conv => lhs; simp [go_sem])
    have y15 : A.eval (.tmp 15) = _ := Eq.trans (hf 15) (by conv => lhs; simp [go_sem])
    have y16 : A.eval (.tmp 16) = _ := Eq.trans (hf 16) (by conv => lhs; simp [go_sem])
    have y17 : A.eval (.tmp 17) = _ := Eq.trans (hf 17) (by conv => lhs; simp [go_sem])
    have y18 : A.eval (.tmp 18) = _ := Eq.trans (hf 18) (by conv => lhs; simp [go_sem])
    have y19 : A.eval (.tmp 19) = _ := Eq.trans (hf 19) (by conv => lhs; simp [go_sem])
    have y20 : A.eval (.tmp 20) = _ := Eq.trans (hf 20) (by conv => lhs; simp [go_sem])
    have y21 : A.eval (.tmp 21) = _ := Eq.trans (hf 21) (by conv => lhs; simp [go_sem])
    have y22 : A.eval (.tmp 22) = _ := Eq.trans (hf 22) (by conv => lhs; simp [go_sem])
    have y23 : A.eval (.tmp 23) = _ := Eq.trans (hf 23) (by conv => lhs; simp [go_sem])
    have y24 : A.eval (.tmp 24) = _ := Eq.trans (hf 24) (by conv => lhs; simp [go_sem])
    have y25 : A.eval (.tmp 25) = _ := Eq.trans (hf 25) (by conv => lhs; simp [go_sem])
    have y26 : A.eval (.tmp 26) = _ := Eq.trans (hf 26) (by conv => lhs; simp [go_sem])
    have y27 : A.eval (.tmp 27) = _ := Eq.trans (hf 27) (by conv => lhs; simp [go_sem])
    have y28 : A.eval (.tmp 28) = _ := Eq.trans (hf 28) (by conv => lhs; simp [go_sem])
    have y29 : A.eval (.tmp 29) = _ := Eq.trans (hf 29) (by conv => lhs; simp [go_sem])
    have y30 : A.eval (.tmp 30) = _ := Eq.trans (hf 30) (by conv => lhs; simp [go_sem])
    have y31 : A.eval (.tmp 31) = _ := Eq.trans (hf 31) (by conv => lhs; simp [go_sem])
    have y32 : A.eval (.tmp 32) = _ := Eq.trans (hf 32) (by conv => lhs; simp [go_sem])
    have y33 : A.eval (.tmp 33) = _ := Eq.trans (hf 33) (by conv => lhs; simp [go_sem])
    have y34 : A.eval (.tmp 34) = _ := Eq.trans (hf 34) (by conv => lhs; simp [go_sem])
    have y35 : A.eval (.tmp 35) = _ := hf 35
    have y36 : A.eval (.tmp 36) = _ := hf 36
    have y37 : A.eval (.tmp 37) = _ := hf 37
    have y38 : A.eval (.tmp 38) = _ := hf 38
    have y39 : A.eval (.tmp 39) = _ := hf 39
    have y40 : A.eval (.tmp 40) = _ := hf 40
    have y41 : A.eval (.tmp 41) = _ := hf 41
    have y42 : A.eval (.tmp 42) = _ := hf 42
    have y43 : A.eval (.tmp 43) = _ := hf 43
    have y44 : A.eval (.tmp 44) = _ := hf 44
    have y45 : A.eval (.tmp 45) = _ := hf 45
    have y46 : A.eval (.tmp 46) = _ := hf 46
    have y47 : A.eval (.tmp 47) = _ := hf 47
    have y48 : A.eval (.tmp 48) = _ := hf 48
    have y49 : A.eval (.tmp 49) = _ := hf 49
    have y50 : A.eval (.tmp 50) = _ := hf 50
    have y51 : A.eval (.tmp 51) = _ := hf 51
    have y52 : A.eval (.tmp 52) = _ := hf 52
    have y53 : A.eval (.tmp 53) = _ := hf 53
    have y54 : A.eval (.tmp 54) = _ := hf 54
    have y55 : A.eval (.tmp 55) = _ := hf 55
    have y56 : A.eval (.tmp 56) = _ := hf 56
    have y57 : A.eval (.tmp 57) = _ := hf 57
    have y58 : A.eval (.tmp 58) = _ := hf 58
    have y59 : A.eval (.tmp 59) = _ := hf 59
    have y60 : A.eval (.tmp 60) = _ := hf 60
    have y61 : A.eval (.tmp 61) = _ := hf 61
    have y62 : A.eval (.tmp 62) = _ := hf 62
    have y63 : A.eval (.tmp 63) = _ := hf 63
    have y64 : A.eval (.tmp 64) = _ := hf 64
    have y65 : A.eval (.tmp 65) = _ := hf 65
    clear hf
    have hA := frame_eq hn
    rw [show List.range 66 = [0, 1, 2, 3, 4, 5, 6, 7, 8, 9, 10, 11, 12, 13, 14, 15, 16, 17, 18, 19, 20, 21, 22, 23, 24, 25, 26, 27, 28, 29, 30, 31, 32, 33, 34, 35, 36, 37, 38, 39, 40, 41, 42, 43, 44, 45, 46, 47, 48, 49, 50, 51, 52, 53, 54, 55, 56, 57, 58, 59, 60, 61, 62, 63, 64, 65] from rfl, hd] at hA
    simp only [List.map_cons, List.map_nil, y0, y1, y2, y3, y4, y5, y6, y7, y8, y9, y10, y11, y12, y13, y14, y15, y16, y17, y18, y19, y20, y21, y22, y23, y24, y25, y26, y27, y28, y29, y30, y31, y32, y33, y34, y35, y36, y37, y38, y39, y40, y41, y42, y43, y44, y45, y46, y47, y48, y49, y50, y51, y52, y53, y54, y55, y56, y57, y58, y59, y60, y61, y62, y63, y64, y65] at hA
    clear y0 y1 y2 y3 y4 y5 y6 y7 y8 y9 y10 y11 y12 y13 y14 y15 y16 y17 y18 y19 y20 y21 y22 y23 y24 y25 y26 y27 y28 y29 y30 y31 y32 y33 y34 y35 y36 y37 y38 y39 y40 y41 y42 y43 y44 y45 y46 y47 y48 y49 y50 y51 y52 y53 y54 y55 y56 y57 y58 y59 y60 y61 y62 y63 y64 y65
    clear hn hd
    subst hA
    go_wp2_with fail
    go_ret
    exact ⟨rfl, HB.out.trans (hC.mono HB.out.size)⟩
  | false =>
    have hk : (K == 0) = false := hQ.symm
    refine wp_region_typed (C := fun w' => Below V9.heap.size V9 w') (X := fun w w' => Below w.heap.size w w') (n := 66) (by kernel_rfl) (by kernel_rfl) rfl (fun w => Below.refl _ w) (Below.refl _ _).drew ?_
    refine w_call (Is _) (fun _ _ _ h _ => h) 12 (.inl rfl) (fun ρ w hC hc hfn hf => by exact ⟨_, by (conv => lhs; simp [execOp, resolve, invoke, go_sem, hc, hfn]), tc_below hC (awake8 H w)⟩) ?_
    refine w_is (fun w => Below.refl _ w) _ (.inl rfl) (fun ρ w hC hc hfn hf => by have e35 : ρ (.tmp 35) = _ := hf 35 (by decide); (conv => lhs; simp [execOp, go_sem, hc, e35])) ?_
    refine w_is (fun w => Below.refl _ w) _ (.inr ⟨1, 36, true, rfl, rfl, known_is rfl⟩) (fun ρ w hC hc hfn hf => by have e1 : ρ (.tmp 1) = _ := hf 1 (by decide); (conv => lhs; simp [execOp, go_sem, hc, e1, kc w hC])) ?_
    refine w_call (Is _) (fun _ _ _ h _ => h) 13 (.inr ⟨1, 36, true, rfl, rfl, known_is rfl⟩) (fun ρ w hC hc hfn hf => by have e37 : ρ (.tmp 37) = _ := hf 37 (by decide); exact ⟨_, by (conv => lhs; simp [execOp, resolve, invoke, go_sem, hc, hfn, e37]), tc_below hC (cK w)⟩) ?_
    refine w_is (fun w => Below.refl _ w) _ (.inr ⟨1, 36, true, rfl, rfl, known_is rfl⟩) (fun ρ w hC hc hfn hf => by have e38 : ρ (.tmp 38) = _ := hf 38 (by decide); (conv => lhs; simp [execOp, go_sem, hc, e38, hk])) ?_
    refine w_is (fun w => Below.refl _ w) _ (.inr ⟨1, 36, true, rfl, rfl, known_is rfl⟩) (fun ρ w hC hc hfn hf => by have e1 : ρ (.tmp 1) = _ := hf 1 (by decide); (conv => lhs; simp [execOp, go_sem, hc, e1, kc w hC])) ?_
    refine w_call (Is _) (fun _ _ _ h _ => h) 14 (.inr ⟨1, 36, true, rfl, rfl, known_is rfl⟩) (fun ρ w hC hc hfn hf => by have e40 : ρ (.tmp 40) = _ := hf 40 (by decide); exact ⟨_, by (conv => lhs; simp [execOp, resolve, invoke, go_sem, hc, hfn, e40]), tc_below hC (cR w)⟩) ?_
    refine w_is (fun w => Below.refl _ w) _ (.inr ⟨1, 36, true, rfl, rfl, known_is rfl⟩) (fun ρ w hC hc hfn hf => by have e39 : ρ (.tmp 39) = _ := hf 39 (by decide); have e41 : ρ (.tmp 41) = _ := hf 41 (by decide); (conv => lhs; simp [execOp, go_sem, hc, e39, e41])) ?_
    refine w_is (fun w => Below.refl _ w) _ (.inl rfl) (fun ρ w hC hc hfn hf => by have e36 : ρ (.tmp 36) = _ := hf 36 (by decide); have e42 : ρ (.tmp 42) = _ := hf 42 (by decide); (conv => lhs; simp [execOp, go_sem, hc, e36, e42])) ?_
    refine w_is (fun w => Below.refl _ w) _ (.inl rfl) (fun ρ w hC hc hfn hf => by have e43 : ρ (.tmp 43) = _ := hf 43 (by decide); (conv => lhs; simp [execOp, go_sem, hc, e43])) ?_
    refine w_is (fun w => Below.refl _ w) _ (.inr ⟨9, 44, true, rfl, rfl, known_is rfl⟩) (fun ρ w hC hc hfn hf => by have e3 : ρ (.tmp 3) = _ := hf 3 (by decide); (conv => lhs; simp [execOp, go_sem, hc, e3])) ?_
    refine w_is (fun w => Below.refl _ w) _ (.inr ⟨9, 44, true, rfl, rfl, known_is rfl⟩) (fun ρ w hC hc hfn hf => by have e45 : ρ (.tmp 45) = _ := hf 45 (by decide); (conv => lhs; simp [execOp, go_sem, hc, e45, hc1 w hC])) ?_
    refine w_is (fun w => Below.refl _ w) _ (.inr ⟨9, 44, true, rfl, rfl, known_is rfl⟩) (fun ρ w hC hc hfn hf => by have e5 : ρ (.tmp 5) = _ := hf 5 (by decide); (conv => lhs; simp [execOp, go_sem, hc, e5])) ?_
    refine w_is (fun w => Below.refl _ w) _ (.inr ⟨9, 44, true, rfl, rfl, known_is rfl⟩) (fun ρ w hC hc hfn hf => by have e47 : ρ (.tmp 47) = _ := hf 47 (by decide); (conv => lhs; simp [execOp, go_sem, hc, e47, hc2 w hC])) ?_
    refine w_is (fun w => Below.refl _ w) _ (.inr ⟨9, 44, true, rfl, rfl, known_is rfl⟩) (fun ρ w hC hc hfn hf => by have e46 : ρ (.tmp 46) = _ := hf 46 (by decide); have e48 : ρ (.tmp 48) = _ := hf 48 (by decide); (conv => lhs; simp [execOp, go_sem, hc, e46, e48])) ?_
    refine w_is (fun w => Below.refl _ w) _ (.inl rfl) (fun ρ w hC hc hfn hf => by have e44 : ρ (.tmp 44) = _ := hf 44 (by decide); have e49 : ρ (.tmp 49) = _ := hf 49 (by decide); (conv => lhs; simp [execOp, go_sem, hc, e44, e49])) ?_
    refine w_is (fun w => Below.refl _ w) _ (.inl rfl) (fun ρ w hC hc hfn hf => by have e50 : ρ (.tmp 50) = _ := hf 50 (by decide); (conv => lhs; simp [execOp, go_sem, hc, e50])) ?_
    refine w_is (fun w => Below.refl _ w) _ (.inr ⟨16, 51, true, rfl, rfl, known_is rfl⟩) (fun ρ w hC hc hfn hf => by have e4 : ρ (.tmp 4) = _ := hf 4 (by decide); (conv => lhs; simp [execOp, go_sem, hc, e4])) ?_
    refine w_is (fun w => Below.refl _ w) _ (.inr ⟨16, 51, true, rfl, rfl, known_is rfl⟩) (fun ρ w hC hc hfn hf => by have e6 : ρ (.tmp 6) = _ := hf 6 (by decide); (conv => lhs; simp [execOp, go_sem, hc, e6])) ?_
    refine w_is (fun w => Below.refl _ w) _ (.inr ⟨16, 51, true, rfl, rfl, known_is rfl⟩) (fun ρ w hC hc hfn hf => by have e52 : ρ (.tmp 52) = _ := hf 52 (by decide); have e53 : ρ (.tmp 53) = _ := hf 53 (by decide); (conv => lhs; simp [execOp, go_sem, hc, e52, e53])) ?_
    refine w_is (fun w => Below.refl _ w) _ (.inl rfl) (fun ρ w hC hc hfn hf => by have e51 : ρ (.tmp 51) = _ := hf 51 (by decide); have e54 : ρ (.tmp 54) = _ := hf 54 (by decide); (conv => lhs; simp [execOp, go_sem, hc, e51, e54])) ?_
    refine w_is (fun w => Below.refl _ w) _ (.inl rfl) (fun ρ w hC hc hfn hf => by have e55 : ρ (.tmp 55) = _ := hf 55 (by decide); (conv => lhs; simp [execOp, go_sem, hc, e55])) ?_
    refine w_is (fun w => Below.refl _ w) _ (.inr ⟨21, 56, true, rfl, rfl, known_is rfl⟩) (fun ρ w hC hc hfn hf => by have e7 : ρ (.tmp 7) = _ := hf 7 (by decide); (conv => lhs; simp [execOp, go_sem, hc, e7, kc w hC])) ?_
    refine w_is (fun w => Below.refl _ w) _ (.inr ⟨21, 56, true, rfl, rfl, known_is rfl⟩) (fun ρ w hC hc hfn hf => by have e9 : ρ (.tmp 9) = _ := hf 9 (by decide); (conv => lhs; simp [execOp, go_sem, hc, e9, kc w hC])) ?_
    refine w_is (fun w => Below.refl _ w) _ (.inr ⟨21, 56, true, rfl, rfl, known_is rfl⟩) (fun ρ w hC hc hfn hf => by have e57 : ρ (.tmp 57) = _ := hf 57 (by decide); have e58 : ρ (.tmp 58) = _ := hf 58 (by decide); (conv => lhs; simp [execOp, go_sem, hc, e57, e58, hEq w, guardPK])) ?_
    refine w_is (fun w => Below.refl _ w) _ (.inl rfl) (fun ρ w hC hc hfn hf => by have e56 : ρ (.tmp 56) = _ := hf 56 (by decide); have e59 : ρ (.tmp 59) = _ := hf 59 (by decide); (conv => lhs; simp [execOp, go_sem, hc, e56, e59])) ?_
    refine w_is (fun w => Below.refl _ w) _ (.inl rfl) (fun ρ w hC hc hfn hf => by have e60 : ρ (.tmp 60) = _ := hf 60 (by decide); (conv => lhs; simp [execOp, go_sem, hc, e60])) ?_
    refine w_is (fun w => Below.refl _ w) _ (.inr ⟨26, 61, true, rfl, rfl, known_is rfl⟩) (fun ρ w hC hc hfn hf => by have e8 : ρ (.tmp 8) = _ := hf 8 (by decide); (conv => lhs; simp [execOp, go_sem, hc, e8])) ?_
    refine w_is (fun w => Below.refl _ w) _ (.inr ⟨26, 61, true, rfl, rfl, known_is rfl⟩) (fun ρ w hC hc hfn hf => by have e10 : ρ (.tmp 10) = _ := hf 10 (by decide); (conv => lhs; simp [execOp, go_sem, hc, e10])) ?_
    refine w_is (fun w => Below.refl _ w) _ (.inr ⟨26, 61, true, rfl, rfl, known_is rfl⟩) (fun ρ w hC hc hfn hf => by have e62 : ρ (.tmp 62) = _ := hf 62 (by decide); have e63 : ρ (.tmp 63) = _ := hf 63 (by decide); (conv => lhs; simp [execOp, go_sem, hc, e62, e63])) ?_
    refine w_is (fun w => Below.refl _ w) _ (.inl rfl) (fun ρ w hC hc hfn hf => by have e61 : ρ (.tmp 61) = _ := hf 61 (by decide); have e64 : ρ (.tmp 64) = _ := hf 64 (by decide); (conv => lhs; simp [execOp, go_sem, hc, e61, e64])) ?_
    refine w_is (fun w => Below.refl _ w) _ (.inl rfl) (fun ρ w hC hc hfn hf => by have e65 : ρ (.tmp 65) = _ := hf 65 (by decide); (conv => lhs; simp [execOp, go_sem, hc, e65])) ?_
    intro A VX hC hn hd hf
    have y0 : A.eval (.tmp 0) = _ := Eq.trans (hf 0) (by conv => lhs; simp [go_sem])
    have y1 : A.eval (.tmp 1) = _ := Eq.trans (hf 1) (by conv => lhs; simp [go_sem])
    have y2 : A.eval (.tmp 2) = _ := hf 2
    have y3 : A.eval (.tmp 3) = _ := Eq.trans (hf 3) (by conv => lhs; simp [go_sem])
    have y4 : A.eval (.tmp 4) = _ := Eq.trans (hf 4) (by conv => lhs; simp [go_sem])
    have y5 : A.eval (.tmp 5) = _ := Eq.trans (hf 5) (by conv => lhs; simp [go_sem])
    have y6 : A.eval (.tmp 6) = _ := Eq.trans (hf 6) (by conv => lhs; simp [go_sem])
    have y7 : A.eval (.tmp 7) = _ := Eq.trans (hf 7) (by conv => lhs; simp [go_sem])
    have y8 : A.eval (.tmp 8) = _ := Eq.trans (hf 8) (by conv => lhs; simp [go_sem])
    have y9 : A.eval (.tmp 9) = _ := Eq.trans (hf 9) (by conv => lhs; simp [go_sem])
    have y10 : A.eval (.tmp 10) = _ := Eq.trans (hf 10) (by conv => lhs; simp [go_sem])
    have y11 : A.eval (.tmp 11) = _ := Eq.trans (hf 11) (by conv => lhs; simp [go_sem])
    have y12 : A.eval (.tmp 12) = _ := Eq.trans (hf 12) (by conv => lhs; simp [go_sem])
    have y13 : A.eval (.tmp 13) = _ := Eq.trans (hf 13) (by conv => lhs; simp [go_sem])
    have y14 : A.eval (.tmp 14) = _ := Eq.trans (hf 14) (by conv => lhs; simp [go_sem])
    have y15 : A.eval (.tmp 15) = _ := Eq.trans (hf 15) (by conv => lhs; simp [go_sem])
    have y16 : A.eval (.tmp 16) = _ := Eq.trans (hf 16) (by conv => lhs; simp [go_sem])
    have y17 : A.eval (.tmp 17) = _ := Eq.trans (hf 17) (by conv => lhs; simp [go_sem])
    have y18 : A.eval (.tmp 18) = _ := Eq.trans (hf 18) (by conv => lhs; simp [go_sem])
    have y19 : A.eval (.tmp 19) = _ := Eq.trans (hf 19) (by conv => lhs; simp [go_sem])
    have y20 : A.eval (.tmp 20) = _ := Eq.trans (hf 20) (by conv => lhs; simp [go_sem])
    have y21 : A.eval (.tmp 21) = _ := Eq.trans (hf 21) (by conv => lhs; simp [go_sem])
    have y22 : A.eval (.tmp 22) = _ := Eq.trans (hf 22) (by conv => lhs; simp [go_sem])
    have y23 : A.eval (.tmp 23) = _ := Eq.trans (hf 23) (by conv => lhs; simp [go_sem])
    have y24 : A.eval (.tmp 24) = _ := Eq.trans (hf 24) (by conv => lhs; simp [go_sem])
    have y25 : A.eval (.tmp 25) = _ := Eq.trans (hf 25) (by conv => lhs; simp [go_sem])
    have y26 : A.eval (.tmp 26) = _ := Eq.trans (hf 26) (by conv => lhs; simp [go_sem])
    have y27 : A.eval (.tmp 27) = _ := Eq.trans (hf 27) (by conv => lhs; simp [go_sem])
    have y28 : A.eval (.tmp 28) = _ := Eq.trans (hf 28) (by conv => lhs; simp [go_sem])
    have y29 : A.eval (.tmp 29) = _ := Eq.trans (hf 29) (by conv => lhs; simp [go_sem])
    have y30 : A.eval (.tmp 30) = _ := Eq.trans (hf 30) (by conv => lhs; simp [go_sem])
    have y31 : A.eval (.tmp 31) = _ := Eq.trans (hf 31) (by conv => lhs; simp [go_sem])
    have y32 : A.eval (.tmp 32) = _ := Eq.trans (hf 32) (by conv => lhs; simp [go_sem])
    have y33 : A.eval (.tmp 33) = _ := Eq.trans (hf 33) (by conv => lhs; simp [go_sem])
    have y34 : A.eval (.tmp 34) = _ := Eq.trans (hf 34) (by conv => lhs; simp [go_sem])
    have y35 : A.eval (.tmp 35) = _ := hf 35
    have y36 : A.eval (.tmp 36) = _ := hf 36
    have y37 : A.eval (.tmp 37) = _ := hf 37
    have y38 : A.eval (.tmp 38) = _ := hf 38
    have y39 : A.eval (.tmp 39) = _ := hf 39
    have y40 : A.eval (.tmp 40) = _ := hf 40
    have y41 : A.eval (.tmp 41) = _ := hf 41
    have y42 : A.eval (.tmp 42) = _ := hf 42
    have y43 : A.eval (.tmp 43) = _ := hf 43
    have y44 : A.eval (.tmp 44) = _ := hf 44
    have y45 : A.eval (.tmp 45) = _ := hf 45
    have y46 : A.eval (.tmp 46) = _ := hf 46
    have y47 : A.eval (.tmp 47) = _ := hf 47
    have y48 : A.eval (.tmp 48) = _ := hf 48
    have y49 : A.eval (.tmp 49) = _ := hf 49
    have y50 : A.eval (.tmp 50) = _ := hf 50
    have y51 : A.eval (.tmp 51) = _ := hf 51
    have y52 : A.eval (.tmp 52) = _ := hf 52
    have y53 : A.eval (.tmp 53) = _ := hf 53
    have y54 : A.eval (.tmp 54) = _ := hf 54
    have y55 : A.eval (.tmp 55) = _ := hf 55
    have y56 : A.eval (.tmp 56) = _ := hf 56
    have y57 : A.eval (.tmp 57) = _ := hf 57
    have y58 : A.eval (.tmp 58) = _ := hf 58
    have y59 : A.eval (.tmp 59) = _ := hf 59
    have y60 : A.eval (.tmp 60) = _ := hf 60
    have y61 : A.eval (.tmp 61) = _ := hf 61
    have y62 : A.eval (.tmp 62) = _ := hf 62
    have y63 : A.eval (.tmp 63) = _ := hf 63
    have y64 : A.eval (.tmp 64) = _ := hf 64
    have y65 : A.eval (.tmp 65) = _ := hf 65
    clear hf
    have hA := frame_eq hn
    rw [show List.range 66 = [0, 1, 2, 3, 4, 5, 6, 7, 8, 9, 10, 11, 12, 13, 14, 15, 16, 17, 18, 19, 20, 21, 22, 23, 24, 25, 26, 27, 28, 29, 30, 31, 32, 33, 34, 35, 36, 37, 38, 39, 40, 41, 42, 43, 44, 45, 46, 47, 48, 49, 50, 51, 52, 53, 54, 55, 56, 57, 58, 59, 60, 61, 62, 63, 64, 65] from rfl, hd] at hA
    simp only [List.map_cons, List.map_nil, y0, y1, y2, y3, y4, y5, y6, y7, y8, y9, y10, y11, y12, y13, y14, y15, y16, y17, y18, y19, y20, y21, y22, y23, y24, y25, y26, y27, y28, y29, y30, y31, y32, y33, y34, y35, y36, y37, y38, y39, y40, y41, y42, y43, y44, y45, y46, y47, y48, y49, y50, y51, y52, y53, y54, y55, y56, y57, y58, y59, y60, y61, y62, y63, y64, y65] at hA
    clear y0 y1 y2 y3 y4 y5 y6 y7 y8 y9 y10 y11 y12 y13 y14 y15 y16 y17 y18 y19 y20 y21 y22 y23 y24 y25 y26 y27 y28 y29 y30 y31 y32 y33 y34 y35 y36 y37 y38 y39 y40 y41 y42 y43 y44 y45 y46 y47 y48 y49 y50 y51 y52 y53 y54 y55 y56 y57 y58 y59 y60 y61 y62 y63 y64 y65
    clear hn hd
    subst hA
    go_wp2_with fail
    go_ret
    exact ⟨rfl, HB.out.trans (hC.mono HB.out.size)⟩
theorem walk (H : Pc) (ps0 pd0 pt0 pn0 : Int) (px0 : ByteArray) (w : World) :
    Calls Try.prog 3 #[.agg #[.int .i64 ps0, .int .i64 pd0, .int .i64 pt0, .int .i64 pn0, .string px0]] w fun e w' => e = .returned (.bool true) ∧ Below w.heap.size w w' := by
  by_cases h : (600 : Int) < (px0.size : Int)
  · exact early ps0 pd0 pt0 pn0 px0 w h
  · refine case_ok H ps0 pd0 pt0 pn0 px0 w h (byP ps0 pd0 pt0 pn0 px0) (kP ps0 pd0 pt0 pn0 px0) (hopE ps0 pd0 pt0 pn0 px0) (decide (PkOk ps0 pd0 pt0 pn0 px0)) ?_ _ _ _ _ _
      (fun W => H.byt ps0 pd0 pt0 pn0 px0 W (by omega)) (fun W => rpbytes_fix ps0 pd0 pt0 pn0 px0 W) (fun W => H.hop ps0 pd0 pt0 pn0 px0 W) (fun W => rhop_any ps0 pd0 pt0 pn0 px0 W) (fun W => H.chk ps0 pd0 pt0 pn0 px0 W) (fun W => rpright_dec ps0 pd0 pt0 pn0 px0 W)
    unfold kP
    by_cases hq : PkOk ps0 pd0 pt0 pn0 px0
    · rw [if_pos hq, decide_eq_true hq]; rfl
    · rw [if_neg hq, decide_eq_false hq]; rfl

set_option maxRecDepth 100000 in
theorem lifted (os : _root_.Go.Os) (started : os.Started) (H : Type) (enc : TypeId × Value → H) :
    ReturnsInHanded {} Try.checked os 3 .any (Rows.packetDoesSpec.pre6 enc Try.prog Try.f3 Rows.packetDoesRow.domain false) (Rows.packetDoesSpec.post enc Try.prog Try.f3 false true false false) := by
  refine returnsInHanded_of_change (C := Try.checked) own started (by kernel_rfl) Try.func3
    (ChangeSpec.witness6 (enc := enc) (C := Try.checked) false ⟨#[], #[.agg #[.int .i64 0, .int .i64 0, .int .i64 0, .int .i64 0, .string ⟨#[]⟩]], []⟩ 16 (by kernel_rfl) (by kernel_rfl) (by kernel_rfl) (by kernel_rfl)) ?_
  intro W base args ds gs before hval0 hW hcnd _
  have hval : ∀ (j : Nat) t v, Try.f3.params[j]? = some t → args[j]? = some v → Value.okWide Try.prog W .any base t v := hval0
  have hW' := hW
  obtain ⟨p, q, hA0, hV, rfl, hfz, hnd⟩ := hW
  have hA : DataW.TrodAll enc Try.prog W 0 (fun _ => true) true Try.f3.params.toList args.toList ds p := hA0
  rw [Try.params3] at hA hval
  obtain ⟨v0, vs0, e0, ds0, p0, q0, hargs, rfl, rfl, h0, x0⟩ := trodAll_cons hA
  obtain ⟨rfl, rfl, rfl⟩ := trodAll_nil x0
  obtain rfl : args = #[v0] := by cases args; simp_all
  obtain ⟨rfl, rfl⟩ := trodVars_none hV
  have k0 := h0
  have lt0 : ∀ x ∈ p0, x.block < W.heap.size := by obtain ⟨m, hm⟩ := k0; exact DataW.trod_lt m _ _ _ hm
  obtain ⟨ps0, pd0, pt0, pn0, px0, rfl, _, _⟩ := pk_form (hval 0 23 v0 rfl rfl) h0
  clear hA0 hval0
  refine (walk pc ps0 pd0 pt0 pn0 px0 W).mono fun e W' ⟨he, bel⟩ => ?_
  subst he
  exact ⟨_, rfl, _, _, _, [], _, [], hW', trodAll_mk1 (shut_bool Try.underlying4 _), (trodAll_cons_mk (Below.trod laidOut (by kernel_rfl) (of_decide_eq_true (by kernel_rfl)) k0 bel lt0) trodAll_mk0), rfl, bel.frame _, fun h => by cases h⟩

theorem over : Rows.packetDoesRow.holds Try.pinned (OpenSpec.ofChange Rows.packetDoesSpec) :=
  OpenClaim.holds_of_wide 3 Try.f3 rfl rfl rfl rfl rfl rfl rfl ⟨rfl, rfl, rfl, rfl, rfl⟩ rfl rfl rfl rfl rfl (by kernel_rfl) Try.func3 (by kernel_rfl)
    (of_decide_eq_true (by kernel_rfl)) (by unfold Func.isWrapper; first | (rw [if_pos (by decide +kernel)]; kernel_rfl) | (rw [if_neg (by decide +kernel)]; exact ⟨rfl, rfl⟩))
    (fun os started H enc _ => lifted os started H enc)

theorem proved : Rows.PacketDoesSaid := over
#print axioms proved
end Go.Proofs.Yteleedpiadcfjaa.packetDoes
