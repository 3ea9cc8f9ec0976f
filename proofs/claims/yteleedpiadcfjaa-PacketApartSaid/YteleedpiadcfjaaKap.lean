/- thalweglaw08.PacketApart: for any two packets the law answers true: no bytes begin those of another one; no condition. -/
import Derived.Test.YteleedpiadcfjaaPkf
import Derived.Test.YteleedpiadcfjaaTyp2
import Derived.Test.YteleedpiadcfjaaPkg
import Derived.WalkLawsBesides
import Derived.WalkKit
import Derived.ProofKit
import Derived.OpenShut
import Derived.ShutString
import Derived.ChangeOld
import Derived.Below
namespace Go.Proofs.Yteleedpiadcfjaa.packetApart
open Go.ChangeShapes Go.WideShapes Go.ChangeAt Go.RowKit
open Go.ChangeMaps (open_string shut_string)
set_option linter.unusedVariables false
set_option maxRecDepth 100000

theorem own : ownKnob Try.prog.godebug = none := by kernel_rfl
theorem laidOut : laidOutB Try.prog = true := by kernel_rfl

theorem bs_take {w : World} {b o p T : Nat} {m : List Int} (h : Bs w (.slice (some ⟨b, o, none⟩) m.length p) m) (hT : T ≤ m.length) (h0 : 0 < T) : Bs w (.slice (some ⟨b, o, none⟩) T p) (m.take T) := by
  obtain ⟨h1, h2, ⟨a, cap, hv, -, rfl⟩ | ⟨b', o', cap, hv, hc, hcell⟩⟩ := h
  · simp at hT; omega
  · simp only [Value.slice.injEq, Option.some.injEq, Addr.mk.injEq, and_true, true_and] at hv
    obtain ⟨⟨rfl, rfl⟩, rfl⟩ := hv
    have hl : (m.take T).length = T := by rw [List.length_take]; omega
    refine ⟨fun x hx => h1 x (List.take_subset _ _ hx), by omega, .inr ⟨b, o, p, by rw [hl], by omega, fun i hi => ?_⟩⟩
    rw [hcell i (by omega)]
    rw [hl] at hi
    simp [List.getD, hi]

theorem early (ps0 pd0 pt0 pn0 : Int) (px0 : ByteArray) (ps1 pd1 pt1 pn1 : Int) (px1 : ByteArray) (w : World) (h : ¬ (px0.size ≤ 600 ∧ px1.size ≤ 600)) :
    Calls Try.prog 7 #[.agg #[.int .i64 ps0, .int .i64 pd0, .int .i64 pt0, .int .i64 pn0, .string px0], .agg #[.int .i64 ps1, .int .i64 pd1, .int .i64 pt1, .int .i64 pn1, .string px1]] w fun e w' => e = .returned (.bool true) ∧ Below w.heap.size w w' := by
  by_cases h1 : (600 : Int) < (px0.size : Int)
  · go_enter Try.func7, Try.ntmps7
    go_wp2_with fail
    go_ret
    exact ⟨rfl, ((Below.refl _ _).alloc (Nat.le_refl _) _).alloc (by simp) _⟩
  · have h2 : (600 : Int) < (px1.size : Int) := by omega
    have hq : ∀ O, ((w.alloc O).alloc (.cells #[.int .i64 ps1, .int .i64 pd1, .int .i64 pt1, .int .i64 pn1, .string px1] 23)).cell? ⟨w.heap.size + 1, 4, none⟩ = some (.string px1) := fun O => (ownp_alloc (w.alloc O) ps1 pd1 pt1 pn1 px1 23 (w.heap.size + 1) (by simp)).1.2.2.2.2
    go_enter Try.func7, Try.ntmps7
    go_wp2_with fail
    go_ret
    exact ⟨rfl, ((Below.refl _ _).alloc (Nat.le_refl _) _).alloc (by simp) _⟩

theorem case_no (H : Pc) (ps0 pd0 pt0 pn0 : Int) (px0 : ByteArray) (ps1 pd1 pt1 pn1 : Int) (px1 : ByteArray) (w : World) (h : px0.size ≤ 600 ∧ px1.size ≤ 600) (bs cs : List Int) (K J : Int) (hno : K = 1 ∧ (J = 0 ∨ J = 1) ∨ K = 0 ∧ J = 1)
    (c1 : ∀ W, Calls Try.prog 8 #[.agg #[.int .i64 ps0, .int .i64 pd0, .int .i64 pt0, .int .i64 pn0, .string px0]] W (RetK W bs K)) (c2 : ∀ W, Calls Try.prog 8 #[.agg #[.int .i64 ps1, .int .i64 pd1, .int .i64 pt1, .int .i64 pn1, .string px1]] W (RetK W cs J)) :
    Calls Try.prog 7 #[.agg #[.int .i64 ps0, .int .i64 pd0, .int .i64 pt0, .int .i64 pn0, .string px0], .agg #[.int .i64 ps1, .int .i64 pd1, .int .i64 pt1, .int .i64 pn1, .string px1]] w fun e w' => e = .returned (.bool true) ∧ Below w.heap.size w w' := by
  have h1 : ¬ (600 : Int) < (px0.size : Int) := by omega
  have h2 : ¬ (600 : Int) < (px1.size : Int) := by omega
  have O0 := Lib.hid ((ownp_alloc w ps0 pd0 pt0 pn0 px0 23 w.heap.size rfl).below ((Below.refl _ _).alloc (Nat.le_refl _) (.cells #[.int .i64 ps1, .int .i64 pd1, .int .i64 pt1, .int .i64 pn1, .string px1] 23)))
  have O1 := Lib.hid (ownp_alloc (w.alloc (.cells #[.int .i64 ps0, .int .i64 pd0, .int .i64 pt0, .int .i64 pn0, .string px0] 23)) ps1 pd1 pt1 pn1 px1 23 (w.heap.size + 1) (by simp))
  have HB : Hid (Below w.heap.size w ((w.alloc (.cells #[.int .i64 ps0, .int .i64 pd0, .int .i64 pt0, .int .i64 pn0, .string px0] 23)).alloc (.cells #[.int .i64 ps1, .int .i64 pd1, .int .i64 pt1, .int .i64 pn1, .string px1] 23))) := ((Below.refl _ w).alloc (Nat.le_refl _) _).alloc (by simp) _
  obtain ⟨⟨p0, p1, p2, p3, p4⟩, -⟩ := O0.out
  obtain ⟨⟨q0, q1, q2, q3, q4⟩, -⟩ := O1.out
  go_enter Try.func7, Try.ntmps7
  go_wp2_with fail
  refine (c1 _).mono ?_
  rintro e V1 ⟨a1, k1, rfl, hr, hc, hb⟩
  clear p0 p1 p2 p3 p4 q0 q1 q2 q3 q4
  replace O0 := Lib.hid (O0.out.below hb)
  replace O1 := Lib.hid (O1.out.below hb)
  replace HB := Lib.hid (HB.out.trans (hb.mono HB.out.size))
  have R1 := Lib.hid hr
  have HC1 := Lib.hid hc
  clear hb hr hc
  obtain ⟨⟨q0, q1, q2, q3, q4⟩, -⟩ := O1.out
  go_wp2_with fail
  refine (c2 _).mono ?_
  rintro e V2 ⟨a2, k2, rfl, hr, hc, hb⟩
  clear q0 q1 q2 q3 q4
  replace O0 := Lib.hid (O0.out.below hb)
  replace O1 := Lib.hid (O1.out.below hb)
  replace R1 := Lib.hid (Bs_below R1.out hb)
  replace HB := Lib.hid (HB.out.trans (hb.mono HB.out.size))
  have R2 := Lib.hid hr
  have HC2 := Lib.hid hc
  clear hb hr hc c1 c2
  rcases hno with ⟨rfl, hJ⟩ | ⟨rfl, rfl⟩
  · clear hJ
    go_wp2_with fail
    refine (awake8 H _).mono ?_
    rintro e V3 ⟨rfl, hb⟩
    replace HB := Lib.hid (HB.out.trans (hb.mono HB.out.size))
    clear hb
    go_wp2_with fail
    go_ret
    exact ⟨rfl, HB.out⟩
  · go_wp2_with fail
    refine (awake8 H _).mono ?_
    rintro e V3 ⟨rfl, hb⟩
    replace HB := Lib.hid (HB.out.trans (hb.mono HB.out.size))
    clear hb
    go_wp2_with fail
    go_ret
    exact ⟨rfl, HB.out⟩
theorem bs_some {w : World} {a : Option Addr} {c : Nat} {xs : List Int} (h : Bs w (.slice a xs.length c) xs) (h1 : 1 ≤ xs.length) : ∃ b o, a = some ⟨b, o, none⟩ := by
  obtain ⟨_, _, ⟨a', c', e, _, rfl⟩ | ⟨b, o, c', e, _, _⟩⟩ := h
  · simp at h1
  · simp only [Value.slice.injEq, true_and] at e; exact ⟨b, o, e.1⟩
theorem str_eq {a b : List Int} (ha : ∀ v ∈ a, 0 ≤ v ∧ v < 256) (hb : ∀ v ∈ b, 0 ≤ v ∧ v < 256) (c : Bool) (h : c = true ↔ a = b) : ((strOfNums a).toList == (strOfNums b).toList) = c := by
  rw [Bool.eq_iff_iff, h, beq_iff_eq]
  constructor
  · intro e
    have e2 : strOfNums a = strOfNums b := by
      apply ByteArray.ext
      rw [ByteArray.toList_eq, ByteArray.toList_eq] at e
      exact Array.toList_inj.1 e
    rw [← bl_str ha, ← bl_str hb, e2]
  · rintro rfl; rfl
set_option maxHeartbeats 16000000 in
theorem case_ok (H : Pc) (ps0 pd0 pt0 pn0 : Int) (px0 : ByteArray) (ps1 pd1 pt1 pn1 : Int) (px1 : ByteArray) (w : World) (h : px0.size ≤ 600 ∧ px1.size ≤ 600) (bs cs : List Int) (hb0 : 1 ≤ bs.length ∧ bs.length ≤ 263) (hc0 : 1 ≤ cs.length ∧ cs.length ≤ 263) (Q : Bool) (hQ : Q = true ↔ bs.take (min bs.length cs.length) = cs.take (min bs.length cs.length)) (hE : eqK ps0 pd0 pt0 pn0 px0 ps1 pd1 pt1 pn1 px1 = Q)
    (c1 : ∀ W, Calls Try.prog 8 #[.agg #[.int .i64 ps0, .int .i64 pd0, .int .i64 pt0, .int .i64 pn0, .string px0]] W (RetK W bs 0)) (c2 : ∀ W, Calls Try.prog 8 #[.agg #[.int .i64 ps1, .int .i64 pd1, .int .i64 pt1, .int .i64 pn1, .string px1]] W (RetK W cs 0)) :
    Calls Try.prog 7 #[.agg #[.int .i64 ps0, .int .i64 pd0, .int .i64 pt0, .int .i64 pn0, .string px0], .agg #[.int .i64 ps1, .int .i64 pd1, .int .i64 pt1, .int .i64 pn1, .string px1]] w fun e w' => e = .returned (.bool true) ∧ Below w.heap.size w w' := by
  have HBC : Hid ((1 ≤ bs.length ∧ bs.length ≤ 263) ∧ 1 ≤ cs.length ∧ cs.length ≤ 263) := ⟨hb0, hc0⟩
  have HQ := Lib.hid hQ
  have HE := Lib.hid hE
  clear hQ hE hb0 hc0
  have h1 : ¬ (600 : Int) < (px0.size : Int) := by omega
  have h2 : ¬ (600 : Int) < (px1.size : Int) := by omega
  have O0 := Lib.hid ((ownp_alloc w ps0 pd0 pt0 pn0 px0 23 w.heap.size rfl).below ((Below.refl _ _).alloc (Nat.le_refl _) (.cells #[.int .i64 ps1, .int .i64 pd1, .int .i64 pt1, .int .i64 pn1, .string px1] 23)))
  have O1 := Lib.hid (ownp_alloc (w.alloc (.cells #[.int .i64 ps0, .int .i64 pd0, .int .i64 pt0, .int .i64 pn0, .string px0] 23)) ps1 pd1 pt1 pn1 px1 23 (w.heap.size + 1) (by simp))
  have HB : Hid (Below w.heap.size w ((w.alloc (.cells #[.int .i64 ps0, .int .i64 pd0, .int .i64 pt0, .int .i64 pn0, .string px0] 23)).alloc (.cells #[.int .i64 ps1, .int .i64 pd1, .int .i64 pt1, .int .i64 pn1, .string px1] 23))) := ((Below.refl _ w).alloc (Nat.le_refl _) _).alloc (by simp) _
  obtain ⟨⟨p0, p1, p2, p3, p4⟩, -⟩ := O0.out
  obtain ⟨⟨q0, q1, q2, q3, q4⟩, -⟩ := O1.out
  go_enter Try.func7, Try.ntmps7
  go_wp2_with fail
  refine (c1 _).mono ?_
  rintro e V1 ⟨a1, k1, rfl, hr, hc, hb⟩
  clear p0 p1 p2 p3 p4 q0 q1 q2 q3 q4
  replace O0 := Lib.hid (O0.out.below hb)
  replace O1 := Lib.hid (O1.out.below hb)
  replace HB := Lib.hid (HB.out.trans (hb.mono HB.out.size))
  have R1 := Lib.hid hr
  have HC1 := Lib.hid hc
  clear hb hr hc
  obtain ⟨⟨q0, q1, q2, q3, q4⟩, -⟩ := O1.out
  go_wp2_with fail
  refine (c2 _).mono ?_
  rintro e V2 ⟨a2, k2, rfl, hr, hc, hb⟩
  clear q0 q1 q2 q3 q4
  replace O0 := Lib.hid (O0.out.below hb)
  replace O1 := Lib.hid (O1.out.below hb)
  replace R1 := Lib.hid (Bs_below R1.out hb)
  replace HB := Lib.hid (HB.out.trans (hb.mono HB.out.size))
  have R2 := Lib.hid hr
  have HC2 := Lib.hid hc
  clear hb hr hc c1 c2
  obtain ⟨b1, o1, rfl⟩ := bs_some R1.out HBC.out.1.1
  obtain ⟨b2, o2, rfl⟩ := bs_some R2.out HBC.out.2.1
  have hIf : ∀ w' : World, (if ps0 = ps1 then if pd0 = pd1 then if pt0 = pt1 then if pn0 = pn1 then if px0.toList = px1.toList then Result.ok (Next.value (Value.bool true)) w' else Result.ok (Next.value (Value.bool false)) w' else Result.ok (Next.value (Value.bool false)) w' else Result.ok (Next.value (Value.bool false)) w' else Result.ok (Next.value (Value.bool false)) w' else Result.ok (Next.value (Value.bool false)) w') = Result.ok (Next.value (Value.bool Q)) w' := fun w' => by
    rw [← HE.out]
    unfold eqK
    by_cases x0 : ps0 = ps1 <;> by_cases x1 : pd0 = pd1 <;> by_cases x2 : pt0 = pt1 <;> by_cases x3 : pn0 = pn1 <;> by_cases x4 : px0.toList = px1.toList <;> simp [x0, x1, x2, x3, x4]
  have kc : ∀ w', Below V2.heap.size V2 w' → (w'.cell? ⟨w.heap.size, 0, none⟩ = some (.int .i64 ps0) ∧ w'.cell? ⟨w.heap.size, 1, none⟩ = some (.int .i64 pd0) ∧ w'.cell? ⟨w.heap.size, 2, none⟩ = some (.int .i64 pt0) ∧ w'.cell? ⟨w.heap.size, 3, none⟩ = some (.int .i64 pn0) ∧ w'.cell? ⟨w.heap.size, 4, none⟩ = some (.string px0)) ∧ (w'.cell? ⟨w.heap.size + 1, 0, none⟩ = some (.int .i64 ps1) ∧ w'.cell? ⟨w.heap.size + 1, 1, none⟩ = some (.int .i64 pd1) ∧ w'.cell? ⟨w.heap.size + 1, 2, none⟩ = some (.int .i64 pt1) ∧ w'.cell? ⟨w.heap.size + 1, 3, none⟩ = some (.int .i64 pn1) ∧ w'.cell? ⟨w.heap.size + 1, 4, none⟩ = some (.string px1)) := fun w' h => ⟨(O0.out.below h).1, (O1.out.below h).1⟩
  by_cases hle : (bs.length : Int) ≤ (cs.length : Int)
  · have hN : min bs.length cs.length = bs.length := by omega
    have hs0 : (0 : Int) ≤ (bs.length : Int) := Int.natCast_nonneg _
    have hs1 : (bs.length : Int) ≤ (k1 : Int) := by have := HC1.out; omega
    have hs2 : (bs.length : Int) ≤ (k2 : Int) := by have := HC2.out; omega
    have hs3 : ((bs.length : Int)).toNat = bs.length := Int.toNat_natCast _
    have hS : ((strOfNums bs).toList == (strOfNums (cs.take bs.length)).toList) = Q := by
      refine str_eq R1.out.1 (fun v hv => R2.out.1 v (List.take_subset _ _ hv)) Q ?_
      rw [HQ.out, hN, List.take_length]
    have hc1 : ∀ w', Below V2.heap.size V2 w' → (convert 24 9 (.slice (some ⟨b1, o1, none⟩) bs.length k1)).run Try.prog w' = .ok (.string (strOfNums bs)) w' := fun w' h => Bs_conv (Bs_below R1.out h)
    have hc2 : ∀ w', Below V2.heap.size V2 w' → (convert 24 9 (.slice (some ⟨b2, o2, none⟩) bs.length k2)).run Try.prog w' = .ok (.string (strOfNums (cs.take bs.length))) w' := fun w' h => Bs_conv (bs_take (Bs_below R2.out h) (by omega) (by have := HBC.out; omega))
    go_wp2_with fail
    refine wp_region_typed (C := fun w' => Below V2.heap.size V2 w') (X := fun w w' => Below w.heap.size w w') (n := 58) (by kernel_rfl) (by kernel_rfl) rfl (fun w => Below.refl _ w) (Below.refl _ _).drew ?_
    refine w_call (Is _) (fun _ _ _ h _ => h) 12 (.inl rfl) (fun ρ w hC hc hfn hf => by exact ⟨_, by (conv => lhs; simp [execOp, resolve, invoke, go_sem, hc, hfn]), tc_below hC (awake8 H w)⟩) ?_
    refine w_is (fun w => Below.refl _ w) _ (.inl rfl) (fun ρ w hC hc hfn hf => by have e42 : ρ (.tmp 42) = _ := hf 42 (by decide); (conv => lhs; simp [execOp, go_sem, hc, e42])) ?_
    refine w_is (fun w => Below.refl _ w) _ (.inr ⟨1, 43, true, rfl, rfl, known_is rfl⟩) (fun ρ w hC hc hfn hf => by have e5 : ρ (.tmp 5) = _ := hf 5 (by decide); (conv => lhs; simp [execOp, go_sem, hc, e5])) ?_
    refine w_is (fun w => Below.refl _ w) _ (.inr ⟨1, 43, true, rfl, rfl, known_is rfl⟩) (fun ρ w hC hc hfn hf => by have e9 : ρ (.tmp 9) = _ := hf 9 (by decide); (conv => lhs; simp [execOp, go_sem, hc, e9])) ?_
    refine w_is (fun w => Below.refl _ w) _ (.inr ⟨1, 43, true, rfl, rfl, known_is rfl⟩) (fun ρ w hC hc hfn hf => by have e44 : ρ (.tmp 44) = _ := hf 44 (by decide); have e45 : ρ (.tmp 45) = _ := hf 45 (by decide); (conv => lhs; simp [execOp, go_sem, hc, e44, e45, hs0, hs1, hs3])) ?_
    refine w_is (fun w => Below.refl _ w) _ (.inr ⟨1, 43, true, rfl, rfl, known_is rfl⟩) (fun ρ w hC hc hfn hf => by have e46 : ρ (.tmp 46) = _ := hf 46 (by decide); (conv => lhs; simp [execOp, go_sem, hc, e46, hc1 w hC])) ?_
    refine w_is (fun w => Below.refl _ w) _ (.inr ⟨1, 43, true, rfl, rfl, known_is rfl⟩) (fun ρ w hC hc hfn hf => by have e7 : ρ (.tmp 7) = _ := hf 7 (by decide); (conv => lhs; simp [execOp, go_sem, hc, e7])) ?_
    refine w_is (fun w => Below.refl _ w) _ (.inr ⟨1, 43, true, rfl, rfl, known_is rfl⟩) (fun ρ w hC hc hfn hf => by have e9 : ρ (.tmp 9) = _ := hf 9 (by decide); (conv => lhs; simp [execOp, go_sem, hc, e9])) ?_
    refine w_is (fun w => Below.refl _ w) _ (.inr ⟨1, 43, true, rfl, rfl, known_is rfl⟩) (fun ρ w hC hc hfn hf => by have e48 : ρ (.tmp 48) = _ := hf 48 (by decide); have e49 : ρ (.tmp 49) = _ := hf 49 (by decide); (conv => lhs; simp [execOp, go_sem, hc, e48, e49, hs0, hs2, hs3])) ?_
    refine w_is (fun w => Below.refl _ w) _ (.inr ⟨1, 43, true, rfl, rfl, known_is rfl⟩) (fun ρ w hC hc hfn hf => by have e50 : ρ (.tmp 50) = _ := hf 50 (by decide); (conv => lhs; simp [execOp, go_sem, hc, e50, hc2 w hC])) ?_
    refine w_is (fun w => Below.refl _ w) _ (.inr ⟨1, 43, true, rfl, rfl, known_is rfl⟩) (fun ρ w hC hc hfn hf => by have e47 : ρ (.tmp 47) = _ := hf 47 (by decide); have e51 : ρ (.tmp 51) = _ := hf 51 (by decide); (conv => lhs; simp [execOp, go_sem, hc, e47, e51, hS])) ?_
    refine w_is (fun w => Below.refl _ w) _ (.inr ⟨1, 43, true, rfl, rfl, known_is rfl⟩) (fun ρ w hC hc hfn hf => by have e2 : ρ (.tmp 2) = _ := hf 2 (by decide); (conv => lhs; simp [execOp, go_sem, hc, e2, kc w hC])) ?_
    refine w_is (fun w => Below.refl _ w) _ (.inr ⟨1, 43, true, rfl, rfl, known_is rfl⟩) (fun ρ w hC hc hfn hf => by have e3 : ρ (.tmp 3) = _ := hf 3 (by decide); (conv => lhs; simp [execOp, go_sem, hc, e3, kc w hC])) ?_
    refine w_is (fun w => Below.refl _ w) _ (.inr ⟨1, 43, true, rfl, rfl, known_is rfl⟩) (fun ρ w hC hc hfn hf => by have e53 : ρ (.tmp 53) = _ := hf 53 (by decide); have e54 : ρ (.tmp 54) = _ := hf 54 (by decide); (conv => lhs; simp [execOp, go_sem, hc, e53, e54, hIf])) ?_
    refine w_is (fun w => Below.refl _ w) _ (.inr ⟨1, 43, true, rfl, rfl, known_is rfl⟩) (fun ρ w hC hc hfn hf => by have e52 : ρ (.tmp 52) = _ := hf 52 (by decide); have e55 : ρ (.tmp 55) = _ := hf 55 (by decide); (conv => lhs; simp [execOp, go_sem, hc, e52, e55])) ?_
    refine w_is (fun w => Below.refl _ w) _ (.inl rfl) (fun ρ w hC hc hfn hf => by have e43 : ρ (.tmp 43) = _ := hf 43 (by decide); have e56 : ρ (.tmp 56) = _ := hf 56 (by decide); (conv => lhs; simp [execOp, go_sem, hc, e43, e56])) ?_
    refine w_is (fun w => Below.refl _ w) _ (.inl rfl) (fun ρ w hC hc hfn hf => by have e57 : ρ (.tmp 57) = _ := hf 57 (by decide); (conv => lhs; simp [execOp, go_sem, hc, e57])) ?_
    intro A VX hC hn hd hf
    have y0 : A.eval (.tmp 0) = _ := Eq.trans (hf 0) (by conv => lhs; simp [go_sem])
    have y1 : A.eval (.tmp 1) = _ := Eq.trans (hf 1) (by conv => lhs; simp [go_sem])
    have y2 : A.eval (.tmp 2) = _ := Eq.trans (hf 2) (by conv => lhs; simp [go_sem])
    have y3 : A.eval (.tmp 3) = _ := Eq.trans (hf 3) (by conv => lhs; simp [go_sem])
    have y4 : A.eval (.tmp 4) = _ := hf 4
    have y5 : A.eval (.tmp 5) = _ := Eq.trans (hf 5) (by conv => lhs; simp [go_sem])
    have y6 : A.eval (.tmp 6) = _ := Eq.trans (hf 6) (by conv => lhs; simp [go_sem])
    have y7 : A.eval (.tmp 7) = _ := Eq.trans (hf 7) (by conv => lhs; simp [go_sem])
    have y8 : A.eval (.tmp 8) = _ := Eq.trans (hf 8) (by conv => lhs; simp [go_sem])
    have y9 : A.eval (.tmp 9) = _ := Eq.trans (hf 9) (by conv => lhs; simp [go_sem])
    have y10 : A.eval (.tmp 10) = _ := Eq.trans (hf 10) (by conv => lhs; simp [go_sem])
    have y11 : A.eval (.tmp 11) = _ := Eq.trans (hf 11) (by conv => lhs; simp [go_sem])
    have y12 : A.eval (.tmp 12) = _ := Eq.trans (hf 12) (by conv => lhs; simp [go_sem])
    have y13 : A.eval (.tmp 13) = _ := Eq.trans (hf 13) (by conv => lhs; simp [go_sem])
    have y14 : A.eval (.tmp 14) = _ := Eq.trans (hf 14) (by conv => lhs; simp [go_sem])
    have y15 : A.eval (.tmp 15) = _ := Eq.trans (hf 15) (by conv => lhs; simp [go_sem])
    have y16 : A.eval (.tmp 16) = _ := Eq.trans (hf 16) (by conv => lhs; simp [go_sem])
    have y17 : A.eval (.tmp 17) = _ := Eq.trans (hf 17) (by conv => lhs; simp [go_sem])
    have y18 : A.eval (.tmp 18) = _ := Eq.trans (hf 18) (by conv => lhs; simp [go_sem])
    have y19 : A.eval (.tmp 19) = _ := Eq.trans (hf 19) (by conv => lhs; simp [go_sem])
    have y20 : A.eval (.tmp 20) = _ := Eq.trans (hf 20) (by conv => lhs; simp [go_sem])
    have y21 : A.eval (.tmp 21) = _ := Eq.trans (hf 21) (by conv => lhs; simp [go_sem])
    have y22 : A.eval (.tmp 22) = _ := Eq.trans (hf 22) (by conv => lhs; simp [go_sem])
    have y23 : A.eval (.tmp 23) = _ := Eq.trans (hf 23) (by conv => lhs; simp [go_sem])
    have y24 : A.eval (.tmp 24) = _ := Eq.trans (hf 24) (by conv => lhs; simp [go_sem])
    have y25 : A.eval (.tmp 25) = _ := Eq.trans (hf 25) (by conv => lhs; simp [go_sem])
    have y26 : A.eval (.tmp 26) = _ := Eq.trans (hf 26) (by conv => lhs; simp [go_sem])
    have y27 : A.eval (.tmp 27) = _ := Eq.trans (hf 27) (by conv => lhs; simp [go_sem])
    have y28 : A.eval (.tmp 28) = _ := Eq.trans (hf 28) (by conv => lhs; simp [go_sem])
    have y29 : A.eval (.tmp 29) = _ := Eq.trans (hf 29) (by conv => lhs; simp [go_sem])
    have y30 : A.eval (.tmp 30) = _ := Eq.trans (hf 30) (by conv => lhs; simp [go_sem])
    have y31 : A.eval (.tmp 31) = _ := Eq.trans (hf 31) (by conv => lhs; simp [go_sem])
    have y32 : A.eval (.tmp 32) = _ := Eq.trans (hf 32) (by conv => lhs; simp [go_sem])
    have y33 : A.eval (.tmp 33) = _ := Eq.trans (hf 33) (by conv => lhs; simp [go_sem])
    have y34 : A.eval (.tmp 34) = _ := Eq.trans (hf 34) (by conv => lhs; simp [go_sem])
    have y35 : A.eval (.tmp 35) = _ := Eq.trans (hf 35) (by conv => lhs; simp [go_sem])
    have y36 : A.eval (.tmp 36) = _ := Eq.trans (hf 36) (by conv => lhs; simp [go_sem])
    have y37 : A.eval (.tmp 37) = _ := Eq.trans (hf 37) (by conv => lhs; simp [go_sem])
    have y38 : A.eval (.tmp 38) = _ := Eq.trans (hf 38) (by conv => lhs; simp [go_sem])
    have y39 : A.eval (.tmp 39) = _ := Eq.trans (hf 39) (by conv => lhs; simp [go_sem])
    have y40 : A.eval (.tmp 40) = _ := Eq.trans (hf 40) (by conv => lhs; simp [go_sem])
    have y41 : A.eval (.tmp 41) = _ := Eq.trans (hf 41) (by conv => lhs; simp [go_sem])
    have y42 : A.eval (.tmp 42) = _ := hf 42
    have y43 : A.eval (.tmp 43) = _ := hf 43
    have y44 : A.eval (.tmp 44) = _ := hf 44
    have y45 : A.eval (.tmp 45) = _ := hf 45
    have y46 : A.eval (.tmp 46) = _ := hf 46
    have y47 : A.eval (.tmp 47) = _ := hf 47
    have y48 : A.eval (.tmp 48) = _ := hf 48
    have y49 : A.eval (.tmp 49) = _ := hf 49
    have y50 : A.eval (.tmp 50) = _ := hf 50
    have y51 : A.eval (.tmp 51) = _ := hf 51
    have y52 : A.eval (.tmp 52) = _ := hf 52
    have y53 : A.eval (.tmp 53) = _ := hf 53
    have y54 : A.eval (.tmp 54) = _ := hf 54
    have y55 : A.eval (.tmp 55) = _ := hf 55
    have y56 : A.eval (.tmp 56) = _ := hf 56
    have y57 : A.eval (.tmp 57) = _ := hf 57
    clear hf
    have hA := frame_eq hn
    rw [show List.range 58 = [0, 1, 2, 3, 4, 5, 6, 7, 8, 9, 10, 11, 12, 13, 14, 15, 16, 17, 18, 19, 20, 21, 22, 23, 24, 25, 26, 27, 28, 29, 30, 31, 32, 33, 34, 35, 36, 37, 38, 39, 40, 41, 42, 43, 44, 45, 46, 47, 48, 49, 50, 51, 52, 53, 54, 55, 56, 57] from rfl, hd] at hA
    simp only [List.map_cons, List.map_nil, y0, y1, y2, y3, y4, y5, y6, y7, y8, y9, y10, y11, y12, y13, y14, y15, y16, y17, y18, y19, y20, y21, y22, y23, y24, y25, y26, y27, y28, y29, y30, y31, y32, y33, y34, y35, y36, y37, y38, y39, y40, y41, y42, y43, y44, y45, y46, y47, y48, y49, y50, y51, y52, y53, y54, y55, y56, y57] at hA
    clear y0 y1 y2 y3 y4 y5 y6 y7 y8 y9 y10 y11 y12 y13 y14 y15 y16 y17 y18 y19 y20 y21 y22 y23 y24 y25 y26 y27 y28 y29 y30 y31 y32 y33 y34 y35 y36 y37 y38 y39 y40 y41 y42 y43 y44 y45 y46 y47 y48 y49 y50 y51 y52 y53 y54 y55 y56 y57
    clear hn hd
    subst hA
    go_wp2_with fail
    go_ret
    exact ⟨by cases Q <;> rfl, HB.out.trans (hC.mono HB.out.size)⟩
  · have hN : min bs.length cs.length = cs.length := by omega
    have hs0 : (0 : Int) ≤ (cs.length : Int) := Int.natCast_nonneg _
    have hs1 : (cs.length : Int) ≤ (k1 : Int) := by have := HC1.out; omega
    have hs2 : (cs.length : Int) ≤ (k2 : Int) := by have := HC2.out; omega
    have hs3 : ((cs.length : Int)).toNat = cs.length := Int.toNat_natCast _
    have hS : ((strOfNums (bs.take cs.length)).toList == (strOfNums cs).toList) = Q := by
      refine str_eq (fun v hv => R1.out.1 v (List.take_subset _ _ hv)) R2.out.1 Q ?_
      rw [HQ.out, hN, List.take_length]
    have hc1 : ∀ w', Below V2.heap.size V2 w' → (convert 24 9 (.slice (some ⟨b1, o1, none⟩) cs.length k1)).run Try.prog w' = .ok (.string (strOfNums (bs.take cs.length))) w' := fun w' h => Bs_conv (bs_take (Bs_below R1.out h) (by omega) (by have := HBC.out; omega))
    have hc2 : ∀ w', Below V2.heap.size V2 w' → (convert 24 9 (.slice (some ⟨b2, o2, none⟩) cs.length k2)).run Try.prog w' = .ok (.string (strOfNums cs)) w' := fun w' h => Bs_conv (Bs_below R2.out h)
    go_wp2_with fail
    refine wp_region_typed (C := fun w' => Below V2.heap.size V2 w') (X := fun w w' => Below w.heap.size w w') (n := 58) (by kernel_rfl) (by kernel_rfl) rfl (fun w => Below.refl _ w) (Below.refl _ _).drew ?_
    refine w_call (Is _) (fun _ _ _ h _ => h) 12 (.inl rfl) (fun ρ w hC hc hfn hf => by exact ⟨_, by (conv => lhs; simp [execOp, resolve, invoke, go_sem, hc, hfn]), tc_below hC (awake8 H w)⟩) ?_
    refine w_is (fun w => Below.refl _ w) _ (.inl rfl) (fun ρ w hC hc hfn hf => by have e42 : ρ (.tmp 42) = _ := hf 42 (by decide); (conv => lhs; simp [execOp, go_sem, hc, e42])) ?_
    refine w_is (fun w => Below.refl _ w) _ (.inr ⟨1, 43, true, rfl, rfl, known_is rfl⟩) (fun ρ w hC hc hfn hf => by have e5 : ρ (.tmp 5) = _ := hf 5 (by decide); (conv => lhs; simp [execOp, go_sem, hc, e5])) ?_
    refine w_is (fun w => Below.refl _ w) _ (.inr ⟨1, 43, true, rfl, rfl, known_is rfl⟩) (fun ρ w hC hc hfn hf => by have e9 : ρ (.tmp 9) = _ := hf 9 (by decide); (conv => lhs; simp [execOp, go_sem, hc, e9])) ?_
    refine w_is (fun w => Below.refl _ w) _ (.inr ⟨1, 43, true, rfl, rfl, known_is rfl⟩) (fun ρ w hC hc hfn hf => by have e44 : ρ (.tmp 44) = _ := hf 44 (by decide); have e45 : ρ (.tmp 45) = _ := hf 45 (by decide); (conv => lhs; simp [execOp, go_sem, hc, e44, e45, hs0, hs1, hs3])) ?_
    refine w_is (fun w => Below.refl _ w) _ (.inr ⟨1, 43, true, rfl, rfl, known_is rfl⟩) (fun ρ w hC hc hfn hf => by have e46 : ρ (.tmp 46) = _ := hf 46 (by decide); (conv => lhs; simp [execOp, go_sem, hc, e46, hc1 w hC])) ?_
    refine w_is (fun w => Below.refl _ w) _ (.inr ⟨1, 43, true, rfl, rfl, known_is rfl⟩) (fun ρ w hC hc hfn hf => by have e7 : ρ (.tmp 7) = _ := hf 7 (by decide); (conv => lhs; simp [execOp, go_sem, hc, e7])) ?_
    refine w_is (fun w => Below.refl _ w) _ (.inr ⟨1, 43, true, rfl, rfl, known_is rfl⟩) (fun ρ w hC hc hfn hf => by have e9 : ρ (.tmp 9) = _ := hf 9 (by decide); (conv => lhs; simp [execOp, go_sem, hc, e9])) ?_
    refine w_is (fun w => Below.refl _ w) _ (.inr ⟨1, 43, true, rfl, rfl, known_is rfl⟩) (fun ρ w hC hc hfn hf => by have e48 : ρ (.tmp 48) = _ := hf 48 (by decide); have e49 : ρ (.tmp 49) = _ := hf 49 (by decide); (conv => lhs; simp [execOp, go_sem, hc, e48, e49, hs0, hs2, hs3])) ?_
    refine w_is (fun w => Below.refl _ w) _ (.inr ⟨1, 43, true, rfl, rfl, known_is rfl⟩) (fun ρ w hC hc hfn hf => by have e50 : ρ (.tmp 50) = _ := hf 50 (by decide); (conv => lhs; simp [execOp, go_sem, hc, e50, hc2 w hC])) ?_
    refine w_is (fun w => Below.refl _ w) _ (.inr ⟨1, 43, true, rfl, rfl, known_is rfl⟩) (fun ρ w hC hc hfn hf => by have e47 : ρ (.tmp 47) = _ := hf 47 (by decide); have e51 : ρ (.tmp 51) = _ := hf 51 (by decide); (conv => lhs; simp [execOp, go_sem, hc, e47, e51, hS])) ?_
    refine w_is (fun w => Below.refl _ w) _ (.inr ⟨1, 43, true, rfl, rfl, known_is rfl⟩) (fun ρ w hC hc hfn hf => by have e2 : ρ (.tmp 2) = _ := hf 2 (by decide); (conv => lhs; simp [execOp, go_sem, hc, e2, kc w hC])) ?_
    refine w_is (fun w => Below.refl _ w) _ (.inr ⟨1, 43, true, rfl, rfl, known_is rfl⟩) (fun ρ w hC hc hfn hf => by have e3 : ρ (.tmp 3) = _ := hf 3 (by decide); (conv => lhs; simp [execOp, go_sem, hc, e3, kc w hC])) ?_
    refine w_is (fun w => Below.refl _ w) _ (.inr ⟨1, 43, true, rfl, rfl, known_is rfl⟩) (fun ρ w hC hc hfn hf => by have e53 : ρ (.tmp 53) = _ := hf 53 (by decide); have e54 : ρ (.tmp 54) = _ := hf 54 (by decide); (conv => lhs; simp [execOp, go_sem, hc, e53, e54, hIf])) ?_
    refine w_is (fun w => Below.refl _ w) _ (.inr ⟨1, 43, true, rfl, rfl, known_is rfl⟩) (fun ρ w hC hc hfn hf => by have e52 : ρ (.tmp 52) = _ := hf 52 (by decide); have e55 : ρ (.tmp 55) = _ := hf 55 (by decide); (conv => lhs; simp [execOp, go_sem, hc, e52, e55])) ?_
    refine w_is (fun w => Below.refl _ w) _ (.inl rfl) (fun ρ w hC hc hfn hf => by have e43 : ρ (.tmp 43) = _ := hf 43 (by decide); have e56 : ρ (.tmp 56) = _ := hf 56 (by decide); (conv => lhs; simp [execOp, go_sem, hc, e43, e56])) ?_
    refine w_is (fun w => Below.refl _ w) _ (.inl rfl) (fun ρ w hC hc hfn hf => by have e57 : ρ (.tmp 57) = _ := hf 57 (by decide); (conv => lhs; simp [execOp, go_sem, hc, e57])) ?_
    intro A VX hC hn hd hf
    have y0 : A.eval (.tmp 0) = _ := Eq.trans (hf 0) (by conv => lhs; simp [go_sem])
    have y1 : A.eval (.tmp 1) = _ := Eq.trans (hf 1) (by conv => lhs; simp [go_sem])
    have y2 : A.eval (.tmp 2) = _ := Eq.trans (hf 2) (by conv => lhs; simp [go_sem])
    have y3 : A.eval (.tmp 3) = _ := Eq.trans (hf 3) (by conv => lhs; simp [go_sem])
    have y4 : A.eval (.tmp 4) = _ := hf 4
    have y5 : A.eval (.tmp 5) = _ := Eq.trans (hf 5) (by conv => lhs; simp [go_sem])
    have y6 : A.eval (.tmp 6) = _ := Eq.trans (hf 6) (by conv => lhs; simp [go_sem])
    have y7 : A.eval (.tmp 7) = _ := Eq.trans (hf 7) (by conv => lhs; simp [go_sem])
    have y8 : A.eval (.tmp 8) = _ := Eq.trans (hf 8) (by conv => lhs; simp [go_sem])
    have y9 : A.eval (.tmp 9) = _ := Eq.trans (hf 9) (by conv => lhs; simp [go_sem])
    have y10 : A.eval (.tmp 10) = _ := Eq.trans (hf 10) (by conv => lhs; simp [go_sem])
    have y11 : A.eval (.tmp 11) = _ := Eq.trans (hf 11) (by conv => lhs; simp [go_sem])
    have y12 : A.eval (.tmp 12) = _ := Eq.trans (hf 12) (by conv => lhs; simp [go_sem])
    have y13 : A.eval (.tmp 13) = _ := Eq.trans (hf 13) (by conv => lhs; simp [go_sem])
    have y14 : A.eval (.tmp 14) = _ := Eq.trans (hf 14) (by conv => lhs; simp [go_sem])
    have y15 : A.eval (.tmp 15) = _ := Eq.trans (hf 15) (by conv => lhs; simp [go_sem])
    have y16 : A.eval (.tmp 16) = _ := Eq.trans (hf 16) (by conv => lhs; simp [go_sem])
    have y17 : A.eval (.tmp 17) = _ := Eq.trans (hf 17) (by conv => lhs; simp [go_sem])
    have y18 : A.eval (.tmp 18) = _ := Eq.trans (hf 18) (by conv => lhs; simp [go_sem])
    have y19 : A.eval (.tmp 19) = _ := Eq.trans (hf 19) (by conv => lhs; simp [go_sem])
    have y20 : A.eval (.tmp 20) = _ := Eq.trans (hf 20) (by conv => lhs; simp [go_sem])
    have y21 : A.eval (.tmp 21) = _ := Eq.trans (hf 21) (by conv => lhs; simp [go_sem])
    have y22 : A.eval (.tmp 22) = _ := Eq.trans (hf 22) (by conv => lhs; simp [go_sem])
    have y23 : A.eval (.tmp 23) = _ := Eq.trans (hf 23) (by conv => lhs; simp [go_sem])
    have y24 : A.eval (.tmp 24) = _ := Eq.trans (hf 24) (by conv => lhs; simp [go_sem])
    have y25 : A.eval (.tmp 25) = _ := Eq.trans (hf 25) (by conv => lhs; simp [go_sem])
    have y26 : A.eval (.tmp 26) = _ := Eq.trans (hf 26) (by conv => lhs; simp [go_sem])
    have y27 : A.eval (.tmp 27) = _ := Eq.trans (hf 27) (by conv => lhs; simp [go_sem])
    have y28 : A.eval (.tmp 28) = _ := Eq.trans (hf 28) (by conv => lhs; simp [go_sem])
    have y29 : A.eval (.tmp 29) = _ := Eq.trans (hf 29) (by conv => lhs; simp [go_sem])
    have y30 : A.eval (.tmp 30) = _ := Eq.trans (hf 30) (by conv => lhs; simp [go_sem])
    have y31 : A.eval (.tmp 31) = _ := Eq.trans (hf 31) (by conv => lhs; simp [go_sem])
    have y32 : A.eval (.tmp 32) = _ := Eq.trans (hf 32) (by conv => lhs; simp [go_sem])
    have y33 : A.eval (.tmp 33) = _ := Eq.trans (hf 33) (by conv => lhs; simp [go_sem])
    have y34 : A.eval (.tmp 34) = _ := Eq.trans (hf 34) (by conv => lhs; simp [go_sem])
    have y35 : A.eval (.tmp 35) = _ := Eq.trans (hf 35) (by conv => lhs; simp [go_sem])
    have y36 : A.eval (.tmp 36) = _ := Eq.trans (hf 36) (by conv => lhs; simp [go_sem])
    have y37 : A.eval (.tmp 37) = _ := Eq.trans (hf 37) (by conv => lhs; simp [go_sem])
    have y38 : A.eval (.tmp 38) = _ := Eq.trans (hf 38) (by conv => lhs; simp [go_sem])
    have y39 : A.eval (.tmp 39) = _ := Eq.trans (hf 39) (by conv => lhs; simp [go_sem])
    have y40 : A.eval (.tmp 40) = _ := Eq.trans (hf 40) (by conv => lhs; simp [go_sem])
    have y41 : A.eval (.tmp 41) = _ := Eq.trans (hf 41) (by conv => lhs; simp [go_sem])
    have y42 : A.eval (.tmp 42) = _ := hf 42
    have y43 : A.eval (.tmp 43) = _ := hf 43
    have y44 : A.eval (.tmp 44) = _ := hf 44
    have y45 : A.eval (.tmp 45) = _ := hf 45
    have y46 : A.eval (.tmp 46) = _ := hf 46
    have y47 : A.eval (.tmp 47) = _ := hf 47
    have y48 : A.eval (.tmp 48) = _ := hf 48
    have y49 : A.eval (.tmp 49) = _ := hf 49
    have y50 : A.eval (.tmp 50) = _ := hf 50
    have y51 : A.eval (.tmp 51) = _ := hf 51
    have y52 : A.eval (.tmp 52) = _ := hf 52
    have y53 : A.eval (.tmp 53) = _ := hf 53
    have y54 : A.eval (.tmp 54) = _ := hf 54
    have y55 : A.eval (.tmp 55) = _ := hf 55
    have y56 : A.eval (.tmp 56) = _ := hf 56
    have y57 : A.eval (.tmp 57) = _ := hf 57
    clear hf
    have hA := frame_eq hn
    rw [show List.range 58 = [0, 1, 2, 3, 4, 5, 6, 7, 8, 9, 10, 11, 12, 13, 14, 15, 16, 17, 18, 19, 20, 21, 22, 23, 24, 25, 26, 27, 28, 29, 30, 31, 32, 33, 34, 35, 36, 37, 38, 39, 40, 41, 42, 43, 44, 45, 46, 47, 48, 49, 50, 51, 52, 53, 54, 55, 56, 57] from rfl, hd] at hA
    simp only [List.map_cons, List.map_nil, y0, y1, y2, y3, y4, y5, y6, y7, y8, y9, y10, y11, y12, y13, y14, y15, y16, y17, y18, y19, y20, y21, y22, y23, y24, y25, y26, y27, y28, y29, y30, y31, y32, y33, y34, y35, y36, y37, y38, y39, y40, y41, y42, y43, y44, y45, y46, y47, y48, y49, y50, y51, y52, y53, y54, y55, y56, y57] at hA
    clear y0 y1 y2 y3 y4 y5 y6 y7 y8 y9 y10 y11 y12 y13 y14 y15 y16 y17 y18 y19 y20 y21 y22 y23 y24 y25 y26 y27 y28 y29 y30 y31 y32 y33 y34 y35 y36 y37 y38 y39 y40 y41 y42 y43 y44 y45 y46 y47 y48 y49 y50 y51 y52 y53 y54 y55 y56 y57
    clear hn hd
    subst hA
    go_wp2_with fail
    go_ret
    exact ⟨by cases Q <;> rfl, HB.out.trans (hC.mono HB.out.size)⟩
theorem walk (H : Pc) (ps0 pd0 pt0 pn0 : Int) (px0 : ByteArray) (ps1 pd1 pt1 pn1 : Int) (px1 : ByteArray) (w : World) :
    Calls Try.prog 7 #[.agg #[.int .i64 ps0, .int .i64 pd0, .int .i64 pt0, .int .i64 pn0, .string px0], .agg #[.int .i64 ps1, .int .i64 pd1, .int .i64 pt1, .int .i64 pn1, .string px1]] w fun e w' => e = .returned (.bool true) ∧ Below w.heap.size w w' := by
  by_cases h : px0.size ≤ 600 ∧ px1.size ≤ 600
  · by_cases h0 : PkOk ps0 pd0 pt0 pn0 px0
    · have k0 : kP ps0 pd0 pt0 pn0 px0 = 0 := if_pos h0
      have b0 : byP ps0 pd0 pt0 pn0 px0 = pkB ps0 pd0 pt0 pn0 px0 := if_pos h0
      have l0 := pkB_len ps0 pd0 pt0 pn0 px0
      by_cases h1 : PkOk ps1 pd1 pt1 pn1 px1
      · have k1 : kP ps1 pd1 pt1 pn1 px1 = 0 := if_pos h1
        have b1 : byP ps1 pd1 pt1 pn1 px1 = pkB ps1 pd1 pt1 pn1 px1 := if_pos h1
        have l1 := pkB_len ps1 pd1 pt1 pn1 px1
        have z0 := h0.2.2.2.2
        have z1 := h1.2.2.2.2
        refine case_ok H ps0 pd0 pt0 pn0 px0 ps1 pd1 pt1 pn1 px1 w h (pkB ps0 pd0 pt0 pn0 px0) (pkB ps1 pd1 pt1 pn1 px1) (by omega) (by omega) (eqK ps0 pd0 pt0 pn0 px0 ps1 pd1 pt1 pn1 px1) ?_ rfl
          (fun W => by have := H.byt ps0 pd0 pt0 pn0 px0 W (by omega); rw [k0, b0] at this; exact this) (fun W => by have := H.byt ps1 pd1 pt1 pn1 px1 W (by omega); rw [k1, b1] at this; exact this)
        rw [eqK_iff, l0, l1]
        constructor
        · intro e
          simp only [Prod.mk.injEq] at e
          obtain ⟨rfl, rfl, rfl, rfl, rfl⟩ := e
          rfl
        · exact pk_apart
      · exact case_no H ps0 pd0 pt0 pn0 px0 ps1 pd1 pt1 pn1 px1 w h _ _ 0 1 (.inr ⟨rfl, rfl⟩) (fun W => by have := H.byt ps0 pd0 pt0 pn0 px0 W (by omega); rw [k0] at this; exact this) (fun W => by have := H.byt ps1 pd1 pt1 pn1 px1 W (by omega); rw [show kP ps1 pd1 pt1 pn1 px1 = 1 from if_neg h1] at this; exact this)
    · refine case_no H ps0 pd0 pt0 pn0 px0 ps1 pd1 pt1 pn1 px1 w h _ _ 1 (kP ps1 pd1 pt1 pn1 px1) (.inl ⟨rfl, ?_⟩) (fun W => by have := H.byt ps0 pd0 pt0 pn0 px0 W (by omega); rw [show kP ps0 pd0 pt0 pn0 px0 = 1 from if_neg h0] at this; exact this) (fun W => H.byt ps1 pd1 pt1 pn1 px1 W (by omega))
      unfold kP
      split
      · exact .inl rfl
      · exact .inr rfl
  · exact early ps0 pd0 pt0 pn0 px0 ps1 pd1 pt1 pn1 px1 w h

set_option maxRecDepth 100000 in
theorem lifted (os : _root_.Go.Os) (started : os.Started) (H : Type) (enc : TypeId × Value → H) :
    ReturnsInHanded {} Try.checked os 7 .any (Rows.packetApartSpec.pre6 enc Try.prog Try.f7 Rows.packetApartRow.domain false) (Rows.packetApartSpec.post enc Try.prog Try.f7 false true false false) := by
  refine returnsInHanded_of_change (C := Try.checked) own started (by kernel_rfl) Try.func7
    (ChangeSpec.witness6 (enc := enc) (C := Try.checked) false ⟨#[], #[.agg #[.int .i64 0, .int .i64 0, .int .i64 0, .int .i64 0, .string ⟨#[]⟩], .agg #[.int .i64 0, .int .i64 0, .int .i64 0, .int .i64 0, .string ⟨#[]⟩]], []⟩ 16 (by kernel_rfl) (by kernel_rfl) (by kernel_rfl) (by kernel_rfl)) ?_
  intro W base args ds gs before hval0 hW hcnd _
  have hval : ∀ (j : Nat) t v, Try.f7.params[j]? = some t → args[j]? = some v → Value.okWide Try.prog W .any base t v := hval0
  have hW' := hW
  obtain ⟨p, q, hA0, hV, rfl, hfz, hnd⟩ := hW
  have hA : DataW.TrodAll enc Try.prog W 0 (fun _ => true) true Try.f7.params.toList args.toList ds p := hA0
  rw [Try.params7] at hA hval
  obtain ⟨v0, vs0, e0, ds0, p0, q0, hargs, rfl, rfl, h0, x0⟩ := trodAll_cons hA
  obtain ⟨v1, vs1, e1, ds1, p1, q1, rfl, rfl, rfl, h1, x1⟩ := trodAll_cons x0
  obtain ⟨rfl, rfl, rfl⟩ := trodAll_nil x1
  obtain rfl : args = #[v0, v1] := by cases args; simp_all
  obtain ⟨rfl, rfl⟩ := trodVars_none hV
  have k0 := h0
  have lt0 : ∀ x ∈ p0, x.block < W.heap.size := by obtain ⟨m, hm⟩ := k0; exact DataW.trod_lt m _ _ _ hm
  obtain ⟨ps0, pd0, pt0, pn0, px0, rfl, _, _⟩ := pk_form (hval 0 23 v0 rfl rfl) h0
  have k1 := h1
  have lt1 : ∀ x ∈ p1, x.block < W.heap.size := by obtain ⟨m, hm⟩ := k1; exact DataW.trod_lt m _ _ _ hm
  obtain ⟨ps1, pd1, pt1, pn1, px1, rfl, _, _⟩ := pk_form (hval 1 23 v1 rfl rfl) h1
  clear hA0 hval0
  refine (walk pc ps0 pd0 pt0 pn0 px0 ps1 pd1 pt1 pn1 px1 W).mono fun e W' ⟨he, bel⟩ => ?_
  subst he
  exact ⟨_, rfl, _, _, _, [], _, [], hW', trodAll_mk1 (shut_bool Try.underlying4 _), (trodAll_cons_mk (Below.trod laidOut (by kernel_rfl) (of_decide_eq_true (by kernel_rfl)) k0 bel lt0) (trodAll_cons_mk (Below.trod laidOut (by kernel_rfl) (of_decide_eq_true (by kernel_rfl)) k1 bel lt1) trodAll_mk0)), rfl, bel.frame _, fun h => by cases h⟩

theorem over : Rows.packetApartRow.holds Try.pinned (OpenSpec.ofChange Rows.packetApartSpec) :=
  OpenClaim.holds_of_wide 7 Try.f7 rfl rfl rfl rfl rfl rfl rfl ⟨rfl, rfl, rfl, rfl, rfl⟩ rfl rfl rfl rfl rfl (by kernel_rfl) Try.func7 (by kernel_rfl)
    (of_decide_eq_true (by kernel_rfl)) (by unfold Func.isWrapper; first | (rw [if_pos (by decide +kernel)]; kernel_rfl) | (rw [if_neg (by decide +kernel)]; exact ⟨rfl, rfl⟩))
    (fun os started H enc _ => lifted os started H enc)

theorem proved : Rows.PacketApartSaid := over
#print axioms proved
end Go.Proofs.Yteleedpiadcfjaa.packetApart
