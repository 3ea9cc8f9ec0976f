/-
  thalweglaw01.WirePuts: for any numbers v, n and bytes b the law answers true; no condition.
-/
import Derived.Test.YteofjlcaokajeaaRows
import Derived.Test.YteofjlcaokajeaaPlain
import Derived.Test.YteofjlcaokajeaaTyped
import Derived.WalkKit
import Derived.ProofKit
import Derived.OpenShut
import Derived.ShutString
import Derived.ChangeOld
import Derived.Below
namespace Go.Proofs.Yteofjlcaokajeaa.wirePuts
open Go.ChangeShapes Go.WideShapes Go.ChangeAt Go.RowKit
open Go.ChangeMaps (open_string shut_string)
set_option linter.unusedVariables false

theorem own : ownKnob Try.prog.godebug = none := by kernel_rfl
theorem laidOut : laidOutB Try.prog = true := by kernel_rfl

def IsRow (k : IntKind) (w : World) (a : Option Addr) (len cap : Nat) (zs : List Int) : Prop :=
  (a = none ∧ len = 0 ∧ cap = 0 ∧ zs = []) ∨
  ∃ x, a = some x ∧ len ≤ cap ∧ cap ≤ maxLen ∧ zs.length = cap ∧ (∀ i, i < zs.length → w.cell? (x.add i) = some (.int k (zs.getD i 0))) ∧ ∀ n ∈ zs, (Lit.int k n).wf = true

theorem bs_of {w : World} {a : Option Addr} {len cap : Nat} {zs : List Int} (h : IsRow .u8 w a len cap zs) : Bs w (.slice a len cap) (zs.take len) ∧ (zs.take len).length = len := by
  rcases h with ⟨rfl, rfl, rfl, rfl⟩ | ⟨x, rfl, hl, hm, hz, hcell, hwz⟩
  · exact ⟨Bs_nil w, rfl⟩
  · have hlen : (zs.take len).length = len := by rw [List.length_take]; omega
    refine ⟨⟨fun n hn => ?_, by rw [hlen]; unfold maxLen at hm; omega, ?_⟩, hlen⟩
    · have := hwz n (List.take_subset _ _ hn)
      have b := bounds_u8 this
      omega
    · by_cases h0 : len = 0
      · subst h0; exact .inl ⟨some x, cap, rfl, (fun h => by cases h), by simp⟩
      · right
        obtain ⟨b, off, spot⟩ := x
        have hc := hcell 0 (by omega)
        have hspot : spot = none := by simpa [Addr.add] using World.cell?_spot hc
        subst hspot
        refine ⟨b, off, cap, by rw [hlen], by rw [hlen]; exact hl, fun i hi => ?_⟩
        have hi' : i < len := by omega
        have := hcell i (by omega)
        have hadd : (⟨b, off, none⟩ : Addr).add i = ⟨b, off + i, none⟩ := by unfold Addr.add; split <;> simp_all
        rw [hadd] at this
        rw [this]
        simp [List.getD, hi']
theorem Bs_of_row' {w : World} {B n : Nat} {r : Value} {xs : List Int} (h : w.ownsRow B 5 1 r n (xs.map (Value.int .u8))) (hx : ∀ x ∈ xs, 0 ≤ x ∧ x < 256) (hl : xs.length ≤ 1000) : Bs w r xs := Bs_of_own h hx (by omega)

set_option maxHeartbeats 4000000 in
theorem walk (a0 : Int) (a1 : Int) (a2 : Option Addr) (len2 cap2 : Nat) (z2 : List Int) (w : World) (w0 : (Lit.int .i64 a0).wf = true) (w1 : (Lit.int .i64 a1).wf = true) (w2 : IsRow .u8 w a2 len2 cap2 z2) :
    Calls Try.prog 3 #[.int .i64 a0, .int .i64 a1, .slice a2 len2 cap2] w fun e w' => e = .returned (.bool true) ∧ Below w.heap.size w w' := by
  obtain ⟨hb, hlen⟩ := bs_of w2
  generalize z2.take len2 = xs at hb hlen
  subst hlen
  clear w2
  have hv0 := bounds_i64 w0
  have hv0 : -9223372036854775808 ≤ a0 ∧ a0 < 9223372036854775808 := by omega
  by_cases c1 : (500 : Int) < (xs.length : Int)
  · go_enter Try.func3, Try.ntmps3
    go_wp2_with fail
    go_ret
    exact ⟨rfl, Below.refl _ _⟩
  have s1 : (xs.length : Int) ≤ 500 := by omega
  clear c1
  have hvl := Lib.hid hv0
  clear hv0
  go_enter Try.func3, Try.ntmps3
  go_wp2_with fail
  refine (both1 hb _ (by omega)).mono ?_
  rintro e W1 ⟨r0, rfl, ho, hx, hb1⟩
  have hr0 := Bs_of_row' ho hx (by omega)
  have B1 : Below w.heap.size w W1 := ((Below.refl _ w).alloc (Nat.le_refl _) _).trans (hb1.mono (by simp))
  have H1 := Lib.hid B1
  clear ho hx hb1 B1
  go_wp2_with fail
  refine (put_any a0 a1 _ hvl.out.2).mono ?_
  rintro e W2 ⟨r1, rfl, hr1, hb2⟩
  have H2 := Lib.hid (H1.out.trans (hb2.mono H1.out.size))
  have hr0 := Bs_below hr0 hb2
  clear hb2 H1
  generalize hE : putE a0 a1 = E
  have HE := Lib.hid hE
  clear hE
  go_wp2_with fail
  refine (rput_any a0 a1 _).mono ?_
  rintro e W3 ⟨r2, rfl, hr2, hb3⟩
  rw [HE.out]
  have H3 := Lib.hid (H2.out.trans (hb3.mono H2.out.size))
  have hr0 := Bs_below hr0 hb3
  have hr1 := Bs_below hr1 hb3
  clear hb3 H2
  go_wp2_with fail
  refine (sum_any _ xs _ hr0).mono ?_
  rintro e W4 ⟨rfl, rfl⟩
  generalize hN : sumN xs = N
  have hN := Lib.hid hN
  have hb3 := Bs_below hb H3.out
  go_wp2_with fail
  have hrefl : ∀ W : World, Below W.heap.size W W := fun W => Below.refl _ _
  generalize hS : strOfNums (putB a0 a1) = S
  generalize hI : strOfNums (lo (IntKind.u64.wrap a0) 8) = I
  generalize hD : strOfNums xs = D
  have hcR1 : ∀ W, Below W3.heap.size W3 W → (convert 22 9 r1).run Try.prog W = .ok (.string S) W := fun W h => by rw [← hS]; exact Bs_conv (Bs_below hr1 h)
  have hcR2 : ∀ W, Below W3.heap.size W3 W → (convert 22 9 r2).run Try.prog W = .ok (.string S) W := fun W h => by rw [← hS]; exact Bs_conv (Bs_below hr2 h)
  have hcR0 : ∀ W, Below W3.heap.size W3 W → (convert 22 9 r0).run Try.prog W = .ok (.string D) W := fun W h => by rw [← hD]; exact Bs_conv (Bs_below hr0 h)
  have hcB : ∀ W, Below W3.heap.size W3 W → (convert 22 9 (.slice a2 xs.length cap2)).run Try.prog W = .ok (.string D) W := fun W h => by rw [← hD]; exact Bs_conv (Bs_below hb3 h)
  have hBw : ∀ W, Below W3.heap.size W3 W → Bs W (.slice a2 xs.length cap2) xs := fun W h => Bs_below hb3 h
  have hv0 := hvl.out
  clear hr0 hr1 hr2 hb3
  refine wp_region_typed (C := fun W => Below W3.heap.size W3 W) (X := fun W W' => Below W.heap.size W W') (n := 68) (by kernel_rfl) (by kernel_rfl) rfl hrefl (Below.refl _ _).drew ?_
  refine w_call (Is (.bool true)) (fun _ _ _ h _ => h) 13 (.inl rfl) (fun ρ w hC hc hfn hf => by exact ⟨#[], by simp [execOp, resolve, invoke, go_sem, hc, hfn], ((awake_any w).mono fun e w' ⟨he, hb⟩ => ⟨_, he, hC.trans (hb.mono hC.size), hb, rfl⟩)⟩) ?_
  refine w_copy hrefl (.tmp 33) (.inl rfl) (.bool true) (.inl rfl) (fun ρ w _ hf => hf 33 (by decide)) ?_
  refine w_copy hrefl (.tmp 8) (.inl rfl) (r1) (.inr ⟨1, 34, true, rfl, rfl, known_is rfl⟩) (fun ρ w _ hf => hf 8 (by decide)) ?_
  refine w_is hrefl (.string S) (.inr ⟨1, 34, true, rfl, rfl, known_is rfl⟩) (fun ρ w hC hc hfn hf => by have e35 : ρ (.tmp 35) = r1 := hf 35 (by decide); have hcv := hcR1 w hC; simp [execOp, go_sem, hcv, e35]) ?_
  refine w_copy hrefl (.tmp 10) (.inl rfl) (r2) (.inr ⟨1, 34, true, rfl, rfl, known_is rfl⟩) (fun ρ w _ hf => hf 10 (by decide)) ?_
  refine w_is hrefl (.string S) (.inr ⟨1, 34, true, rfl, rfl, known_is rfl⟩) (fun ρ w hC hc hfn hf => by have e37 : ρ (.tmp 37) = r2 := hf 37 (by decide); have hcv := hcR2 w hC; simp [execOp, go_sem, hcv, e37]) ?_
  refine w_is hrefl (.bool true) (.inr ⟨1, 34, true, rfl, rfl, known_is rfl⟩) (fun ρ w hC hc hfn hf => by have e36 : ρ (.tmp 36) = .string S := hf 36 (by decide); have e38 : ρ (.tmp 38) = .string S := hf 38 (by decide); simp [execOp, go_sem, hc, e36, e38]) ?_
  refine w_is hrefl (.bool true) (.inl rfl) (fun ρ w hC hc hfn hf => by have e34 : ρ (.tmp 34) = .bool true := hf 34 (by decide); have e39 : ρ (.tmp 39) = .bool true := hf 39 (by decide); simp [execOp, go_sem, hc, e34, e39]) ?_
  refine w_copy hrefl (.tmp 40) (.inl rfl) (.bool true) (.inl rfl) (fun ρ w _ hf => hf 40 (by decide)) ?_
  refine w_copy hrefl (.tmp 9) (.inl rfl) (.int .i64 E) (.inr ⟨8, 41, true, rfl, rfl, known_is rfl⟩) (fun ρ w _ hf => hf 9 (by decide)) ?_
  refine w_copy hrefl (.tmp 11) (.inl rfl) (.int .i64 E) (.inr ⟨8, 41, true, rfl, rfl, known_is rfl⟩) (fun ρ w _ hf => hf 11 (by decide)) ?_
  refine w_is hrefl (.bool true) (.inr ⟨8, 41, true, rfl, rfl, known_is rfl⟩) (fun ρ w hC hc hfn hf => by have e42 : ρ (.tmp 42) = .int .i64 E := hf 42 (by decide); have e43 : ρ (.tmp 43) = .int .i64 E := hf 43 (by decide); simp [execOp, go_sem, hc, e42, e43]) ?_
  refine w_is hrefl (.bool true) (.inl rfl) (fun ρ w hC hc hfn hf => by have e41 : ρ (.tmp 41) = .bool true := hf 41 (by decide); have e44 : ρ (.tmp 44) = .bool true := hf 44 (by decide); simp [execOp, go_sem, hc, e41, e44]) ?_
  refine w_copy hrefl (.tmp 45) (.inl rfl) (.bool true) (.inl rfl) (fun ρ w _ hf => hf 45 (by decide)) ?_
  refine w_copy hrefl (.tmp 0) (.inl rfl) (.int .i64 a0) (.inr ⟨13, 46, true, rfl, rfl, known_is rfl⟩) (fun ρ w _ hf => hf 0 (by decide)) ?_
  refine w_call (fun v w => Bs w v (lo (IntKind.u64.wrap a0) 8)) (fun _ _ _ h hb => Bs_below h hb) 14 (.inr ⟨13, 46, true, rfl, rfl, known_is rfl⟩) (fun ρ w hC hc hfn hf => by have e47 : ρ (.tmp 47) = .int .i64 a0 := hf 47 (by decide); exact ⟨#[.int .i64 a0], by simp [execOp, resolve, invoke, go_sem, hc, hfn, e47], ((int_any a0 w).mono fun e w' ⟨r, he, hr, hb⟩ => ⟨_, he, hC.trans (hb.mono hC.size), hb, hr⟩)⟩) ?_
  refine w_is hrefl (.string I) (.inr ⟨13, 46, true, rfl, rfl, known_is rfl⟩) (fun ρ w hC hc hfn hf => by have e48 := Bs_conv (hf 48 (by decide)); simp [execOp, go_sem, e48, hI]) ?_
  refine w_copy hrefl (.tmp 0) (.inl rfl) (.int .i64 a0) (.inr ⟨13, 46, true, rfl, rfl, known_is rfl⟩) (fun ρ w _ hf => hf 0 (by decide)) ?_
  refine w_call (fun v w => Bs w v (lo (IntKind.u64.wrap a0) 8)) (fun _ _ _ h hb => Bs_below h hb) 15 (.inr ⟨13, 46, true, rfl, rfl, known_is rfl⟩) (fun ρ w hC hc hfn hf => by have e50 : ρ (.tmp 50) = .int .i64 a0 := hf 50 (by decide); exact ⟨#[.int .i64 a0], by simp [execOp, resolve, invoke, go_sem, hc, hfn, e50], ((rint_any a0 w hv0.1 hv0.2).mono fun e w' ⟨r, he, hr, hb⟩ => ⟨_, he, hC.trans (hb.mono hC.size), hb, hr⟩)⟩) ?_
  refine w_is hrefl (.string I) (.inr ⟨13, 46, true, rfl, rfl, known_is rfl⟩) (fun ρ w hC hc hfn hf => by have e51 := Bs_conv (hf 51 (by decide)); simp [execOp, go_sem, e51, hI]) ?_
  refine w_is hrefl (.bool true) (.inr ⟨13, 46, true, rfl, rfl, known_is rfl⟩) (fun ρ w hC hc hfn hf => by have e49 : ρ (.tmp 49) = .string I := hf 49 (by decide); have e52 : ρ (.tmp 52) = .string I := hf 52 (by decide); simp [execOp, go_sem, hc, e49, e52]) ?_
  refine w_is hrefl (.bool true) (.inl rfl) (fun ρ w hC hc hfn hf => by have e46 : ρ (.tmp 46) = .bool true := hf 46 (by decide); have e53 : ρ (.tmp 53) = .bool true := hf 53 (by decide); simp [execOp, go_sem, hc, e46, e53]) ?_
  refine w_copy hrefl (.tmp 54) (.inl rfl) (.bool true) (.inl rfl) (fun ρ w _ hf => hf 54 (by decide)) ?_
  refine w_copy hrefl (.tmp 12) (.inl rfl) (.int .i64 N) (.inr ⟨22, 55, true, rfl, rfl, known_is rfl⟩) (fun ρ w _ hf => hf 12 (by decide)) ?_
  refine w_copy hrefl (.tmp 2) (.inl rfl) (.slice a2 xs.length cap2) (.inr ⟨22, 55, true, rfl, rfl, known_is rfl⟩) (fun ρ w _ hf => hf 2 (by decide)) ?_
  refine w_call (Is (.int .i64 N)) (fun _ _ _ h _ => h) 16 (.inr ⟨22, 55, true, rfl, rfl, known_is rfl⟩) (fun ρ w hC hc hfn hf => by have e57 : ρ (.tmp 57) = .slice a2 xs.length cap2 := hf 57 (by decide); exact ⟨#[.slice a2 xs.length cap2], by simp [execOp, resolve, invoke, go_sem, hc, hfn, e57], ((rsum_any _ xs w (hBw w hC)).mono fun e w' ⟨he, hb⟩ => ⟨_, he, hb ▸ hC, hb ▸ Below.refl _ _, by rw [hN.out]; rfl⟩)⟩) ?_
  refine w_is hrefl (.bool true) (.inr ⟨22, 55, true, rfl, rfl, known_is rfl⟩) (fun ρ w hC hc hfn hf => by have e56 : ρ (.tmp 56) = .int .i64 N := hf 56 (by decide); have e58 : ρ (.tmp 58) = .int .i64 N := hf 58 (by decide); simp [execOp, go_sem, hc, e56, e58]) ?_
  refine w_is hrefl (.bool true) (.inl rfl) (fun ρ w hC hc hfn hf => by have e55 : ρ (.tmp 55) = .bool true := hf 55 (by decide); have e59 : ρ (.tmp 59) = .bool true := hf 59 (by decide); simp [execOp, go_sem, hc, e55, e59]) ?_
  refine w_copy hrefl (.tmp 60) (.inl rfl) (.bool true) (.inl rfl) (fun ρ w _ hf => hf 60 (by decide)) ?_
  refine w_copy hrefl (.tmp 7) (.inl rfl) (r0) (.inr ⟨28, 61, true, rfl, rfl, known_is rfl⟩) (fun ρ w _ hf => hf 7 (by decide)) ?_
  refine w_is hrefl (.string D) (.inr ⟨28, 61, true, rfl, rfl, known_is rfl⟩) (fun ρ w hC hc hfn hf => by have e62 : ρ (.tmp 62) = r0 := hf 62 (by decide); have hcv := hcR0 w hC; simp [execOp, go_sem, hcv, e62]) ?_
  refine w_copy hrefl (.tmp 2) (.inl rfl) (.slice a2 xs.length cap2) (.inr ⟨28, 61, true, rfl, rfl, known_is rfl⟩) (fun ρ w _ hf => hf 2 (by decide)) ?_
  refine w_is hrefl (.string D) (.inr ⟨28, 61, true, rfl, rfl, known_is rfl⟩) (fun ρ w hC hc hfn hf => by have e64 : ρ (.tmp 64) = .slice a2 xs.length cap2 := hf 64 (by decide); have hcv := hcB w hC; simp [execOp, go_sem, hcv, e64]) ?_
  refine w_is hrefl (.bool true) (.inr ⟨28, 61, true, rfl, rfl, known_is rfl⟩) (fun ρ w hC hc hfn hf => by have e63 : ρ (.tmp 63) = .string D := hf 63 (by decide); have e65 : ρ (.tmp 65) = .string D := hf 65 (by decide); simp [execOp, go_sem, hc, e63, e65]) ?_
  refine w_is hrefl (.bool true) (.inl rfl) (fun ρ w hC hc hfn hf => by have e61 : ρ (.tmp 61) = .bool true := hf 61 (by decide); have e66 : ρ (.tmp 66) = .bool true := hf 66 (by decide); simp [execOp, go_sem, hc, e61, e66]) ?_
  refine w_copy hrefl (.tmp 67) (.inr rfl) (.bool true) (.inl rfl) (fun ρ w _ hf => hf 67 (by decide)) ?_
  intro A W4 hC _ hd hf
  have h6 : A.eval (.tmp 6) = .bool true := hf 6
  have h6' : A.tmps.getD 6 undef = .bool true := h6
  clear hf
  simp only [Exit.then]
  refine ‹∀ (a : Act) (w : World), Code.wp Try.prog Code.ret _ a w → _› A W4 ?_
  refine wp_ret ?_
  refine bodyPost_ret (results_tmp rfl _ _ _) hd ?_
  exact ⟨congrArg Ending.returned h6', H3.out.trans (hC.mono H3.out.size)⟩

set_option maxRecDepth 100000 in
theorem lifted (os : Os) (started : os.Started) (H : Type) (enc : TypeId × Value → H) :
    ReturnsInHanded {} Try.checked os 3 .any (Rows.wirePutsSpec.pre6 enc Try.prog Try.f3 Rows.wirePutsRow.domain false) (Rows.wirePutsSpec.post enc Try.prog Try.f3 false true false false) := by
  refine returnsInHanded_of_change (C := Try.checked) own started (by kernel_rfl) Try.func3
    (ChangeSpec.witness6 (enc := enc) (C := Try.checked) false ⟨#[], #[.int .i64 0, .int .i64 0, .slice none 0 0], []⟩ 8 (by kernel_rfl) (by kernel_rfl) (by kernel_rfl) (by kernel_rfl)) ?_
  intro W base args ds gs before hval0 hW hcnd _
  have hval : ∀ (j : Nat) t v, Try.f3.params[j]? = some t → args[j]? = some v → Value.okWide Try.prog W .any base t v := hval0
  have hW' := hW
  obtain ⟨p, q, hA0, hV, rfl, hfz, hnd⟩ := hW
  have hA : DataW.TrodAll enc Try.prog W 0 (fun _ => true) true Try.f3.params.toList args.toList ds p := hA0
  rw [Try.params3] at hA hval
  obtain ⟨v0, vs0, d0, ds0, p0, q0, hargs, rfl, rfl, h0, r0⟩ := trodAll_cons hA
  obtain ⟨v1, vs1, d1, ds1, p1, q1, rfl, rfl, rfl, h1, r1⟩ := trodAll_cons r0
  obtain ⟨v2, vs2, d2, ds2, p2, q2, rfl, rfl, rfl, h2, r2⟩ := trodAll_cons r1
  obtain ⟨rfl, rfl, rfl⟩ := trodAll_nil r2
  obtain rfl : args = #[v0, v1, v2] := by cases args; simp_all
  obtain ⟨rfl, rfl⟩ := trodVars_none hV
  obtain ⟨a0, rfl, rfl, rfl, w0⟩ := open_int Try.underlying3 (hval 0 3 v0 rfl rfl) h0
  obtain ⟨a1, rfl, rfl, rfl, w1⟩ := open_int Try.underlying3 (hval 1 3 v1 rfl rfl) h1
  obtain ⟨a2, len2, cap2, rfl⟩ := okWide_slice Try.underlying22 (hval 2 22 v2 rfl rfl)
  have k2 := h2
  have lt2 : ∀ x ∈ p2, x.block < W.heap.size := by obtain ⟨m, hm⟩ := k2; exact DataW.trod_lt m _ _ _ hm
  obtain ⟨z2, w2⟩ : ∃ zs, IsRow .u8 W a2 len2 cap2 zs := by
    obtain ⟨fuel, hf⟩ := h2
    rcases open_ints Try.underlying22 Try.underlying5 (by kernel_rfl) hf with ⟨hcs, _⟩ | ⟨x, l, c, zs, hcs, _, hl, hm, hz, _, hcell, hwz⟩
    · simp [Value.cells] at hcs
      obtain ⟨rfl, rfl, rfl⟩ := hcs
      exact ⟨[], .inl ⟨rfl, rfl, rfl, rfl⟩⟩
    · simp [Value.cells] at hcs
      obtain ⟨rfl, rfl, rfl⟩ := hcs
      exact ⟨zs, .inr ⟨_, rfl, hl, hm, by simpa using hz, hcell, hwz⟩⟩
  clear hA0 hval0
  refine (walk a0 a1 a2 len2 cap2 z2 W w0 w1 w2).mono fun e W' ⟨he, bel⟩ => ?_
  subst he
  exact ⟨_, rfl, _, _, _, [], _, [], hW', trodAll_mk1 (shut_bool Try.underlying4 _), (trodAll_cons_mk (shut_int Try.underlying3 w0) (trodAll_cons_mk (shut_int Try.underlying3 w1) (trodAll_cons_mk (Below.trod laidOut (by kernel_rfl) (of_decide_eq_true (by kernel_rfl)) k2 bel lt2) trodAll_mk0))), rfl, bel.frame _, fun h => by cases h⟩

theorem over : Rows.wirePutsRow.holds Try.pinned (OpenSpec.ofChange Rows.wirePutsSpec) :=
  OpenClaim.holds_of_wide 3 Try.f3 rfl rfl rfl rfl rfl rfl rfl ⟨rfl, rfl, rfl, rfl, rfl⟩ rfl rfl rfl rfl rfl (by kernel_rfl) Try.func3 (by kernel_rfl)
    (of_decide_eq_true (by kernel_rfl)) (by unfold Func.isWrapper; first | (rw [if_pos (by decide +kernel)]; kernel_rfl) | (rw [if_neg (by decide +kernel)]; exact ⟨rfl, rfl⟩))
    (fun os started H enc _ => lifted os started H enc)

theorem proved : Rows.WirePutsSaid := over
#print axioms proved
end Go.Proofs.Yteofjlcaokajeaa.wirePuts
