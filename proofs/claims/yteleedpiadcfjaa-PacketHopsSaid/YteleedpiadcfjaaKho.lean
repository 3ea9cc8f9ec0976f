/- thalweglaw08.PacketHops: for any packet the law answers true: it has as many hops as its Ttl says, and turns nothing else by them; no condition. -/
import Derived.Test.YteleedpiadcfjaaPkf
import Derived.Test.YteleedpiadcfjaaPkg
import Derived.WalkLawsBesides
import Derived.WalkKit
import Derived.ProofKit
import Derived.OpenShut
import Derived.ShutString
import Derived.ChangeOld
import Derived.Below
namespace Go.Proofs.Yteleedpiadcfjaa.packetHops
open Go.ChangeShapes Go.WideShapes Go.ChangeAt Go.RowKit
open Go.ChangeMaps (open_string shut_string)
set_option linter.unusedVariables false
set_option maxRecDepth 100000

theorem own : ownKnob Try.prog.godebug = none := by kernel_rfl
theorem laidOut : laidOutB Try.prog = true := by kernel_rfl

theorem case_big (H : Pc) (ps0 pd0 pt0 pn0 : Int) (px0 : ByteArray) (w : World) (h : (600 : Int) < (px0.size : Int)) :
    Calls Try.prog 6 #[.agg #[.int .i64 ps0, .int .i64 pd0, .int .i64 pt0, .int .i64 pn0, .string px0]] w fun e w' => e = .returned (.bool true) ∧ Below w.heap.size w w' := by
  have HB : Hid (Below w.heap.size w (w.alloc (.cells #[.int .i64 ps0, .int .i64 pd0, .int .i64 pt0, .int .i64 pn0, .string px0] 23))) := (Below.refl _ w).alloc (Nat.le_refl _) _
  go_enter Try.func6, Try.ntmps6
  go_wp2_with fail
  refine (awake8 H _).mono ?_
  rintro e V1 ⟨rfl, hb⟩
  have HB1 := Lib.hid (HB.out.trans (hb.mono HB.out.size))
  clear hb
  go_wp2_with fail
  go_ret
  exact ⟨rfl, HB1.out⟩
theorem case_no (H : Pc) (ps0 pd0 pt0 pn0 : Int) (px0 : ByteArray) (w : World) (h : ¬ (600 : Int) < (px0.size : Int)) (hq : ¬ PkOk ps0 pd0 pt0 pn0 px0) :
    Calls Try.prog 6 #[.agg #[.int .i64 ps0, .int .i64 pd0, .int .i64 pt0, .int .i64 pn0, .string px0]] w fun e w' => e = .returned (.bool true) ∧ Below w.heap.size w w' := by
  have HB : Hid (Below w.heap.size w (w.alloc (.cells #[.int .i64 ps0, .int .i64 pd0, .int .i64 pt0, .int .i64 pn0, .string px0] 23))) := (Below.refl _ w).alloc (Nat.le_refl _) _
  have cK := fun W => H.chk ps0 pd0 pt0 pn0 px0 W
  rw [show kP ps0 pd0 pt0 pn0 px0 = 1 from if_neg hq] at cK
  clear hq
  go_enter Try.func6, Try.ntmps6
  go_wp2_with fail
  refine (cK _).mono ?_
  rintro e V0 ⟨rfl, hb⟩
  have HB0 := Lib.hid (HB.out.trans (hb.mono HB.out.size))
  clear hb
  go_wp2_with fail
  refine (awake8 H _).mono ?_
  rintro e V1 ⟨rfl, hb⟩
  have HB1 := Lib.hid (HB0.out.trans (hb.mono HB0.out.size))
  clear hb
  go_wp2_with fail
  go_ret
  exact ⟨rfl, HB1.out⟩
set_option maxHeartbeats 16000000 in
theorem case_ok (H : Pc) (ps0 pd0 pt0 pn0 : Int) (px0 : ByteArray) (w : World) (h : ¬ (600 : Int) < (px0.size : Int)) (hq : PkOk ps0 pd0 pt0 pn0 px0) :
    Calls Try.prog 6 #[.agg #[.int .i64 ps0, .int .i64 pd0, .int .i64 pt0, .int .i64 pn0, .string px0]] w fun e w' => e = .returned (.bool true) ∧ Below w.heap.size w w' := by
  obtain ⟨K, hK⟩ : ∃ K : Nat, pt0 = K := ⟨pt0.toNat, by have := hq.2.2.1.1; omega⟩
  subst hK
  have HB : Hid (Below w.heap.size w (w.alloc (.cells #[.int .i64 ps0, .int .i64 pd0, .int .i64 (K : Int), .int .i64 pn0, .string px0] 23))) := (Below.refl _ w).alloc (Nat.le_refl _) _
  have O0 := Lib.hid (ownp_alloc w ps0 pd0 (K : Int) pn0 px0 23 w.heap.size rfl)
  have cK := fun W => H.chk ps0 pd0 (K : Int) pn0 px0 W
  rw [show kP ps0 pd0 (K : Int) pn0 px0 = 0 from if_pos hq] at cK
  have HQ := Lib.hid hq
  have HK : Hid (K ≤ 255) := by have := hq.2.2.1.2; show _ ≤ _; omega
  clear hq
  have hop : Hid (∀ j : Nat, j < K → ∀ W, Calls Try.prog 10 #[.agg #[.int .i64 ps0, .int .i64 pd0, .int .i64 ((K : Int) - j), .int .i64 pn0, .string px0]] W fun e w' => e = .returned (.tuple #[.agg #[.int .i64 ps0, .int .i64 pd0, .int .i64 ((K : Int) - (j + 1)), .int .i64 pn0, .string px0], .int .i64 0]) ∧ Below W.heap.size W w') := fun j hj W => by
    have hok : PkOk ps0 pd0 ((K : Int) - j) pn0 px0 := ⟨HQ.out.1, HQ.out.2.1, by have := HK.out; omega, HQ.out.2.2.2⟩
    have h1 := H.hop ps0 pd0 ((K : Int) - j) pn0 px0 W
    rw [show hopE ps0 pd0 ((K : Int) - j) pn0 px0 = 0 by unfold hopE; rw [if_pos hok, if_neg (by omega)], show hopP ps0 pd0 ((K : Int) - j) pn0 px0 = (ps0, pd0, (K : Int) - (j + 1), pn0, px0) by unfold hopP; rw [if_pos ⟨hok, by omega⟩]; simp only [Prod.mk.injEq, true_and, and_true]; omega] at h1
    exact h1
  have hop0 : Hid (∀ W, Calls Try.prog 10 #[.agg #[.int .i64 ps0, .int .i64 pd0, .int .i64 0, .int .i64 pn0, .string px0]] W fun e w' => e = .returned (.tuple #[.agg #[.int .i64 0, .int .i64 0, .int .i64 0, .int .i64 0, .string ⟨#[]⟩], .int .i64 7]) ∧ Below W.heap.size W w') := fun W => by
    have hok : PkOk ps0 pd0 0 pn0 px0 := ⟨HQ.out.1, HQ.out.2.1, ⟨by decide, by decide⟩, HQ.out.2.2.2⟩
    have h1 := H.hop ps0 pd0 0 pn0 px0 W
    rw [show hopE ps0 pd0 0 pn0 px0 = 7 by unfold hopE; rw [if_pos hok, if_pos rfl], show hopP ps0 pd0 0 pn0 px0 = (0, 0, 0, 0, ⟨#[]⟩) by unfold hopP; rw [if_neg (fun h => h.2 rfl)]] at h1
    exact h1
  go_enter Try.func6, Try.ntmps6
  go_wp2_with fail
  refine (cK _).mono ?_
  rintro e V0 ⟨rfl, hb⟩
  replace O0 := Lib.hid (O0.out.below hb)
  replace HB := Lib.hid (HB.out.trans (hb.mono HB.out.size))
  clear hb cK
  obtain ⟨⟨p0, p1, p2, p3, p4⟩, -⟩ := O0.out
  have hal : Below V0.heap.size V0 (V0.alloc (.cells #[.int .i64 ps0, .int .i64 pd0, .int .i64 (K : Int), .int .i64 pn0, .string px0] 23)) := (Below.refl _ V0).alloc (Nat.le_refl _) _
  have O1 := Lib.hid (ownp_alloc V0 ps0 pd0 (K : Int) pn0 px0 23 V0.heap.size rfl)
  replace O0 := Lib.hid (O0.out.below hal)
  replace HB := Lib.hid (HB.out.trans (hal.mono HB.out.size))
  clear hal
  obtain ⟨g1, hg⟩ : ∃ g1, V0.heap.size = g1 := ⟨_, rfl⟩
  obtain ⟨U0, hU⟩ : ∃ U0, V0.alloc (.cells #[.int .i64 ps0, .int .i64 pd0, .int .i64 (K : Int), .int .i64 pn0, .string px0] 23) = U0 := ⟨_, rfl⟩
  rw [hU] at HB O1 O0
  rw [hg] at O1
  have LT : Hid (w.heap.size < g1) := by
    have h1 : w.heap.size < V0.heap.size := World.block_lt_of_cell? V0 _ p0
    show _ < _
    omega
  go_wp2_with fail
  clear hU hg p0 p1 p2 p3 p4
  go_loopw [4] (fun i wr => ∃ j : Nat, j ≤ K ∧ i = .int .i64 (j : Int) ∧ OwnP wr w.heap.size ps0 pd0 (K : Int) pn0 px0 ∧ OwnP wr g1 ps0 pd0 ((K : Int) - j) pn0 px0 ∧ Below w.heap.size w wr) (fun i _ => K - (intOf i).toNat)
  case atStart => exact ⟨0, Nat.zero_le _, rfl, O0.out, by simpa using O1.out, HB.out⟩
  case round =>
    obtain ⟨j, hj, rfl, h0, h1, hbel⟩ := hrel
    replace O0 := Lib.hid h0
    replace O1 := Lib.hid h1
    replace HB := Lib.hid hbel
    clear h0 h1 hbel
    obtain ⟨⟨p0, p1, p2, p3, p4⟩, -⟩ := O0.out
    have hK255 : K ≤ 255 := HK.out
    by_cases hlt : j < K
    · have hh := Lib.hid (fun W => hop.out j hlt W)
      have ht : IntKind.i64.wrap ((K : Int) - j - 1) = (K : Int) - (j + 1) := by have := HK.out; rw [IntKind.wrap_i64]; omega
      have HT := Lib.hid ht
      obtain ⟨tj, htj⟩ : ∃ tj, (K : Int) - j = tj := ⟨_, rfl⟩
      obtain ⟨tk, htk⟩ : ∃ tk, (K : Int) - (j + 1) = tk := ⟨_, rfl⟩
      rw [htj] at O1 ht hh
      rw [htk] at ht hh
      have HTK := Lib.hid htk
      have hlt' : (j : Int) < (K : Int) := by omega
      clear htj htk HT
      obtain ⟨⟨q0, q1, q2, q3, q4⟩, qf⟩ := O1.out
      go_wp2_with fail
      refine (hh.out _).mono ?_
      rintro e V5 ⟨rfl, hb⟩
      clear p0 p1 p2 p3 p4 q0 q1 q2 q3 q4 qf
      replace O0 := Lib.hid (O0.out.below hb)
      replace O1 := Lib.hid (O1.out.below hb)
      replace HB := Lib.hid (HB.out.trans (hb.mono HB.out.size))
      clear hb
      have LT5a : Hid (g1 < V5.heap.size) := O1.out.lt
      have hal : Below V5.heap.size V5 (V5.alloc (.cells #[.int .i64 ps0, .int .i64 pd0, .int .i64 tk, .int .i64 pn0, .string px0] 23)) := (Below.refl _ V5).alloc (Nat.le_refl _) _
      have O5 := Lib.hid (ownp_alloc V5 ps0 pd0 tk pn0 px0 23 V5.heap.size rfl)
      replace O0 := Lib.hid (O0.out.below hal)
      replace O1 := Lib.hid (O1.out.below hal)
      replace HB := Lib.hid (HB.out.trans (hal.mono HB.out.size))
      clear hal
      obtain ⟨g5, hg⟩ : ∃ g5, V5.heap.size = g5 := ⟨_, rfl⟩
      obtain ⟨U5, hU⟩ : ∃ U5, V5.alloc (.cells #[.int .i64 ps0, .int .i64 pd0, .int .i64 tk, .int .i64 pn0, .string px0] 23) = U5 := ⟨_, rfl⟩
      rw [hU] at HB O5 O0 O1
      rw [hg] at O5
      have LT5 : Hid (g1 < g5) := by
        have h1 : g1 < V5.heap.size := LT5a.out
        show _ < _
        omega
      obtain ⟨⟨p0, p1, p2, p3, p4⟩, pf⟩ := O0.out
      obtain ⟨⟨q0, q1, q2, q3, q4⟩, qf⟩ := O1.out
      obtain ⟨⟨r0, r1, r2, r3, r4⟩, rf⟩ := O5.out
      go_wp2_with fail
      go_roundw
      case rel =>
        have hne : w.heap.size ≠ g1 := Nat.ne_of_lt LT.out
        refine ⟨j + 1, by omega, by go_num, ((((O0.out.apart hne 0).apart hne 1).apart hne 2).apart hne 3).apart hne 4, ?_, bel_put5 HB.out (Nat.le_of_lt LT.out) ps0 pd0 tk pn0 px0⟩
        rw [show (K : Int) - ((j + 1 : Nat) : Int) = tk by have := HTK.out; push_cast; exact this]
        exact O1.out.set ps0 pd0 tk pn0 px0
      case measure => simp [intOf]; omega
    · obtain rfl : j = K := by omega
      have ht0 : (j : Int) - j = 0 := by omega
      rw [ht0] at O1
      obtain ⟨⟨q0, q1, q2, q3, q4⟩, qf⟩ := O1.out
      go_wp2_with fail
      refine (hop0.out _).mono ?_
      rintro e V5 ⟨rfl, hb⟩
      replace HB : Hid (Below w.heap.size w (V5.alloc (.cells #[.int .i64 0, .int .i64 0, .int .i64 0, .int .i64 0, .string ⟨#[]⟩] 23))) := (HB.out.trans (hb.mono HB.out.size)).alloc (HB.out.trans (hb.mono HB.out.size)).size _
      clear hb p0 p1 p2 p3 p4 q0 q1 q2 q3 q4 qf
      go_wp2_with fail
      refine (awake8 H _).mono ?_
      rintro e V6 ⟨rfl, hb⟩
      replace HB := Lib.hid (HB.out.trans (hb.mono HB.out.size))
      clear hb
      go_wp2_with fail
      go_ret
      exact ⟨rfl, HB.out⟩
theorem walk (H : Pc) (ps0 pd0 pt0 pn0 : Int) (px0 : ByteArray) (w : World) :
    Calls Try.prog 6 #[.agg #[.int .i64 ps0, .int .i64 pd0, .int .i64 pt0, .int .i64 pn0, .string px0]] w fun e w' => e = .returned (.bool true) ∧ Below w.heap.size w w' := by
  by_cases h : (600 : Int) < (px0.size : Int)
  · exact case_big H ps0 pd0 pt0 pn0 px0 w h
  · by_cases hq : PkOk ps0 pd0 pt0 pn0 px0
    · exact case_ok H ps0 pd0 pt0 pn0 px0 w h hq
    · exact case_no H ps0 pd0 pt0 pn0 px0 w h hq

set_option maxRecDepth 100000 in
theorem lifted (os : _root_.Go.Os) (started : os.Started) (H : Type) (enc : TypeId × Value → H) :
    ReturnsInHanded {} Try.checked os 6 .any (Rows.packetHopsSpec.pre6 enc Try.prog Try.f6 Rows.packetHopsRow.domain false) (Rows.packetHopsSpec.post enc Try.prog Try.f6 false true false false) := by
  refine returnsInHanded_of_change (C := Try.checked) own started (by kernel_rfl) Try.func6
    (ChangeSpec.witness6 (enc := enc) (C := Try.checked) false ⟨#[], #[.agg #[.int .i64 0, .int .i64 0, .int .i64 0, .int .i64 0, .string ⟨#[]⟩]], []⟩ 16 (by kernel_rfl) (by kernel_rfl) (by kernel_rfl) (by kernel_rfl)) ?_
  intro W base args ds gs before hval0 hW hcnd _
  have hval : ∀ (j : Nat) t v, Try.f6.params[j]? = some t → args[j]? = some v → Value.okWide Try.prog W .any base t v := hval0
  have hW' := hW
  obtain ⟨p, q, hA0, hV, rfl, hfz, hnd⟩ := hW
  have hA : DataW.TrodAll enc Try.prog W 0 (fun _ => true) true Try.f6.params.toList args.toList ds p := hA0
  rw [Try.params6] at hA hval
  obtain ⟨v0, vs0, e0, ds0, p0, q0, hargs, rfl, rfl, h0, x0⟩ := trodAll_cons hA
  obtain ⟨rfl, rfl, rfl⟩ := trodAll_nil x0
  obtain rfl : args = #[v0] := by cases args; simp_all
  obtain ⟨rfl, rfl⟩ := trodVars_none hV
  have k0 := h0
  have lt0 : ∀ x ∈ p0, x.block < W.heap.size := by obtain ⟨m, hm⟩ := k0; exact DataW.trod_lt m _ _ _ hm
  obtain ⟨ps0, pd0, pt0, pn0, px0, rfl, _, _⟩ := pk_form (hval 0 23 v0 rfl rfl) h0
  clear hA0 hval0
  refine (walk pc ps0 pd0 pt0 pn0 px0 W).mono fun e W' ⟨he, bel⟩ => ?_
  subst he
  exact ⟨_, rfl, _, _, _, [], _, [], hW', trodAll_mk1 (shut_bool Try.underlying4 _), (trodAll_cons_mk (Below.trod laidOut (by kernel_rfl) (of_decide_eq_true (by kernel_rfl)) k0 bel lt0) trodAll_mk0), rfl, bel.frame _, fun h => by cases h⟩

theorem over : Rows.packetHopsRow.holds Try.pinned (OpenSpec.ofChange Rows.packetHopsSpec) :=
  OpenClaim.holds_of_wide 6 Try.f6 rfl rfl rfl rfl rfl rfl rfl ⟨rfl, rfl, rfl, rfl, rfl⟩ rfl rfl rfl rfl rfl (by kernel_rfl) Try.func6 (by kernel_rfl)
    (of_decide_eq_true (by kernel_rfl)) (by unfold Func.isWrapper; first | (rw [if_pos (by decide +kernel)]; kernel_rfl) | (rw [if_neg (by decide +kernel)]; exact ⟨rfl, rfl⟩))
    (fun os started H enc _ => lifted os started H enc)

theorem proved : Rows.PacketHopsSaid := over
#print axioms proved
end Go.Proofs.Yteleedpiadcfjaa.packetHops
