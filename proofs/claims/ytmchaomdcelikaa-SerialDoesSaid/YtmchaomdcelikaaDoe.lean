/-
  thalweglaw03.SerialDoes: for any a, b, size, l the law answers true; no condition.
-/
import Derived.Test.YtmchaomdcelikaaRows
import Derived.Test.YtmchaomdcelikaaAwk
import Derived.Test.YtmchaomdcelikaaRso
import Derived.WalkKit
import Derived.ProofKit
import Derived.OpenShut
import Derived.ShutString
import Derived.ChangeOld
import Derived.Below
namespace Go.Proofs.Ytmchaomdcelikaa.serialDoes
open Go.ChangeShapes Go.WideShapes Go.ChangeAt Go.RowKit
open Go.ChangeMaps (open_string shut_string)
set_option linter.unusedVariables false

theorem own : ownKnob Try.prog.godebug = none := by kernel_rfl
theorem laidOut : laidOutB Try.prog = true := by kernel_rfl

def IsRow (k : IntKind) (w : World) (a : Option Addr) (len cap : Nat) (zs : List Int) : Prop :=
  (a = none ∧ len = 0 ∧ cap = 0 ∧ zs = []) ∨
  ∃ x, a = some x ∧ len ≤ cap ∧ cap ≤ maxLen ∧ zs.length = cap ∧ (∀ i, i < zs.length → w.cell? (x.add i) = some (.int k (zs.getD i 0))) ∧ ∀ n ∈ zs, (Lit.int k n).wf = true

theorem is_of {w : World} {a : Option Addr} {len cap : Nat} {zs : List Int} (h : IsRow .i64 w a len cap zs) : Zs w (.slice a len cap) (zs.take len) ∧ (zs.take len).length = len := by
  rcases h with ⟨rfl, rfl, rfl, rfl⟩ | ⟨x, rfl, hl, hm, hz, hcell, _⟩
  · exact ⟨Zs_nil w, rfl⟩
  · have hlen : (zs.take len).length = len := by rw [List.length_take]; omega
    refine ⟨⟨by rw [hlen]; unfold maxLen at hm; omega, ?_⟩, hlen⟩
    by_cases h0 : len = 0
    · subst h0; exact .inl ⟨some x, cap, rfl, (fun h => by cases h), by simp⟩
    · right
      obtain ⟨b, off, spot⟩ := x
      have hc := hcell 0 (by omega)
      have hspot : spot = none := by simpa [Addr.add] using World.cell?_spot hc
      subst hspot
      refine ⟨b, off, cap, by rw [hlen], by rw [hlen]; exact hl, fun i hi => ?_⟩
      have hi' : i < len := by omega
      have := hcell i (by omega)
      have hadd : (⟨b, off, none⟩ : Addr).add i = ⟨b, off + i, none⟩ := by unfold Addr.add; split <;> simp_all
      rw [hadd] at this
      rw [this]
      simp [List.getD, hi']

set_option maxHeartbeats 4000000 in
theorem walk (a0 : Int) (a1 : Int) (a2 : Int) (a3 : Option Addr) (len3 cap3 : Nat) (z3 : List Int) (w : World) (w0 : (Lit.int .i64 a0).wf = true) (w1 : (Lit.int .i64 a1).wf = true) (w2 : (Lit.int .i64 a2).wf = true) (w3 : IsRow .i64 w a3 len3 cap3 z3) :
    Calls Try.prog 3 #[.int .i64 a0, .int .i64 a1, .int .i64 a2, .slice a3 len3 cap3] w fun e w' => e = .returned (.bool true) ∧ Below w.heap.size w w' := by
  by_cases hbig : 100 < len3
  · go_enter Try.func3, Try.ntmps3
    go_wp2
    go_ret
    exact ⟨rfl, Below.refl _ _⟩
  obtain ⟨hI, hlen⟩ := is_of w3
  have hlen' : len3 ≤ 100 := by omega
  have h9 : (z3.take len3).length ≤ 100 := by omega
  have hbig' : ¬ (100 : Int) < (len3 : Int) := by omega
  clear hlen hbig w3
  have S0 := Lib.hid hI
  have C1 := Lib.hid (row_any _ _ _ hI h9)
  have C2 := Lib.hid (fun v W h => sort_any v (z3.take len3) a0 W h h9)
  have C3 := Lib.hid (fun v W h => rsort_any v (z3.take len3) a0 W h h9)
  have L1 := Lib.hid (srt_len a0 (z3.take len3))
  generalize z3.take len3 = xs at *
  generalize srt a0 xs = ys at *
  have N1 := Lib.hid (next_any a0)
  have N2 := Lib.hid (rnext_any a0)
  generalize nxt a0 = nx at *
  have F1 := Lib.hid (far_any a0 a1)
  have F2 := Lib.hid (rfar_any a0 a1)
  have G1 := Lib.hid (less_any a0 a1)
  have G2 := Lib.hid (rless_any a0 a1)
  have W1 := Lib.hid (within_any a0 a1 a2)
  have W2 := Lib.hid (rwithin_any a0 a1 a2)
  generalize far a0 a1 = fa at *
  generalize lessB a0 a1 = le at *
  generalize withB a0 a1 a2 = wi at *
  clear hI
  go_enter Try.func3, Try.ntmps3
  go_wp2_with fail
  refine C1.out.mono ?_
  rintro e w1 ⟨u1, rfl, hu, hb⟩
  have HB1 := Lib.hid hb
  have U1 := Lib.hid hu
  have S1 := Lib.hid (Zs_below S0.out hb)
  clear hu hb
  go_wp2_with fail
  refine (C2.out _ _ U1.out).mono ?_
  rintro e w2 ⟨u2, rfl, hu, hb⟩
  have HB2 := Lib.hid (HB1.out.trans (hb.mono HB1.out.size))
  have U2 := Lib.hid (Zs_below U1.out hb)
  have V2 := Lib.hid hu
  have S2 := Lib.hid (Zs_below S1.out hb)
  clear hu hb
  go_wp2_with fail
  refine (awake_any _).mono ?_
  rintro e w3 ⟨rfl, hb⟩
  have HB3 := Lib.hid (HB2.out.trans (hb.mono HB2.out.size))
  have U3 := Lib.hid (Zs_below U2.out hb)
  have V3 := Lib.hid (Zs_below V2.out hb)
  have S3 := Lib.hid (Zs_below S2.out hb)
  clear hb
  go_wp2_with fail
  refine (N1.out _).mono ?_
  rintro e w4 ⟨rfl, hb⟩
  have HB4 := Lib.hid (HB3.out.trans (hb.mono HB3.out.size))
  have U4 := Lib.hid (Zs_below U3.out hb)
  have V4 := Lib.hid (Zs_below V3.out hb)
  have S4 := Lib.hid (Zs_below S3.out hb)
  clear hb
  go_wp2_with fail
  refine (N2.out _).mono ?_
  rintro e w' ⟨rfl, rfl⟩
  go_wp2_with fail
  refine (F1.out _).mono ?_
  rintro e w5 ⟨rfl, hb⟩
  have HB5 := Lib.hid (HB4.out.trans (hb.mono HB4.out.size))
  have U5 := Lib.hid (Zs_below U4.out hb)
  have V5 := Lib.hid (Zs_below V4.out hb)
  have S5 := Lib.hid (Zs_below S4.out hb)
  clear hb
  go_wp2_with fail
  refine (F2.out _).mono ?_
  rintro e w' ⟨rfl, rfl⟩
  go_wp2_with fail
  refine (G1.out _).mono ?_
  rintro e w6 ⟨rfl, hb⟩
  have HB6 := Lib.hid (HB5.out.trans (hb.mono HB5.out.size))
  have U6 := Lib.hid (Zs_below U5.out hb)
  have V6 := Lib.hid (Zs_below V5.out hb)
  have S6 := Lib.hid (Zs_below S5.out hb)
  clear hb
  go_wp2_with fail
  refine (G2.out _).mono ?_
  rintro e w' ⟨rfl, rfl⟩
  go_wp2_with fail
  refine (W1.out _).mono ?_
  rintro e w7 ⟨rfl, hb⟩
  have HB7 := Lib.hid (HB6.out.trans (hb.mono HB6.out.size))
  have U7 := Lib.hid (Zs_below U6.out hb)
  have V7 := Lib.hid (Zs_below V6.out hb)
  have S7 := Lib.hid (Zs_below S6.out hb)
  clear hb
  go_wp2_with fail
  refine (W2.out _).mono ?_
  rintro e w' ⟨rfl, rfl⟩
  go_wp2_with fail
  refine (C3.out _ _ S7.out).mono ?_
  rintro e w8 ⟨u8, rfl, hu, hb⟩
  have HB8 := Lib.hid (HB7.out.trans (hb.mono HB7.out.size))
  have U8 := Lib.hid (Zs_below U7.out hb)
  have V8 := Lib.hid (Zs_below V7.out hb)
  have S8 := Lib.hid (Zs_below S7.out hb)
  have R8 := Lib.hid hu
  clear hu hb
  have I1 := ints_any u2 u8 ys ys w8 V8.out R8.out
  rw [decide_eq_true rfl] at I1
  go_wp2_with fail
  refine (I1).mono ?_
  rintro e w9 ⟨rfl, hb⟩
  have HB9 := Lib.hid (HB8.out.trans (hb.mono HB8.out.size))
  have U9 := Lib.hid (Zs_below U8.out hb)
  have V9 := Lib.hid (Zs_below V8.out hb)
  have S9 := Lib.hid (Zs_below S8.out hb)
  clear hb
  have I2 := ints_any _ _ xs xs w9 U9.out S9.out
  rw [decide_eq_true rfl] at I2
  go_wp2_with fail
  refine (I2).mono ?_
  rintro e w10 ⟨rfl, hb⟩
  have HB10 := Lib.hid (HB9.out.trans (hb.mono HB9.out.size))
  have U10 := Lib.hid (Zs_below U9.out hb)
  have V10 := Lib.hid (Zs_below V9.out hb)
  have S10 := Lib.hid (Zs_below S9.out hb)
  clear hb
  go_wp2_with fail
  go_ret
  exact ⟨rfl, HB10.out⟩

set_option maxRecDepth 100000 in
theorem lifted (os : Os) (started : os.Started) (H : Type) (enc : TypeId × Value → H) :
    ReturnsInHanded {} Try.checked os 3 .any (Rows.serialDoesSpec.pre6 enc Try.prog Try.f3 Rows.serialDoesRow.domain false) (Rows.serialDoesSpec.post enc Try.prog Try.f3 false true false false) := by
  refine returnsInHanded_of_change (C := Try.checked) own started (by kernel_rfl) Try.func3
    (ChangeSpec.witness6 (enc := enc) (C := Try.checked) false ⟨#[], #[.int .i64 0, .int .i64 0, .int .i64 0, .slice none 0 0], []⟩ 8 (by kernel_rfl) (by kernel_rfl) (by kernel_rfl) (by kernel_rfl)) ?_
  intro W base args ds gs before hval0 hW hcnd _
  have hval : ∀ (j : Nat) t v, Try.f3.params[j]? = some t → args[j]? = some v → Value.okWide Try.prog W .any base t v := hval0
  have hW' := hW
  obtain ⟨p, q, hA0, hV, rfl, hfz, hnd⟩ := hW
  have hA : DataW.TrodAll enc Try.prog W 0 (fun _ => true) true Try.f3.params.toList args.toList ds p := hA0
  rw [Try.params3] at hA hval
  obtain ⟨v0, vs0, d0, ds0, p0, q0, hargs, rfl, rfl, h0, r0⟩ := trodAll_cons hA
  obtain ⟨v1, vs1, d1, ds1, p1, q1, rfl, rfl, rfl, h1, r1⟩ := trodAll_cons r0
  obtain ⟨v2, vs2, d2, ds2, p2, q2, rfl, rfl, rfl, h2, r2⟩ := trodAll_cons r1
  obtain ⟨v3, vs3, d3, ds3, p3, q3, rfl, rfl, rfl, h3, r3⟩ := trodAll_cons r2
  obtain ⟨rfl, rfl, rfl⟩ := trodAll_nil r3
  obtain rfl : args = #[v0, v1, v2, v3] := by cases args; simp_all
  obtain ⟨rfl, rfl⟩ := trodVars_none hV
  obtain ⟨a0, rfl, rfl, rfl, w0⟩ := open_int Try.underlying3 (hval 0 3 v0 rfl rfl) h0
  obtain ⟨a1, rfl, rfl, rfl, w1⟩ := open_int Try.underlying3 (hval 1 3 v1 rfl rfl) h1
  obtain ⟨a2, rfl, rfl, rfl, w2⟩ := open_int Try.underlying3 (hval 2 3 v2 rfl rfl) h2
  obtain ⟨a3, len3, cap3, rfl⟩ := okWide_slice Try.underlying22 (hval 3 22 v3 rfl rfl)
  have k3 := h3
  have lt3 : ∀ x ∈ p3, x.block < W.heap.size := by obtain ⟨m, hm⟩ := k3; exact DataW.trod_lt m _ _ _ hm
  obtain ⟨z3, w3⟩ : ∃ zs, IsRow .i64 W a3 len3 cap3 zs := by
    obtain ⟨fuel, hf⟩ := h3
    rcases open_ints Try.underlying22 Try.underlying3 (by kernel_rfl) hf with ⟨hcs, _⟩ | ⟨x, l, c, zs, hcs, _, hl, hm, hz, _, hcell, hwz⟩
    · simp [Value.cells] at hcs
      obtain ⟨rfl, rfl, rfl⟩ := hcs
      exact ⟨[], .inl ⟨rfl, rfl, rfl, rfl⟩⟩
    · simp [Value.cells] at hcs
      obtain ⟨rfl, rfl, rfl⟩ := hcs
      exact ⟨zs, .inr ⟨_, rfl, hl, hm, by simpa using hz, hcell, hwz⟩⟩
  clear hA0 hval0
  refine (walk a0 a1 a2 a3 len3 cap3 z3 W w0 w1 w2 w3).mono fun e W' ⟨he, bel⟩ => ?_
  subst he
  exact ⟨_, rfl, _, _, _, [], _, [], hW', trodAll_mk1 (shut_bool Try.underlying4 _), (trodAll_cons_mk (shut_int Try.underlying3 w0) (trodAll_cons_mk (shut_int Try.underlying3 w1) (trodAll_cons_mk (shut_int Try.underlying3 w2) (trodAll_cons_mk (Below.trod laidOut (by kernel_rfl) (of_decide_eq_true (by kernel_rfl)) k3 bel lt3) trodAll_mk0)))), rfl, bel.frame _, fun h => by cases h⟩

theorem over : Rows.serialDoesRow.holds Try.pinned (OpenSpec.ofChange Rows.serialDoesSpec) :=
  OpenClaim.holds_of_wide 3 Try.f3 rfl rfl rfl rfl rfl rfl rfl ⟨rfl, rfl, rfl, rfl, rfl⟩ rfl rfl rfl rfl rfl (by kernel_rfl) Try.func3 (by kernel_rfl)
    (of_decide_eq_true (by kernel_rfl)) (by unfold Func.isWrapper; first | (rw [if_pos (by decide +kernel)]; kernel_rfl) | (rw [if_neg (by decide +kernel)]; exact ⟨rfl, rfl⟩))
    (fun os started H enc _ => lifted os started H enc)

theorem proved : Rows.SerialDoesSaid := over
#print axioms proved
end Go.Proofs.Ytmchaomdcelikaa.serialDoes
