/- thalweglaw08.PacketReads: for any bytes and any place the law answers true; no condition. -/
import Derived.Test.YteleedpiadcfjaaPkf
import Derived.Test.YteleedpiadcfjaaPkg
import Derived.WalkLawsBesides
import Derived.WalkKit
import Derived.ProofKit
import Derived.OpenShut
import Derived.ShutString
import Derived.ChangeOld
import Derived.Below
namespace Go.Proofs.Yteleedpiadcfjaa.packetReads
open Go.ChangeShapes Go.WideShapes Go.ChangeAt Go.RowKit
open Go.ChangeMaps (open_string shut_string)
set_option linter.unusedVariables false
set_option maxRecDepth 100000

theorem own : ownKnob Try.prog.godebug = none := by kernel_rfl
theorem laidOut : laidOutB Try.prog = true := by kernel_rfl
def IsRow (k : IntKind) (w : World) (a : Option Addr) (len cap : Nat) (zs : List Int) : Prop :=
  (a = none ∧ len = 0 ∧ cap = 0 ∧ zs = []) ∨
  ∃ x, a = some x ∧ len ≤ cap ∧ cap ≤ maxLen ∧ zs.length = cap ∧ (∀ i, i < zs.length → w.cell? (x.add i) = some (.int k (zs.getD i 0))) ∧ ∀ n ∈ zs, (Lit.int k n).wf = true

theorem bs_of {w : World} {a : Option Addr} {len cap : Nat} {zs : List Int} (h : IsRow .u8 w a len cap zs) : Bs w (.slice a len cap) (zs.take len) ∧ (zs.take len).length = len := by
  rcases h with ⟨rfl, rfl, rfl, rfl⟩ | ⟨x, rfl, hl, hm, hz, hcell, hwz⟩
  · exact ⟨Bs_nil w, rfl⟩
  · have hlen : (zs.take len).length = len := by rw [List.length_take]; omega
    refine ⟨⟨fun n hn => ?_, by rw [hlen]; unfold maxLen at hm; omega, ?_⟩, hlen⟩
    · have := hwz n (List.take_subset _ _ hn)
      have b := bounds_u8 this
      omega
    · by_cases h0 : len = 0
      · subst h0; exact .inl ⟨some x, cap, rfl, (fun h => by cases h), by simp⟩
      · right
        obtain ⟨b, off, spot⟩ := x
        have hc := hcell 0 (by omega)
        have hspot : spot = none := by simpa [Addr.add] using World.cell?_spot hc
        subst hspot
        refine ⟨b, off, cap, by rw [hlen], by rw [hlen]; exact hl, fun i hi => ?_⟩
        have hi' : i < len := by omega
        have := hcell i (by omega)
        have hadd : (⟨b, off, none⟩ : Addr).add i = ⟨b, off + i, none⟩ := by unfold Addr.add; split <;> simp_all
        rw [hadd] at this
        rw [this]
        simp [List.getD, hi']

theorem early (a0 : Option Addr) (len0 cap0 : Nat) (a1 : Int) (w : World) (h : (500 : Int) < (len0 : Int)) :
    Calls Try.prog 4 #[.slice a0 len0 cap0, .int .i64 a1] w fun e w' => e = .returned (.bool true) ∧ Below w.heap.size w w' := by
  go_enter Try.func4, Try.ntmps4
  go_wp2_with fail
  go_ret
  exact ⟨rfl, Below.refl _ _⟩
set_option maxHeartbeats 16000000 in
theorem case_ok (H : Pc) (a0 : Option Addr) (len0 cap0 : Nat) (a1 : Int) (w : World) (xs : List Int) (w0 : Bs w (.slice a0 len0 cap0) xs) (h : ¬ (500 : Int) < (len0 : Int)) :
    Calls Try.prog 4 #[.slice a0 len0 cap0, .int .i64 a1] w fun e w' => e = .returned (.bool true) ∧ Below w.heap.size w w' := by
  have R0 := Lib.hid w0
  have HB : Hid (Below w.heap.size w w) := Below.refl _ _
  have c1 := fun W hv => H.par (.slice a0 len0 cap0) xs a1 W hv
  have c2 := fun W hv => rpparse_any (.slice a0 len0 cap0) xs a1 W hv
  generalize pkT (pkPF xs a1) = T at *
  generalize pkE (pkPF xs a1) = E at *
  generalize pkR (pkPF xs a1) = r at *
  obtain ⟨r1, r2, r3, r4, rx⟩ := r
  simp only at c1 c2
  have C1 := Lib.hid c1
  have C2 := Lib.hid c2
  clear w0 c1 c2
  go_enter Try.func4, Try.ntmps4
  go_wp2_with fail
  refine (C1.out _ R0.out).mono ?_
  rintro e V1 ⟨rfl, hb⟩
  replace R0 := Lib.hid (Bs_below R0.out hb)
  replace HB := Lib.hid (HB.out.trans (hb.mono HB.out.size))
  clear hb
  have hal : Below V1.heap.size V1 (V1.alloc (.cells #[.int .i64 r1, .int .i64 r2, .int .i64 r3, .int .i64 r4, .string rx] 23)) := (Below.refl _ V1).alloc (Nat.le_refl _) _
  have O1 := Lib.hid (ownp_alloc V1 r1 r2 r3 r4 rx 23 V1.heap.size rfl)
  replace R0 := Lib.hid (Bs_below R0.out hal)
  replace HB := Lib.hid (HB.out.trans (hal.mono HB.out.size))
  clear hal
  obtain ⟨g1, hg⟩ : ∃ g1, V1.heap.size = g1 := ⟨_, rfl⟩
  obtain ⟨U1, hU⟩ : ∃ U1, V1.alloc (.cells #[.int .i64 r1, .int .i64 r2, .int .i64 r3, .int .i64 r4, .string rx] 23) = U1 := ⟨_, rfl⟩
  rw [hU] at HB O1 R0
  rw [hg] at O1
  go_wp2_with fail
  clear hU hg
  refine (C2.out _ R0.out).mono ?_
  rintro e V2 ⟨rfl, hb⟩
  replace O1 := Lib.hid (O1.out.below hb)
  replace HB := Lib.hid (HB.out.trans (hb.mono HB.out.size))
  clear hb
  have hal : Below V2.heap.size V2 (V2.alloc (.cells #[.int .i64 r1, .int .i64 r2, .int .i64 r3, .int .i64 r4, .string rx] 23)) := (Below.refl _ V2).alloc (Nat.le_refl _) _
  have O2 := Lib.hid (ownp_alloc V2 r1 r2 r3 r4 rx 23 V2.heap.size rfl)
  replace O1 := Lib.hid (O1.out.below hal)
  replace HB := Lib.hid (HB.out.trans (hal.mono HB.out.size))
  clear hal
  obtain ⟨g2, hg⟩ : ∃ g2, V2.heap.size = g2 := ⟨_, rfl⟩
  obtain ⟨U2, hU⟩ : ∃ U2, V2.alloc (.cells #[.int .i64 r1, .int .i64 r2, .int .i64 r3, .int .i64 r4, .string rx] 23) = U2 := ⟨_, rfl⟩
  rw [hU] at HB O2 O1
  rw [hg] at O2
  go_wp2_with fail
  clear hU hg
  refine (awake8 H _).mono ?_
  rintro e V3 ⟨rfl, hb⟩
  replace O1 := Lib.hid (O1.out.below hb)
  replace O2 := Lib.hid (O2.out.below hb)
  replace HB := Lib.hid (HB.out.trans (hb.mono HB.out.size))
  clear hb
  have hEq : ∀ w', (binOp .eql 23 (.agg #[.int .i64 r1, .int .i64 r2, .int .i64 r3, .int .i64 r4, .string rx]) (.agg #[.int .i64 r1, .int .i64 r2, .int .i64 r3, .int .i64 r4, .string rx])).run Try.prog w' = .ok (.bool true) w' := fun w' => by rw [eqlPK]; simp [eqK]
  have hG := fun op x y xs ys w' => guardPK op x y xs ys w'
  obtain ⟨⟨p0, p1, p2, p3, p4⟩, -⟩ := O1.out
  obtain ⟨⟨q0, q1, q2, q3, q4⟩, -⟩ := O2.out
  go_wp2_with fail
  go_ret
  exact ⟨rfl, HB.out⟩
theorem walk (H : Pc) (a0 : Option Addr) (len0 cap0 : Nat) (z0 : List Int) (a1 : Int) (w1 : I64 a1) (w : World) (w0 : IsRow .u8 w a0 len0 cap0 z0) :
    Calls Try.prog 4 #[.slice a0 len0 cap0, .int .i64 a1] w fun e w' => e = .returned (.bool true) ∧ Below w.heap.size w w' := by
  obtain ⟨b0, _⟩ := bs_of w0
  by_cases h : (500 : Int) < (len0 : Int)
  · exact early a0 len0 cap0 a1 w h
  · exact case_ok H a0 len0 cap0 a1 w _ b0 h

set_option maxRecDepth 100000 in
theorem lifted (os : _root_.Go.Os) (started : os.Started) (H : Type) (enc : TypeId × Value → H) :
    ReturnsInHanded {} Try.checked os 4 .any (Rows.packetReadsSpec.pre6 enc Try.prog Try.f4 Rows.packetReadsRow.domain false) (Rows.packetReadsSpec.post enc Try.prog Try.f4 false true false false) := by
  refine returnsInHanded_of_change (C := Try.checked) own started (by kernel_rfl) Try.func4
    (ChangeSpec.witness6 (enc := enc) (C := Try.checked) false ⟨#[], #[.slice none 0 0, .int .i64 0], []⟩ 16 (by kernel_rfl) (by kernel_rfl) (by kernel_rfl) (by kernel_rfl)) ?_
  intro W base args ds gs before hval0 hW hcnd _
  have hval : ∀ (j : Nat) t v, Try.f4.params[j]? = some t → args[j]? = some v → Value.okWide Try.prog W .any base t v := hval0
  have hW' := hW
  obtain ⟨p, q, hA0, hV, rfl, hfz, hnd⟩ := hW
  have hA : DataW.TrodAll enc Try.prog W 0 (fun _ => true) true Try.f4.params.toList args.toList ds p := hA0
  rw [Try.params4] at hA hval
  obtain ⟨v0, vs0, e0, ds0, p0, q0, hargs, rfl, rfl, h0, x0⟩ := trodAll_cons hA
  obtain ⟨v1, vs1, e1, ds1, p1, q1, rfl, rfl, rfl, h1, x1⟩ := trodAll_cons x0
  obtain ⟨rfl, rfl, rfl⟩ := trodAll_nil x1
  obtain rfl : args = #[v0, v1] := by cases args; simp_all
  obtain ⟨rfl, rfl⟩ := trodVars_none hV
  have k0 := h0
  have lt0 : ∀ x ∈ p0, x.block < W.heap.size := by obtain ⟨m, hm⟩ := k0; exact DataW.trod_lt m _ _ _ hm
  obtain ⟨a0, len0, cap0, rfl⟩ := okWide_slice Try.underlying24 (hval 0 24 v0 rfl rfl)
  obtain ⟨z0, w0⟩ : ∃ zs, IsRow .u8 W a0 len0 cap0 zs := by
    obtain ⟨fuel, hf⟩ := h0
    rcases open_ints Try.underlying24 Try.underlying5 (by kernel_rfl) hf with ⟨hcs, _⟩ | ⟨x, l, c, zs, hcs, _, hl, hm, hz, _, hcell, hwz⟩
    · simp [Value.cells] at hcs
      obtain ⟨rfl, rfl, rfl⟩ := hcs
      exact ⟨[], .inl ⟨rfl, rfl, rfl, rfl⟩⟩
    · simp [Value.cells] at hcs
      obtain ⟨rfl, rfl, rfl⟩ := hcs
      exact ⟨zs, .inr ⟨_, rfl, hl, hm, by simpa using hz, hcell, hwz⟩⟩
  have k1 := h1
  have lt1 : ∀ x ∈ p1, x.block < W.heap.size := by obtain ⟨m, hm⟩ := k1; exact DataW.trod_lt m _ _ _ hm
  obtain ⟨a1, rfl, _, _, w1⟩ := open_int Try.underlying3 (hval 1 3 v1 rfl rfl) h1
  clear hA0 hval0
  refine (walk pc a0 len0 cap0 z0 a1 (i64_wf w1) W w0).mono fun e W' ⟨he, bel⟩ => ?_
  subst he
  exact ⟨_, rfl, _, _, _, [], _, [], hW', trodAll_mk1 (shut_bool Try.underlying4 _), (trodAll_cons_mk (Below.trod laidOut (by kernel_rfl) (of_decide_eq_true (by kernel_rfl)) k0 bel lt0) (trodAll_cons_mk (Below.trod laidOut (by kernel_rfl) (of_decide_eq_true (by kernel_rfl)) k1 bel lt1) trodAll_mk0)), rfl, bel.frame _, fun h => by cases h⟩

theorem over : Rows.packetReadsRow.holds Try.pinned (OpenSpec.ofChange Rows.packetReadsSpec) :=
  OpenClaim.holds_of_wide 4 Try.f4 rfl rfl rfl rfl rfl rfl rfl ⟨rfl, rfl, rfl, rfl, rfl⟩ rfl rfl rfl rfl rfl (by kernel_rfl) Try.func4 (by kernel_rfl)
    (of_decide_eq_true (by kernel_rfl)) (by unfold Func.isWrapper; first | (rw [if_pos (by decide +kernel)]; kernel_rfl) | (rw [if_neg (by decide +kernel)]; exact ⟨rfl, rfl⟩))
    (fun os started H enc _ => lifted os started H enc)

theorem proved : Rows.PacketReadsSaid := over
#print axioms proved
end Go.Proofs.Yteleedpiadcfjaa.packetReads
