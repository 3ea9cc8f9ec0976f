/-
  thalweglaw01.WireBack: for any v, n and bytes front, more the law answers true; no condition.
-/
import Derived.Test.YteofjlcaokajeaaRows
import Derived.Test.YteofjlcaokajeaaPlain
import Derived.WalkKit
import Derived.ProofKit
import Derived.OpenShut
import Derived.ShutString
import Derived.ChangeOld
import Derived.Below
namespace Go.Proofs.Yteofjlcaokajeaa.wireBack
open Go.ChangeShapes Go.WideShapes Go.ChangeAt Go.RowKit
open Go.ChangeMaps (open_string shut_string)
set_option linter.unusedVariables false

theorem own : ownKnob Try.prog.godebug = none := by kernel_rfl
theorem laidOut : laidOutB Try.prog = true := by kernel_rfl

def IsRow (k : IntKind) (w : World) (a : Option Addr) (len cap : Nat) (zs : List Int) : Prop :=
  (a = none ∧ len = 0 ∧ cap = 0 ∧ zs = []) ∨
  ∃ x, a = some x ∧ len ≤ cap ∧ cap ≤ maxLen ∧ zs.length = cap ∧ (∀ i, i < zs.length → w.cell? (x.add i) = some (.int k (zs.getD i 0))) ∧ ∀ n ∈ zs, (Lit.int k n).wf = true

theorem bs_of {w : World} {a : Option Addr} {len cap : Nat} {zs : List Int} (h : IsRow .u8 w a len cap zs) : Bs w (.slice a len cap) (zs.take len) ∧ (zs.take len).length = len := by
  rcases h with ⟨rfl, rfl, rfl, rfl⟩ | ⟨x, rfl, hl, hm, hz, hcell, hwz⟩
  · exact ⟨Bs_nil w, rfl⟩
  · have hlen : (zs.take len).length = len := by rw [List.length_take]; omega
    refine ⟨⟨fun n hn => ?_, by rw [hlen]; unfold maxLen at hm; omega, ?_⟩, hlen⟩
    · have := hwz n (List.take_subset _ _ hn)
      have b := bounds_u8 this
      omega
    · by_cases h0 : len = 0
      · subst h0; exact .inl ⟨some x, cap, rfl, (fun h => by cases h), by simp⟩
      · right
        obtain ⟨b, off, spot⟩ := x
        have hc := hcell 0 (by omega)
        have hspot : spot = none := by simpa [Addr.add] using World.cell?_spot hc
        subst hspot
        refine ⟨b, off, cap, by rw [hlen], by rw [hlen]; exact hl, fun i hi => ?_⟩
        have hi' : i < len := by omega
        have := hcell i (by omega)
        have hadd : (⟨b, off, none⟩ : Addr).add i = ⟨b, off + i, none⟩ := by unfold Addr.add; split <;> simp_all
        rw [hadd] at this
        rw [this]
        simp [List.getD, hi']

set_option maxHeartbeats 4000000 in
theorem walk (a0 : Int) (a1 : Int) (a2 : Option Addr) (len2 cap2 : Nat) (z2 : List Int) (a3 : Option Addr) (len3 cap3 : Nat) (z3 : List Int) (w : World) (w0 : (Lit.int .i64 a0).wf = true) (w1 : (Lit.int .i64 a1).wf = true) (w2 : IsRow .u8 w a2 len2 cap2 z2) (w3 : IsRow .u8 w a3 len3 cap3 z3) :
    Calls Try.prog 5 #[.int .i64 a0, .int .i64 a1, .slice a2 len2 cap2, .slice a3 len3 cap3] w fun e w' => e = .returned (.bool true) ∧ Below w.heap.size w w' := by
  obtain ⟨b2, l2⟩ := bs_of w2
  obtain ⟨b3, l3⟩ := bs_of w3
  generalize z2.take len2 = f at b2 l2
  generalize z3.take len3 = m at b3 l3
  subst l2 l3
  clear w2 w3
  have hv0 := bounds_i64 w0
  by_cases c1 : (200 : Int) < (f.length : Int)
  · go_enter Try.func5, Try.ntmps5
    go_wp2_with fail
    go_ret
    exact ⟨rfl, Below.refl _ _⟩
  by_cases c2 : (200 : Int) < (m.length : Int)
  · go_enter Try.func5, Try.ntmps5
    go_wp2_with fail
    go_ret
    exact ⟨rfl, Below.refl _ _⟩
  have s1 : (f.length : Int) ≤ 200 := by omega
  have s2 : (m.length : Int) ≤ 200 := by omega
  clear c1 c2
  have hin := Lib.hid (lo_bytes (IntKind.u64.wrap a0) 8)
  have hgi := Lib.hid (back_getInt f m (v := a0) (by omega) (by omega))
  have hil := Lib.hid (lo_len (IntKind.u64.wrap a0) 8)
  have hvl := Lib.hid (show a0 < 9223372036854775808 by omega)
  by_cases ok : PutOk a0 a1
  · have hp0 := Lib.hid (show putE a0 a1 = 0 from if_pos ok)
    have hgt := Lib.hid (back_get f m ok)
    have hpl := Lib.hid (putB_len ok)
    obtain ⟨n1, n7, _, _⟩ := ok
    obtain ⟨N, rfl⟩ := Int.eq_ofNat_of_zero_le (show (0 : Int) ≤ a1 by omega)
    rw [Int.toNat_natCast] at hpl
    go_enter Try.func5, Try.ntmps5
    go_wp2_with fail
    refine (put_any a0 N _ hvl.out).mono ?_
    rintro e W1 ⟨r1, rfl, hr1, hb1⟩
    rw [hp0.out]
    obtain ⟨q1, k1, rfl⟩ := Bs_shape hr1
    rw [hpl.out] at hr1 ⊢
    have f1 := Bs_below b2 hb1
    have m1 := Bs_below b3 hb1
    clear b2 b3
    go_wp2_with fail
    refine (both3 f1 hr1 m1 _ (by have := hpl.out; omega)).mono ?_
    rintro e W2 ⟨r2, rfl, ho2, hx2, hb2⟩
    have g2 := Bs_of_own ho2 hx2 (by have := hpl.out; simp only [List.length_append]; omega)
    have B2 := hb1.trans (((Below.refl _ W1).alloc (Nat.le_refl _) _).mono hb1.size |>.trans (hb2.mono (by have := hb1.size; simp; omega)))
    have f2 := Bs_below (Bs_alloc f1 _) hb2
    have m2 := Bs_below (Bs_alloc m1 _) hb2
    have HB := Lib.hid B2
    clear B2 hb1 hb2 ho2 hx2 f1 m1 hr1
    go_wp2_with fail
    refine (get_any _ _ _ _ _ g2).mono ?_
    rintro e W3 ⟨rfl, rfl⟩
    rw [hgt.out]
    unfold tri
    clear g2
    go_wp2_with fail
    refine (int_any a0 _).mono ?_
    rintro e W3 ⟨r3, rfl, hr3, hb3⟩
    obtain ⟨q3, k3, rfl⟩ := Bs_shape hr3
    rw [hil.out] at hr3 ⊢
    have f3 := Bs_below f2 hb3
    have m3 := Bs_below m2 hb3
    have HB3 := Lib.hid (HB.out.trans (hb3.mono HB.out.size))
    clear HB f2 m2 hb3
    go_wp2_with fail
    refine (both3 f3 hr3 m3 _ (by have := hil.out; omega)).mono ?_
    rintro e W4 ⟨r4, rfl, ho4, hx4, hb4⟩
    have g4 := Bs_of_own ho4 hx4 (by have := hil.out; simp only [List.length_append]; omega)
    have HB4 := Lib.hid (HB3.out.trans (((Below.refl _ W3).alloc (Nat.le_refl _) _).mono HB3.out.size |>.trans (hb4.mono (by have := HB3.out.size; simp; omega))))
    clear HB3 hb4 ho4 hx4 f3 m3 hr3
    go_wp2_with fail
    refine (getInt_any _ _ _ _ g4).mono ?_
    rintro e W5 ⟨rfl, rfl⟩
    rw [hgi.out]
    unfold tri
    clear g4
    go_wp2_with fail
    refine (awake_any _).mono ?_
    rintro e W5 ⟨rfl, hb5⟩
    have HB5 := Lib.hid (HB4.out.trans (hb5.mono HB4.out.size))
    clear hb5 HB4
    go_wp2_with fail
    go_ret
    exact ⟨rfl, HB5.out⟩
  · have hp0 := Lib.hid (show putE a0 a1 = 1 from if_neg ok)
    have hpb := Lib.hid (show putB a0 a1 = [] from if_neg ok)
    clear ok
    go_enter Try.func5, Try.ntmps5
    go_wp2_with fail
    refine (put_any a0 a1 _ hvl.out).mono ?_
    rintro e W1 ⟨r1, rfl, hr1, hb1⟩
    rw [hp0.out]
    rw [hpb.out] at hr1
    obtain ⟨q1, k1, rfl⟩ := Bs_shape hr1
    rw [List.length_nil] at hr1 ⊢
    have f1 := Bs_below b2 hb1
    have m1 := Bs_below b3 hb1
    clear b2 b3
    go_wp2_with fail
    refine (both3 f1 hr1 m1 _ (by rw [List.length_nil]; omega)).mono ?_
    rintro e W2 ⟨r2, rfl, ho2, hx2, hb2⟩
    have g2 := Bs_of_own ho2 hx2 (by simp only [List.length_append, List.length_nil]; omega)
    have B2 := hb1.trans (((Below.refl _ W1).alloc (Nat.le_refl _) _).mono hb1.size |>.trans (hb2.mono (by have := hb1.size; simp; omega)))
    have f2 := Bs_below (Bs_alloc f1 _) hb2
    have m2 := Bs_below (Bs_alloc m1 _) hb2
    have HB := Lib.hid B2
    clear B2 hb1 hb2 ho2 hx2 f1 m1 hr1
    go_wp2_with fail
    refine (get_any _ _ _ _ _ g2).mono ?_
    rintro e W3 ⟨rfl, rfl⟩
    generalize getS (f ++ ([] ++ m)) (f.length : Int) a1 = gg
    obtain ⟨x, y, z⟩ := gg
    unfold tri
    clear g2
    go_wp2_with fail
    refine (int_any a0 _).mono ?_
    rintro e W3 ⟨r3, rfl, hr3, hb3⟩
    obtain ⟨q3, k3, rfl⟩ := Bs_shape hr3
    rw [hil.out] at hr3 ⊢
    have f3 := Bs_below f2 hb3
    have m3 := Bs_below m2 hb3
    have HB3 := Lib.hid (HB.out.trans (hb3.mono HB.out.size))
    clear HB f2 m2 hb3
    go_wp2_with fail
    refine (both3 f3 hr3 m3 _ (by have := hil.out; omega)).mono ?_
    rintro e W4 ⟨r4, rfl, ho4, hx4, hb4⟩
    have g4 := Bs_of_own ho4 hx4 (by have := hil.out; simp only [List.length_append]; omega)
    have HB4 := Lib.hid (HB3.out.trans (((Below.refl _ W3).alloc (Nat.le_refl _) _).mono HB3.out.size |>.trans (hb4.mono (by have := HB3.out.size; simp; omega))))
    clear HB3 hb4 ho4 hx4 f3 m3 hr3
    go_wp2_with fail
    refine (getInt_any _ _ _ _ g4).mono ?_
    rintro e W5 ⟨rfl, rfl⟩
    rw [hgi.out]
    unfold tri
    clear g4
    go_wp2_with fail
    refine (awake_any _).mono ?_
    rintro e W5 ⟨rfl, hb5⟩
    have HB5 := Lib.hid (HB4.out.trans (hb5.mono HB4.out.size))
    clear hb5 HB4
    go_wp2_with fail
    go_ret
    exact ⟨rfl, HB5.out⟩

set_option maxRecDepth 100000 in
theorem lifted (os : Os) (started : os.Started) (H : Type) (enc : TypeId × Value → H) :
    ReturnsInHanded {} Try.checked os 5 .any (Rows.wireBackSpec.pre6 enc Try.prog Try.f5 Rows.wireBackRow.domain false) (Rows.wireBackSpec.post enc Try.prog Try.f5 false true false false) := by
  refine returnsInHanded_of_change (C := Try.checked) own started (by kernel_rfl) Try.func5
    (ChangeSpec.witness6 (enc := enc) (C := Try.checked) false ⟨#[], #[.int .i64 0, .int .i64 0, .slice none 0 0, .slice none 0 0], []⟩ 8 (by kernel_rfl) (by kernel_rfl) (by kernel_rfl) (by kernel_rfl)) ?_
  intro W base args ds gs before hval0 hW hcnd _
  have hval : ∀ (j : Nat) t v, Try.f5.params[j]? = some t → args[j]? = some v → Value.okWide Try.prog W .any base t v := hval0
  have hW' := hW
  obtain ⟨p, q, hA0, hV, rfl, hfz, hnd⟩ := hW
  have hA : DataW.TrodAll enc Try.prog W 0 (fun _ => true) true Try.f5.params.toList args.toList ds p := hA0
  rw [Try.params5] at hA hval
  obtain ⟨v0, vs0, d0, ds0, p0, q0, hargs, rfl, rfl, h0, r0⟩ := trodAll_cons hA
  obtain ⟨v1, vs1, d1, ds1, p1, q1, rfl, rfl, rfl, h1, r1⟩ := trodAll_cons r0
  obtain ⟨v2, vs2, d2, ds2, p2, q2, rfl, rfl, rfl, h2, r2⟩ := trodAll_cons r1
  obtain ⟨v3, vs3, d3, ds3, p3, q3, rfl, rfl, rfl, h3, r3⟩ := trodAll_cons r2
  obtain ⟨rfl, rfl, rfl⟩ := trodAll_nil r3
  obtain rfl : args = #[v0, v1, v2, v3] := by cases args; simp_all
  obtain ⟨rfl, rfl⟩ := trodVars_none hV
  obtain ⟨a0, rfl, rfl, rfl, w0⟩ := open_int Try.underlying3 (hval 0 3 v0 rfl rfl) h0
  obtain ⟨a1, rfl, rfl, rfl, w1⟩ := open_int Try.underlying3 (hval 1 3 v1 rfl rfl) h1
  obtain ⟨a2, len2, cap2, rfl⟩ := okWide_slice Try.underlying22 (hval 2 22 v2 rfl rfl)
  have k2 := h2
  have lt2 : ∀ x ∈ p2, x.block < W.heap.size := by obtain ⟨m, hm⟩ := k2; exact DataW.trod_lt m _ _ _ hm
  obtain ⟨z2, w2⟩ : ∃ zs, IsRow .u8 W a2 len2 cap2 zs := by
    obtain ⟨fuel, hf⟩ := h2
    rcases open_ints Try.underlying22 Try.underlying5 (by kernel_rfl) hf with ⟨hcs, _⟩ | ⟨x, l, c, zs, hcs, _, hl, hm, hz, _, hcell, hwz⟩
    · simp [Value.cells] at hcs
      obtain ⟨rfl, rfl, rfl⟩ := hcs
      exact ⟨[], .inl ⟨rfl, rfl, rfl, rfl⟩⟩
    · simp [Value.cells] at hcs
      obtain ⟨rfl, rfl, rfl⟩ := hcs
      exact ⟨zs, .inr ⟨_, rfl, hl, hm, by simpa using hz, hcell, hwz⟩⟩
  obtain ⟨a3, len3, cap3, rfl⟩ := okWide_slice Try.underlying22 (hval 3 22 v3 rfl rfl)
  have k3 := h3
  have lt3 : ∀ x ∈ p3, x.block < W.heap.size := by obtain ⟨m, hm⟩ := k3; exact DataW.trod_lt m _ _ _ hm
  obtain ⟨z3, w3⟩ : ∃ zs, IsRow .u8 W a3 len3 cap3 zs := by
    obtain ⟨fuel, hf⟩ := h3
    rcases open_ints Try.underlying22 Try.underlying5 (by kernel_rfl) hf with ⟨hcs, _⟩ | ⟨x, l, c, zs, hcs, _, hl, hm, hz, _, hcell, hwz⟩
    · simp [Value.cells] at hcs
      obtain ⟨rfl, rfl, rfl⟩ := hcs
      exact ⟨[], .inl ⟨rfl, rfl, rfl, rfl⟩⟩
    · simp [Value.cells] at hcs
      obtain ⟨rfl, rfl, rfl⟩ := hcs
      exact ⟨zs, .inr ⟨_, rfl, hl, hm, by simpa using hz, hcell, hwz⟩⟩
  clear hA0 hval0
  refine (walk a0 a1 a2 len2 cap2 z2 a3 len3 cap3 z3 W w0 w1 w2 w3).mono fun e W' ⟨he, bel⟩ => ?_
  subst he
  exact ⟨_, rfl, _, _, _, [], _, [], hW', trodAll_mk1 (shut_bool Try.underlying4 _), (trodAll_cons_mk (shut_int Try.underlying3 w0) (trodAll_cons_mk (shut_int Try.underlying3 w1) (trodAll_cons_mk (Below.trod laidOut (by kernel_rfl) (of_decide_eq_true (by kernel_rfl)) k2 bel lt2) (trodAll_cons_mk (Below.trod laidOut (by kernel_rfl) (of_decide_eq_true (by kernel_rfl)) k3 bel lt3) trodAll_mk0)))), rfl, bel.frame _, fun h => by cases h⟩

theorem over : Rows.wireBackRow.holds Try.pinned (OpenSpec.ofChange Rows.wireBackSpec) :=
  OpenClaim.holds_of_wide 5 Try.f5 rfl rfl rfl rfl rfl rfl rfl ⟨rfl, rfl, rfl, rfl, rfl⟩ rfl rfl rfl rfl rfl (by kernel_rfl) Try.func5 (by kernel_rfl)
    (of_decide_eq_true (by kernel_rfl)) (by unfold Func.isWrapper; first | (rw [if_pos (by decide +kernel)]; kernel_rfl) | (rw [if_neg (by decide +kernel)]; exact ⟨rfl, rfl⟩))
    (fun os started H enc _ => lifted os started H enc)

theorem proved : Rows.WireBackSaid := over
#print axioms proved
end Go.Proofs.Yteofjlcaokajeaa.wireBack
