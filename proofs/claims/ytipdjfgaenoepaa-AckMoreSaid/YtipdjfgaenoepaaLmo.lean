/- thalweglaw07.AckMore: for any numbers the law answers true; no condition. -/
import Derived.Test.YtipdjfgaenoepaaAq8
import Derived.WalkLawsBesides
import Derived.WalkKit
import Derived.ProofKit
import Derived.OpenShut
import Derived.ShutString
import Derived.ChangeOld
import Derived.Below
namespace Go.Proofs.Ytipdjfgaenoepaa.ackMore
open Go.ChangeShapes Go.WideShapes Go.ChangeAt Go.RowKit
open Go.ChangeMaps (open_string shut_string)
set_option linter.unusedVariables false
set_option maxRecDepth 100000

theorem own : ownKnob Try.prog.godebug = none := by kernel_rfl
theorem laidOut : laidOutB Try.prog = true := by kernel_rfl
def IsRow (k : IntKind) (w : World) (a : Option Addr) (len cap : Nat) (zs : List Int) : Prop :=
  (a = none ∧ len = 0 ∧ cap = 0 ∧ zs = []) ∨
  ∃ x, a = some x ∧ len ≤ cap ∧ cap ≤ maxLen ∧ zs.length = cap ∧ (∀ i, i < zs.length → w.cell? (x.add i) = some (.int k (zs.getD i 0))) ∧ ∀ n ∈ zs, (Lit.int k n).wf = true

theorem Zs_nil (w : World) : Zs w (.slice none 0 0) [] := ⟨by simp, .inl ⟨none, 0, rfl, fun _ => rfl, rfl⟩⟩
theorem is_of {w : World} {a : Option Addr} {len cap : Nat} {zs : List Int} (h : IsRow .i64 w a len cap zs) : Zs w (.slice a len cap) (zs.take len) ∧ (zs.take len).length = len := by
  rcases h with ⟨rfl, rfl, rfl, rfl⟩ | ⟨x, rfl, hl, hm, hz, hcell, _⟩
  · exact ⟨Zs_nil w, rfl⟩
  · have hlen : (zs.take len).length = len := by rw [List.length_take]; omega
    refine ⟨⟨by rw [hlen]; unfold maxLen at hm; omega, ?_⟩, hlen⟩
    by_cases h0 : len = 0
    · subst h0; exact .inl ⟨some x, cap, rfl, (fun h => by cases h), by simp⟩
    · right
      obtain ⟨b, off, spot⟩ := x
      have hc := hcell 0 (by omega)
      have hspot : spot = none := by simpa [Addr.add] using World.cell?_spot hc
      subst hspot
      refine ⟨b, off, cap, by rw [hlen], by rw [hlen]; exact hl, fun i hi => ?_⟩
      have hi' : i < len := by omega
      have := hcell i (by omega)
      have hadd : (⟨b, off, none⟩ : Addr).add i = ⟨b, off + i, none⟩ := by unfold Addr.add; split <;> simp_all
      rw [hadd] at this
      rw [this]
      simp [List.getD, hi']


theorem early (a0 : Int) (a1 : Option Addr) (len1 cap1 : Nat) (a2 : Option Addr) (len2 cap2 : Nat) (a3 : Int) (w : World) (h : ¬ (len1 ≤ 60 ∧ len2 ≤ 60)) :
    Calls Try.prog 7 #[.int .i64 a0, .slice a1 len1 cap1, .slice a2 len2 cap2, .int .i64 a3] w fun e w' => e = .returned (.bool true) ∧ Below w.heap.size w w' := by
  by_cases h1 : (60 : Int) < (len1 : Int)
  · go_enter Try.func7, Try.ntmps7
    go_wp2_with fail
    go_ret
    exact ⟨rfl, Below.refl _ _⟩
  · have h2 : (60 : Int) < (len2 : Int) := by omega
    go_enter Try.func7, Try.ntmps7
    go_wp2_with fail
    go_ret
    exact ⟨rfl, Below.refl _ _⟩
theorem z_own0 (w : World) (S : Nat) (hS : S ≤ w.heap.size) (g : Nat) (hg : g = w.heap.size) : (w.alloc (.cells #[] 3)).ownsRow S 3 1 (.slice (some ⟨g, 0, none⟩) 0 0) ([] : List Int).length (([] : List Int).map (Value.int .i64)) := by
  subst hg
  exact ⟨by simp, .inr ⟨w.heap.size, 0, #[], rfl, hS, heap_alloc_new w _, Nat.le_refl _, by unfold maxLen; omega, rfl, rfl⟩⟩
theorem ofx_more (x n : Int) (cs more : List Int) (h : hasN (ofX x) (ofM x cs) n = true) : hasN (ofX x) (ofM x (cs ++ more)) n = true := by
  unfold ofX ofM at *
  split
  · rename_i hx
    rw [if_pos hx, if_pos hx] at h
    exact has_more h
  · rename_i hx
    rw [if_neg hx, if_neg hx] at h
    exact h
set_option maxHeartbeats 16000000 in
theorem case_ok (a0 : Int) (a1 : Option Addr) (len1 cap1 : Nat) (a2 : Option Addr) (len2 cap2 : Nat) (a3 : Int) (w : World) (xs ys : List Int) (w1 : Zs w (.slice a1 len1 cap1) xs) (w2 : Zs w (.slice a2 len2 cap2) ys) (l1 : len1 ≤ 60) (l2 : len2 ≤ 60) (e1 : xs.length = len1) (e2 : ys.length = len2) (X M1 M2 E : Int) (H1 H2 : Bool) (hH : H1 = true → H2 = true)
    (cO1 : ∀ W v, Zs W v xs → Calls Try.prog 11 #[.int .i64 a0, v] W fun e w' => e = .returned (.tuple #[.agg #[.int .i64 0, .int .i64 0, .int .i64 X, .int .i64 M1], .int .i64 E]) ∧ Below W.heap.size W w')
    (cO2 : ∀ W v, Zs W v (xs ++ ys) → Calls Try.prog 11 #[.int .i64 a0, v] W fun e w' => e = .returned (.tuple #[.agg #[.int .i64 0, .int .i64 0, .int .i64 X, .int .i64 M2], .int .i64 E]) ∧ Below W.heap.size W w')
    (cH1 : ∀ W, Calls Try.prog 16 #[.agg #[.int .i64 0, .int .i64 0, .int .i64 X, .int .i64 M1], .int .i64 a3] W fun e w' => e = .returned (.bool H1) ∧ Below W.heap.size W w')
    (cH2 : ∀ W, Calls Try.prog 16 #[.agg #[.int .i64 0, .int .i64 0, .int .i64 X, .int .i64 M2], .int .i64 a3] W fun e w' => e = .returned (.bool H2) ∧ Below W.heap.size W w') :
    Calls Try.prog 7 #[.int .i64 a0, .slice a1 len1 cap1, .slice a2 len2 cap2, .int .i64 a3] w fun e w' => e = .returned (.bool true) ∧ Below w.heap.size w w' := by
  have Z1 := Lib.hid w1
  have Z2 := Lib.hid w2
  have g1 : ¬ (60 : Int) < (len1 : Int) := by omega
  have g2 : ¬ (60 : Int) < (len2 : Int) := by omega
  have HX := Lib.hid e1
  have HY := Lib.hid e2
  have HL : Hid (len1 ≤ 60 ∧ len2 ≤ 60) := ⟨l1, l2⟩
  have C1 := Lib.hid cO1
  have C2 := Lib.hid cO2
  have D1 := Lib.hid cH1
  have D2 := Lib.hid cH2
  have HH := Lib.hid hH
  clear w1 w2 l1 l2 e1 e2 cO1 cO2 cH1 cH2 hH
  go_enter Try.func7, Try.ntmps7
  go_wp2_with fail
  refine (C1.out _ _ Z1.out).mono ?_
  rintro e V1 ⟨rfl, hb⟩
  have OA := Lib.hid (owna_alloc V1 0 0 X M1 30 V1.heap.size rfl)
  have HB : Hid (Below w.heap.size w (V1.alloc (.cells #[.int .i64 0, .int .i64 0, .int .i64 X, .int .i64 M1] 30))) := hb.alloc hb.size _
  clear hb g1 g2
  obtain ⟨g, hg⟩ : ∃ g, V1.heap.size = g := ⟨_, rfl⟩
  obtain ⟨V2, hV2⟩ : ∃ V2, V1.alloc (.cells #[.int .i64 0, .int .i64 0, .int .i64 X, .int .i64 M1] 30) = V2 := ⟨_, rfl⟩
  rw [hV2, hg] at OA
  rw [hV2] at HB
  go_wp2_with (at_builtin; (skip; first
    | (refine zapp_any rfl (.tmp 29) (.tmp 30) rfl V2.heap.size [] xs (z_own0 V2 _ (Nat.le_refl _) _ rfl) (Zs_below Z1.out (HB.out.alloc HB.out.size _)) (by have := HX.out; have := HL.out; simp; omega) (by simp) ?_; intro v3 w3 hown3 hb3 hs3 hn3; have O3 := Lib.hid hown3; have HB3 := Lib.hid (((Below.refl V2.heap.size V2).alloc (Nat.le_refl _) (.cells #[] 3)).trans hb3); clear hown3 hb3 hs3 hn3)
    | (refine zapp_any rfl (.tmp 31) (.tmp 32) rfl V2.heap.size ([] ++ xs) ys O3.out (Zs_below Z2.out (HB.out.trans (HB3.out.mono HB.out.size))) (by have := HX.out; have := HY.out; have := HL.out; simp; omega) HB3.out.size ?_; intro v4 w4 hown4 hb4 hs4 hn4; have O4 := Lib.hid hown4; have HB4 := Lib.hid (HB3.out.trans hb4); clear hown4 hb4 hs4 hn4)))
  refine (C2.out _ _ (Zs_of_own (xs := xs ++ ys) O4.out (by have := HX.out; have := HY.out; have := HL.out; simp; omega))).mono ?_
  rintro e V3 ⟨rfl, hb⟩
  have OA3 := Lib.hid ((OA.low OA.lt HB4.out).below hb)
  have OB := Lib.hid (owna_alloc V3 0 0 X M2 30 V3.heap.size rfl)
  have hal : Below V3.heap.size V3 (V3.alloc (.cells #[.int .i64 0, .int .i64 0, .int .i64 X, .int .i64 M2] 30)) := (Below.refl _ V3).alloc (Nat.le_refl _) _
  have OA4 := Lib.hid (OA3.out.below hal)
  have HB5 : Hid (Below w.heap.size w (V3.alloc (.cells #[.int .i64 0, .int .i64 0, .int .i64 X, .int .i64 M2] 30))) := (HB.out.trans ((HB4.out.trans (hb.mono HB4.out.size)).mono HB.out.size)).trans (hal.mono (Nat.le_trans HB.out.size (Nat.le_trans HB4.out.size hb.size)))
  obtain ⟨g3, hg3⟩ : ∃ g3, V3.heap.size = g3 := ⟨_, rfl⟩
  obtain ⟨V4, hV4⟩ : ∃ V4, V3.alloc (.cells #[.int .i64 0, .int .i64 0, .int .i64 X, .int .i64 M2] 30) = V4 := ⟨_, rfl⟩
  rw [hV4] at OA4 OB HB5
  rw [hg3] at OB
  clear hb hal OA OA3 O3 O4 HB3 HB4 hV2 hg HB Z1 Z2
  go_wp2_with fail
  clear hV4 hg3
  refine (awake7 _).mono ?_
  rintro e V5 ⟨rfl, hb⟩
  replace OA4 := Lib.hid (OA4.out.below hb)
  replace OB := Lib.hid (OB.out.below hb)
  replace HB5 := Lib.hid (HB5.out.trans (hb.mono HB5.out.size))
  clear hb
  obtain ⟨⟨p0, p1, p2, p3⟩, -⟩ := OA4.out
  obtain ⟨⟨q0, q1, q2, q3⟩, -⟩ := OB.out
  go_wp2_with fail
  refine (D1.out _).mono ?_
  rintro e V6 ⟨rfl, hb⟩
  replace OB := Lib.hid (OB.out.below hb)
  replace HB5 := Lib.hid (HB5.out.trans (hb.mono HB5.out.size))
  clear hb p0 p1 p2 p3 q0 q1 q2 q3
  obtain ⟨⟨q0, q1, q2, q3⟩, -⟩ := OB.out
  cases H1 with
  | false =>
    go_wp2_with fail
    go_ret
    exact ⟨rfl, HB5.out⟩
  | true =>
    obtain rfl : H2 = true := HH.out rfl
    go_wp2_with fail
    refine (D2.out _).mono ?_
    rintro e V7 ⟨rfl, hb⟩
    replace HB5 := Lib.hid (HB5.out.trans (hb.mono HB5.out.size))
    clear hb
    go_wp2_with fail
    go_ret
    exact ⟨rfl, HB5.out⟩

theorem walk (a0 : Int) (w0 : I64 a0) (a1 : Option Addr) (len1 cap1 : Nat) (z1 : List Int) (a2 : Option Addr) (len2 cap2 : Nat) (z2 : List Int) (a3 : Int) (w3 : I64 a3) (w : World) (r1 : IsRow .i64 w a1 len1 cap1 z1) (r2 : IsRow .i64 w a2 len2 cap2 z2) :
    Calls Try.prog 7 #[.int .i64 a0, .slice a1 len1 cap1, .slice a2 len2 cap2, .int .i64 a3] w fun e w' => e = .returned (.bool true) ∧ Below w.heap.size w w' := by
  obtain ⟨b1, e1⟩ := is_of r1
  obtain ⟨b2, e2⟩ := is_of r2
  by_cases h : len1 ≤ 60 ∧ len2 ≤ 60
  · refine case_ok a0 a1 len1 cap1 a2 len2 cap2 a3 w _ _ b1 b2 h.1 h.2 e1 e2 (ofX a0) (ofM a0 (z1.take len1)) (ofM a0 (z1.take len1 ++ z2.take len2)) (ofE a0) _ _ ?_
      (fun W v hv => of_fix a0 v _ W hv (by omega)) (fun W v hv => of_fix a0 v _ W hv (by rw [List.length_append]; omega)) (fun W => has_fix _ _ _ _ _ W) (fun W => has_fix _ _ _ _ _ W)
    intro hh
    rw [Bool.and_eq_true] at hh ⊢
    exact ⟨decide_eq_true (of_one _ _), ofx_more _ _ _ _ hh.2⟩
  · exact early a0 a1 len1 cap1 a2 len2 cap2 a3 w h

set_option maxRecDepth 100000 in
theorem lifted (os : _root_.Go.Os) (started : os.Started) (H : Type) (enc : TypeId × Value → H) :
    ReturnsInHanded {} Try.checked os 7 .any (Rows.ackMoreSpec.pre6 enc Try.prog Try.f7 Rows.ackMoreRow.domain false) (Rows.ackMoreSpec.post enc Try.prog Try.f7 false true false false) := by
  refine returnsInHanded_of_change (C := Try.checked) own started (by kernel_rfl) Try.func7
    (ChangeSpec.witness6 (enc := enc) (C := Try.checked) false ⟨#[], #[.int .i64 0, .slice none 0 0, .slice none 0 0, .int .i64 0], []⟩ 16 (by kernel_rfl) (by kernel_rfl) (by kernel_rfl) (by kernel_rfl)) ?_
  intro W base args ds gs before hval0 hW hcnd _
  have hval : ∀ (j : Nat) t v, Try.f7.params[j]? = some t → args[j]? = some v → Value.okWide Try.prog W .any base t v := hval0
  have hW' := hW
  obtain ⟨p, q, hA0, hV, rfl, hfz, hnd⟩ := hW
  have hA : DataW.TrodAll enc Try.prog W 0 (fun _ => true) true Try.f7.params.toList args.toList ds p := hA0
  rw [Try.params7] at hA hval
  obtain ⟨v0, vs0, e0, ds0, p0, q0, hargs, rfl, rfl, h0, x0⟩ := trodAll_cons hA
  obtain ⟨v1, vs1, e1, ds1, p1, q1, rfl, rfl, rfl, h1, x1⟩ := trodAll_cons x0
  obtain ⟨v2, vs2, e2, ds2, p2, q2, rfl, rfl, rfl, h2, x2⟩ := trodAll_cons x1
  obtain ⟨v3, vs3, e3, ds3, p3, q3, rfl, rfl, rfl, h3, x3⟩ := trodAll_cons x2
  obtain ⟨rfl, rfl, rfl⟩ := trodAll_nil x3
  obtain rfl : args = #[v0, v1, v2, v3] := by cases args; simp_all
  obtain ⟨rfl, rfl⟩ := trodVars_none hV
  have k0 := h0
  have lt0 : ∀ x ∈ p0, x.block < W.heap.size := by obtain ⟨m, hm⟩ := k0; exact DataW.trod_lt m _ _ _ hm
  obtain ⟨a0, rfl, _, _, w0⟩ := open_int Try.underlying3 (hval 0 3 v0 rfl rfl) h0
  have k1 := h1
  have lt1 : ∀ x ∈ p1, x.block < W.heap.size := by obtain ⟨m, hm⟩ := k1; exact DataW.trod_lt m _ _ _ hm
  obtain ⟨a1, len1, cap1, rfl⟩ := okWide_slice Try.underlying23 (hval 1 23 v1 rfl rfl)
  obtain ⟨z1, w1⟩ : ∃ zs, IsRow .i64 W a1 len1 cap1 zs := by
    obtain ⟨fuel, hf⟩ := h1
    rcases open_ints Try.underlying23 Try.underlying3 (by kernel_rfl) hf with ⟨hcs, _⟩ | ⟨x, l, c, zs, hcs, _, hl, hm, hz, _, hcell, hwz⟩
    · simp [Value.cells] at hcs
      obtain ⟨rfl, rfl, rfl⟩ := hcs
      exact ⟨[], .inl ⟨rfl, rfl, rfl, rfl⟩⟩
    · simp [Value.cells] at hcs
      obtain ⟨rfl, rfl, rfl⟩ := hcs
      exact ⟨zs, .inr ⟨_, rfl, hl, hm, by simpa using hz, hcell, hwz⟩⟩
  have k2 := h2
  have lt2 : ∀ x ∈ p2, x.block < W.heap.size := by obtain ⟨m, hm⟩ := k2; exact DataW.trod_lt m _ _ _ hm
  obtain ⟨a2, len2, cap2, rfl⟩ := okWide_slice Try.underlying23 (hval 2 23 v2 rfl rfl)
  obtain ⟨z2, w2⟩ : ∃ zs, IsRow .i64 W a2 len2 cap2 zs := by
    obtain ⟨fuel, hf⟩ := h2
    rcases open_ints Try.underlying23 Try.underlying3 (by kernel_rfl) hf with ⟨hcs, _⟩ | ⟨x, l, c, zs, hcs, _, hl, hm, hz, _, hcell, hwz⟩
    · simp [Value.cells] at hcs
      obtain ⟨rfl, rfl, rfl⟩ := hcs
      exact ⟨[], .inl ⟨rfl, rfl, rfl, rfl⟩⟩
    · simp [Value.cells] at hcs
      obtain ⟨rfl, rfl, rfl⟩ := hcs
      exact ⟨zs, .inr ⟨_, rfl, hl, hm, by simpa using hz, hcell, hwz⟩⟩
  have k3 := h3
  have lt3 : ∀ x ∈ p3, x.block < W.heap.size := by obtain ⟨m, hm⟩ := k3; exact DataW.trod_lt m _ _ _ hm
  obtain ⟨a3, rfl, _, _, w3⟩ := open_int Try.underlying3 (hval 3 3 v3 rfl rfl) h3
  clear hA0 hval0
  refine (walk a0 (i64_wf w0) a1 len1 cap1 z1 a2 len2 cap2 z2 a3 (i64_wf w3) W w1 w2).mono fun e W' ⟨he, bel⟩ => ?_
  subst he
  exact ⟨_, rfl, _, _, _, [], _, [], hW', trodAll_mk1 (shut_bool Try.underlying4 _), (trodAll_cons_mk (Below.trod laidOut (by kernel_rfl) (of_decide_eq_true (by kernel_rfl)) k0 bel lt0) (trodAll_cons_mk (Below.trod laidOut (by kernel_rfl) (of_decide_eq_true (by kernel_rfl)) k1 bel lt1) (trodAll_cons_mk (Below.trod laidOut (by kernel_rfl) (of_decide_eq_true (by kernel_rfl)) k2 bel lt2) (trodAll_cons_mk (Below.trod laidOut (by kernel_rfl) (of_decide_eq_true (by kernel_rfl)) k3 bel lt3) trodAll_mk0)))), rfl, bel.frame _, fun h => by cases h⟩

theorem over : Rows.ackMoreRow.holds Try.pinned (OpenSpec.ofChange Rows.ackMoreSpec) :=
  OpenClaim.holds_of_wide 7 Try.f7 rfl rfl rfl rfl rfl rfl rfl ⟨rfl, rfl, rfl, rfl, rfl⟩ rfl rfl rfl rfl rfl (by kernel_rfl) Try.func7 (by kernel_rfl)
    (of_decide_eq_true (by kernel_rfl)) (by unfold Func.isWrapper; first | (rw [if_pos (by decide +kernel)]; kernel_rfl) | (rw [if_neg (by decide +kernel)]; exact ⟨rfl, rfl⟩))
    (fun os started H enc _ => lifted os started H enc)

theorem proved : Rows.AckMoreSaid := over
#print axioms proved
end Go.Proofs.Ytipdjfgaenoepaa.ackMore
