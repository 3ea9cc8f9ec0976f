/- thalweglaw02.HeightOrder: for any three heights the law answers true; no condition. -/
import Derived.Test.YtkgckmlphfafjaaOrd1
import Derived.Test.YtkgckmlphfafjaaOrd2
import Derived.Test.YtkgckmlphfafjaaOrd3
import Derived.Test.YtkgckmlphfafjaaOrd4
import Derived.WalkLawsBesides
import Derived.WalkKit
import Derived.ProofKit
import Derived.OpenShut
import Derived.ShutString
import Derived.ChangeOld
import Derived.Below
namespace Go.Proofs.Ytkgckmlphfafjaa.heightOrder
open Go.ChangeShapes Go.WideShapes Go.ChangeAt Go.RowKit
open Go.ChangeMaps (open_string shut_string)
set_option linter.unusedVariables false


theorem cmpL_tri : ∀ (xs ys : List Int), cmpL xs ys = -1 ∨ cmpL xs ys = 0 ∨ cmpL xs ys = 1
  | [], [] => .inr (.inl rfl)
  | [], _ :: _ => .inr (.inl rfl)
  | _ :: _, [] => .inr (.inl rfl)
  | x :: xs, y :: ys => by
    have ih := cmpL_tri xs ys
    simp only [cmpL]
    by_cases h1 : x < y
    · simp [h1]
    · by_cases h2 : y < x
      · simp [h1, h2]
      · simp only [h1, h2, if_false]; exact ih
theorem cmpL_self : ∀ (xs : List Int), cmpL xs xs = 0
  | [] => rfl
  | x :: xs => by simp [cmpL, cmpL_self xs]
theorem cmpL_zero : ∀ (xs ys : List Int), xs.length = ys.length → cmpL xs ys = 0 → xs = ys
  | [], [], _, _ => rfl
  | [], _ :: _, h, _ => by cases h
  | _ :: _, [], h, _ => by cases h
  | x :: xs, y :: ys, h, h0 => by
    simp only [cmpL] at h0
    by_cases h1 : x < y
    · simp [h1] at h0
    · by_cases h2 : y < x
      · simp [h1, h2] at h0
      · simp only [h1, h2, if_false] at h0
        rw [cmpL_zero xs ys (by simpa using h) h0, show x = y by omega]
theorem cmpL_trans : ∀ (xs ys zs : List Int), xs.length = ys.length → ys.length = zs.length → cmpL xs ys < 0 → cmpL ys zs < 0 → cmpL xs zs < 0
  | [], [], _, _, _, h, _ => by simp [cmpL] at h
  | [], _ :: _, _, h, _, _, _ => by cases h
  | _ :: _, [], _, h, _, _, _ => by cases h
  | _ :: _, _ :: _, [], _, h, _, _ => by cases h
  | x :: xs, y :: ys, z :: zs, h1, h2, h3, h4 => by
    have ih := cmpL_trans xs ys zs (by simpa using h1) (by simpa using h2)
    simp only [cmpL] at *
    by_cases a1 : x < y
    · by_cases b1 : z < y
      · have : ¬ y < z := by omega
        simp [this, b1] at h4
      · have : x < z := by omega
        simp [this]
    · by_cases a2 : y < x
      · simp [a1, a2] at h3
      · simp only [a1, a2, if_false] at h3
        obtain rfl : x = y := by omega
        by_cases b1 : x < z
        · simp [b1]
        · by_cases b2 : z < x
          · simp [b1, b2] at h4
          · simp only [b1, b2, if_false] at h4 ⊢
            exact ih h3 h4
theorem ord_tri (t o r t' o' r' : Int) : ordL t o r t' o' r' = -1 ∨ ordL t o r t' o' r' = 0 ∨ ordL t o r t' o' r' = 1 := cmpL_tri _ _
theorem cmp5_eq (t o r d i t' o' r' d' i' : Int) : cmp5 t o r d i t' o' r' d' i' = if ordL t o r t' o' r' = 0 then cmpL [d, i] [d', i'] else ordL t o r t' o' r' :=
  cmpL_app [t, o, r] [t', o', r'] [d, i] [d', i'] rfl
theorem told_of {n : Bool} {t o r d i : Int} (h : HtOk n t o r d i) (hn : n = false) : told n t o r d i = true := by subst hn; simp [told, h]
theorem told_null {t o r d i : Int} : told true t o r d i = false := rfl
theorem told_no {n : Bool} {t o r d i : Int} (h : ¬ HtOk n t o r d i) : told n t o r d i = false := by simp [told, h]
theorem less_aa (n : Bool) (t o r d i : Int) : lessB n t o r d i n t o r d i = false := by
  unfold lessB cmp5
  rw [cmpL_self]
  simp
theorem less_l {n : Bool} {t o r d i : Int} (h : told n t o r d i = false) (m : Bool) (t' o' r' d' i' : Int) : lessB n t o r d i m t' o' r' d' i' = false := by unfold lessB; rw [h]; rfl
theorem less_r {m : Bool} {t' o' r' d' i' : Int} (h : told m t' o' r' d' i' = false) (n : Bool) (t o r d i : Int) : lessB n t o r d i m t' o' r' d' i' = false := by unfold lessB; rw [h]; simp
theorem less_told {n m : Bool} {t o r d i t' o' r' d' i' : Int} (h : told n t o r d i = true) (h' : told m t' o' r' d' i' = true) : lessB n t o r d i m t' o' r' d' i' = decide (cmp5 t o r d i t' o' r' d' i' < 0) := by unfold lessB; rw [h, h']; rfl
theorem less_iff {n m : Bool} {t o r d i t' o' r' d' i' : Int} : lessB n t o r d i m t' o' r' d' i' = true ↔ told n t o r d i = true ∧ told m t' o' r' d' i' = true ∧ cmp5 t o r d i t' o' r' d' i' < 0 := by unfold lessB; simp

theorem walk (n0 : Bool) (t0 o0 r0 d0 i0 : Int) (w0 : I64 t0 ∧ I64 o0 ∧ I64 r0 ∧ I64 d0 ∧ I64 i0) (n1 : Bool) (t1 o1 r1 d1 i1 : Int) (w1 : I64 t1 ∧ I64 o1 ∧ I64 r1 ∧ I64 d1 ∧ I64 i1) (n2 : Bool) (t2 o2 r2 d2 i2 : Int) (w2 : I64 t2 ∧ I64 o2 ∧ I64 r2 ∧ I64 d2 ∧ I64 i2) (w : World) :
    Calls Try.prog 5 #[.agg #[.bool n0, .int .i64 t0, .int .i64 o0, .int .i64 r0, .int .i64 d0, .int .i64 i0], .agg #[.bool n1, .int .i64 t1, .int .i64 o1, .int .i64 r1, .int .i64 d1, .int .i64 i1], .agg #[.bool n2, .int .i64 t2, .int .i64 o2, .int .i64 r2, .int .i64 d2, .int .i64 i2]] w fun e w' => e = .returned (.bool true) ∧ Below w.heap.size w w' := by
  by_cases hA : HtOk n0 t0 o0 r0 d0 i0
  · by_cases hB : HtOk n1 t1 o1 r1 d1 i1
    · cases n0 with
      | true => exact case_b3 t0 o0 r0 d0 i0 w0 n1 t1 o1 r1 d1 i1 w1 n2 t2 o2 r2 d2 i2 w2 w (less_l told_null _ _ _ _ _ _) (less_r told_null _ _ _ _ _ _) (less_aa _ _ _ _ _ _) (chk_ok hA) (chk_ok hB) (ord_tri _ _ _ _ _ _)
      | false =>
        cases n1 with
        | true => exact case_b4 t0 o0 r0 d0 i0 w0 t1 o1 r1 d1 i1 w1 n2 t2 o2 r2 d2 i2 w2 w (less_r told_null _ _ _ _ _ _) (less_l told_null _ _ _ _ _ _) (less_aa _ _ _ _ _ _) (chk_ok hA) (chk_ok hB) (ord_tri _ _ _ _ _ _)
        | false =>
          have ta := told_of hA rfl
          have tb := told_of hB rfl
          have hlt := less_told ta tb
          have hgt := less_told tb ta
          have hneg : cmp5 t1 o1 r1 d1 i1 t0 o0 r0 d0 i0 = - cmp5 t0 o0 r0 d0 i0 t1 o1 r1 d1 i1 := cmpL_neg _ _
          have h5 := cmp5_eq t0 o0 r0 d0 i0 t1 o1 r1 d1 i1
          have htri := ord_tri t0 o0 r0 t1 o1 r1
          have hself : eqH false t0 o0 r0 d0 i0 false t1 o1 r1 d1 i1 = true ↔ cmp5 t0 o0 r0 d0 i0 t1 o1 r1 d1 i1 = 0 := by
            rw [eqH_iff]
            constructor
            · rintro ⟨-, rfl, rfl, rfl, rfl, rfl⟩; exact cmpL_self _
            · intro h
              have := cmpL_zero [t0, o0, r0, d0, i0] [t1, o1, r1, d1, i1] rfl h
              simp only [List.cons.injEq, and_true] at this
              exact ⟨rfl, this⟩
          have hl : ∀ (x : Int), lv (told false t0 o0 r0 d0 i0) x = x := fun x => by rw [ta]; rfl
          have hl' : ∀ (x : Int), lv (told false t1 o1 r1 d1 i1) x = x := fun x => by rw [tb]; rfl
          rcases Int.lt_trichotomy (cmp5 t0 o0 r0 d0 i0 t1 o1 r1 d1 i1) 0 with hc | hc | hc
          · have hE : eqH false t0 o0 r0 d0 i0 false t1 o1 r1 d1 i1 = false := by
              cases he : eqH false t0 o0 r0 d0 i0 false t1 o1 r1 d1 i1 with
              | false => rfl
              | true => have := hself.1 he; omega
            have hP : ordL t0 o0 r0 t1 o1 r1 = -1 ∨ ordL t0 o0 r0 t1 o1 r1 = 0 := by
              rcases htri with h | h | h
              · exact .inl h
              · exact .inr h
              · rw [h, if_neg (by decide)] at h5; omega
            rw [decide_eq_true hc] at hlt
            rw [decide_eq_false (by omega)] at hgt
            cases hBC : lessB false t1 o1 r1 d1 i1 n2 t2 o2 r2 d2 i2 with
            | true =>
              have hbc := less_iff.1 hBC
              have hAC : lessB false t0 o0 r0 d0 i0 n2 t2 o2 r2 d2 i2 = true := less_iff.2 ⟨ta, hbc.2.1, cmpL_trans [t0, o0, r0, d0, i0] [t1, o1, r1, d1, i1] [t2, o2, r2, d2, i2] rfl rfl hc hbc.2.2⟩
              exact case_a1 t0 o0 r0 d0 i0 w0 t1 o1 r1 d1 i1 w1 n2 t2 o2 r2 d2 i2 w2 w hlt hgt (less_aa _ _ _ _ _ _) hBC hAC (chk_ok hA) (chk_ok hB) hE (by simp only [hl, hl']; exact hP)
            | false => exact case_a2 t0 o0 r0 d0 i0 w0 t1 o1 r1 d1 i1 w1 n2 t2 o2 r2 d2 i2 w2 w hlt hgt (less_aa _ _ _ _ _ _) hBC (chk_ok hA) (chk_ok hB) hE (by simp only [hl, hl']; exact hP)
          · rw [decide_eq_false (by omega)] at hlt
            rw [decide_eq_false (by omega)] at hgt
            have hP : ordL t0 o0 r0 t1 o1 r1 = 0 := by
              have h := (eqH_iff.1 (hself.2 hc)).2
              obtain ⟨rfl, rfl, rfl, rfl, rfl⟩ := h
              exact cmpL_self _
            exact case_a3 t0 o0 r0 d0 i0 w0 t1 o1 r1 d1 i1 w1 n2 t2 o2 r2 d2 i2 w2 w hlt hgt (less_aa _ _ _ _ _ _) (chk_ok hA) (chk_ok hB) (hself.2 hc) (by simp only [hl, hl']; exact hP)
          · have hE : eqH false t0 o0 r0 d0 i0 false t1 o1 r1 d1 i1 = false := by
              cases he : eqH false t0 o0 r0 d0 i0 false t1 o1 r1 d1 i1 with
              | false => rfl
              | true => have := hself.1 he; omega
            have hP : ordL t0 o0 r0 t1 o1 r1 = 0 ∨ ordL t0 o0 r0 t1 o1 r1 = 1 := by
              rcases htri with h | h | h
              · rw [h, if_neg (by decide)] at h5; omega
              · exact .inl h
              · exact .inr h
            rw [decide_eq_false (by omega)] at hlt
            rw [decide_eq_true (by omega)] at hgt
            exact case_a4 t0 o0 r0 d0 i0 w0 t1 o1 r1 d1 i1 w1 n2 t2 o2 r2 d2 i2 w2 w hlt hgt (less_aa _ _ _ _ _ _) (chk_ok hA) (chk_ok hB) hE (by simp only [hl, hl']; exact hP)
    · exact case_b2 n0 t0 o0 r0 d0 i0 w0 n1 t1 o1 r1 d1 i1 w1 n2 t2 o2 r2 d2 i2 w2 w (less_r (told_no hB) _ _ _ _ _ _) (less_l (told_no hB) _ _ _ _ _ _) (less_aa _ _ _ _ _ _) (chk_ok hA) (chk_no hB) (ord_tri _ _ _ _ _ _)
  · exact case_b1 n0 t0 o0 r0 d0 i0 w0 n1 t1 o1 r1 d1 i1 w1 n2 t2 o2 r2 d2 i2 w2 w (less_l (told_no hA) _ _ _ _ _ _) (less_r (told_no hA) _ _ _ _ _ _) (less_aa _ _ _ _ _ _) (chk_no hA) (ord_tri _ _ _ _ _ _)

set_option maxRecDepth 100000 in
theorem lifted (os : Os) (started : os.Started) (H : Type) (enc : TypeId × Value → H) :
    ReturnsInHanded {} Try.checked os 5 .any (Rows.heightOrderSpec.pre6 enc Try.prog Try.f5 Rows.heightOrderRow.domain false) (Rows.heightOrderSpec.post enc Try.prog Try.f5 false true false false) := by
  refine returnsInHanded_of_change (C := Try.checked) own started (by kernel_rfl) Try.func5
    (ChangeSpec.witness6 (enc := enc) (C := Try.checked) false ⟨#[], #[.agg #[.bool false, .int .i64 0, .int .i64 0, .int .i64 0, .int .i64 0, .int .i64 0], .agg #[.bool false, .int .i64 0, .int .i64 0, .int .i64 0, .int .i64 0, .int .i64 0], .agg #[.bool false, .int .i64 0, .int .i64 0, .int .i64 0, .int .i64 0, .int .i64 0]], []⟩ 16 (by kernel_rfl) (by kernel_rfl) (by kernel_rfl) (by kernel_rfl)) ?_
  intro W base args ds gs before hval0 hW hcnd _
  have hval : ∀ (j : Nat) t v, Try.f5.params[j]? = some t → args[j]? = some v → Value.okWide Try.prog W .any base t v := hval0
  have hW' := hW
  obtain ⟨p, q, hA0, hV, rfl, hfz, hnd⟩ := hW
  have hA : DataW.TrodAll enc Try.prog W 0 (fun _ => true) true Try.f5.params.toList args.toList ds p := hA0
  rw [Try.params5] at hA hval
  obtain ⟨v0, vs0, e0, ds0, p0, q0, hargs, rfl, rfl, h0, x0⟩ := trodAll_cons hA
  obtain ⟨v1, vs1, e1, ds1, p1, q1, rfl, rfl, rfl, h1, x1⟩ := trodAll_cons x0
  obtain ⟨v2, vs2, e2, ds2, p2, q2, rfl, rfl, rfl, h2, x2⟩ := trodAll_cons x1
  obtain ⟨rfl, rfl, rfl⟩ := trodAll_nil x2
  obtain rfl : args = #[v0, v1, v2] := by cases args; simp_all
  obtain ⟨rfl, rfl⟩ := trodVars_none hV
  have k0 := h0
  have lt0 : ∀ x ∈ p0, x.block < W.heap.size := by obtain ⟨m, hm⟩ := k0; exact DataW.trod_lt m _ _ _ hm
  obtain ⟨n0, t0, o0, r0, d0, i0, rfl, w0⟩ := ht_form (hval 0 23 v0 rfl rfl) h0
  have k1 := h1
  have lt1 : ∀ x ∈ p1, x.block < W.heap.size := by obtain ⟨m, hm⟩ := k1; exact DataW.trod_lt m _ _ _ hm
  obtain ⟨n1, t1, o1, r1, d1, i1, rfl, w1⟩ := ht_form (hval 1 23 v1 rfl rfl) h1
  have k2 := h2
  have lt2 : ∀ x ∈ p2, x.block < W.heap.size := by obtain ⟨m, hm⟩ := k2; exact DataW.trod_lt m _ _ _ hm
  obtain ⟨n2, t2, o2, r2, d2, i2, rfl, w2⟩ := ht_form (hval 2 23 v2 rfl rfl) h2
  clear hA0 hval0
  refine (walk n0 t0 o0 r0 d0 i0 w0 n1 t1 o1 r1 d1 i1 w1 n2 t2 o2 r2 d2 i2 w2 W).mono fun e W' ⟨he, bel⟩ => ?_
  subst he
  exact ⟨_, rfl, _, _, _, [], _, [], hW', trodAll_mk1 (shut_bool Try.underlying4 _), (trodAll_cons_mk (Below.trod laidOut (by kernel_rfl) (of_decide_eq_true (by kernel_rfl)) k0 bel lt0) (trodAll_cons_mk (Below.trod laidOut (by kernel_rfl) (of_decide_eq_true (by kernel_rfl)) k1 bel lt1) (trodAll_cons_mk (Below.trod laidOut (by kernel_rfl) (of_decide_eq_true (by kernel_rfl)) k2 bel lt2) trodAll_mk0))), rfl, bel.frame _, fun h => by cases h⟩

theorem over : Rows.heightOrderRow.holds Try.pinned (OpenSpec.ofChange Rows.heightOrderSpec) :=
  OpenClaim.holds_of_wide 5 Try.f5 rfl rfl rfl rfl rfl rfl rfl ⟨rfl, rfl, rfl, rfl, rfl⟩ rfl rfl rfl rfl rfl (by kernel_rfl) Try.func5 (by kernel_rfl)
    (of_decide_eq_true (by kernel_rfl)) (by unfold Func.isWrapper; first | (rw [if_pos (by decide +kernel)]; kernel_rfl) | (rw [if_neg (by decide +kernel)]; exact ⟨rfl, rfl⟩))
    (fun os started H enc _ => lifted os started H enc)

theorem proved : Rows.HeightOrderSaid := over
#print axioms proved
end Go.Proofs.Ytkgckmlphfafjaa.heightOrder
