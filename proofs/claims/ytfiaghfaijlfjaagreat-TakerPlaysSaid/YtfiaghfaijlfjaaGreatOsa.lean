/- Rows of objects: the reference's Same and size. No conditions but on lengths. -/
import Derived.Test.YtfiaghfaijlfjaaGreatOrw
import Derived.LoopTactic
namespace Go.Proofs.YtfiaghfaijlfjaaGreat
set_option maxRecDepth 100000
open Go.RowKit Go.Sort

theorem eqO_ob (y z : Ob) : eqO y.k y.x y.n y.t y.o y.r y.d y.i y.p y.q y.s y.m z.k z.x z.n z.t z.o z.r z.d z.i z.p z.q z.s z.m = true ↔ y = z := by
  rw [eqO_iff]
  constructor
  · intro h
    cases y; cases z
    simpa using h
  · rintro rfl
    exact ⟨rfl, rfl, rfl, rfl, rfl, rfl, rfl, rfl, rfl, rfl, rfl, rfl⟩
theorem neq37 (k x : Int) (n : Bool) (t o r d i p q s m : Int) (k' x' : Int) (n' : Bool) (t' o' r' d' i' p' q' s' m' : Int) (w : World) : (binOp .neq 53 (.agg #[.int .i64 k, .int .i64 x, .bool n, .int .i64 t, .int .i64 o, .int .i64 r, .int .i64 d, .int .i64 i, .int .i64 p, .int .i64 q, .int .i64 s, .int .i64 m]) (.agg #[.int .i64 k', .int .i64 x', .bool n', .int .i64 t', .int .i64 o', .int .i64 r', .int .i64 d', .int .i64 i', .int .i64 p', .int .i64 q', .int .i64 s', .int .i64 m'])).run Tryz.prog w = .ok (.bool (!eqO k x n t o r d i p q s m k' x' n' t' o' r' d' i' p' q' s' m')) w := by
  rw [run_neq_struct, run_eq37]; rfl
theorem Os.at {w : World} {a : Option Addr} {c : Nat} {ys : List Ob} (h : Os w (.slice a ys.length c) ys) {i : Nat} (hi : i < ys.length) : ∃ b off, a = some ⟨b, off, none⟩ ∧ b < w.heap.size ∧ C12 w b (off + i * 12) (ys.getD i z12) := by
  rcases h with ⟨a', cap, hv, _, rfl⟩ | ⟨b, off, cap, hv, _, hB, hc⟩
  · simp at hi
  · simp only [Value.slice.injEq] at hv
    exact ⟨b, off, hv.1, hB, hc i hi⟩
theorem row_ext {ys zs : List Ob} (hl : ys.length = zs.length) (h : ∀ i, i < ys.length → ys.getD i z12 = zs.getD i z12) : ys = zs := by
  refine List.ext_getElem hl fun i h1 h2 => ?_
  have := h i h1
  simpa [List.getD, h1, h2] using this
set_option maxHeartbeats 8000000 in
theorem same_any (v u : Value) (ys zs : List Ob) (w : World) (hy : Os w v ys) (hz : Os w u zs) (hl : ys.length ≤ 3000) :
    Calls Tryz.prog 9 #[v, u] w fun e w' => (∃ b : Bool, e = .returned (.bool b) ∧ (b = true ↔ ys = zs)) ∧ Below w.heap.size w w' := by
  obtain ⟨a, c, rfl⟩ := hy.form
  obtain ⟨a', c', rfl⟩ := hz.form
  have HY := Lib.hid hy
  have HZ := Lib.hid hz
  clear hy hz
  by_cases hne : ys.length = zs.length
  · have hne' : ((ys.length : Int) == (zs.length : Int)) = true := by rw [beq_iff_eq]; omega
    have HN := Lib.hid hne
    clear hne
    go_enter Tryz.func9, Tryz.ntmps9
    go_wp2_with fail
    go_loopw [5] (fun i wr => ∃ k : Nat, k ≤ ys.length ∧ i = .int .i64 k ∧ (∀ i, i < k → ys.getD i z12 = zs.getD i z12) ∧ Below w.heap.size w wr) (fun i _ => ys.length - (intOf i).toNat)
    case atStart => exact ⟨0, Nat.zero_le _, rfl, fun i h => absurd h (Nat.not_lt_zero _), Below.refl _ _⟩
    case round =>
      obtain ⟨k, hk, rfl, hsame, hbel⟩ := hrel
      have HS := Lib.hid hsame
      have HB := Lib.hid hbel
      clear hsame hbel
      by_cases hlt : k < ys.length
      · obtain ⟨b, off, rfl, hB, hc⟩ := (HY.out.below HB.out).at hlt
        have hlt2 : k < zs.length := by have := HN.out; omega
        obtain ⟨b2, off2, rfl, hB2, hc2⟩ := (HZ.out.below HB.out).at hlt2
        obtain ⟨y, hyk⟩ : ∃ y, ys.getD k z12 = y := ⟨_, rfl⟩
        obtain ⟨z, hzk⟩ : ∃ z, zs.getD k z12 = z := ⟨_, rfl⟩
        rw [hyk] at hc
        rw [hzk] at hc2
        obtain ⟨p0, p1, p2, p3, p4, p5, p6, p7, p8, p9, p10, p11⟩ := hc.all
        obtain ⟨q0, q1, q2, q3, q4, q5, q6, q7, q8, q9, q10, q11⟩ := hc2.all
        have HK := Lib.hid hyk
        have HK2 := Lib.hid hzk
        clear hc hc2 hyk hzk
        have E1 := guard37
        have E2 := neq37
        obtain ⟨q, hq⟩ : ∃ q, eqO y.k y.x y.n y.t y.o y.r y.d y.i y.p y.q y.s y.m z.k z.x z.n z.t z.o z.r z.d z.i z.p z.q z.s z.m = q := ⟨_, rfl⟩
        have HQ : Hid (q = true ↔ y = z) := by rw [← hq]; exact eqO_ob y z
        go_wp2_with fail
        go_region
        cases q with
        | true =>
          go_wp2_with fail
          go_roundw
          case rel =>
            refine ⟨k + 1, by omega, by go_num, ?_, HB.out.drew⟩
            intro j hj
            by_cases h : j < k
            · exact HS.out j h
            · obtain rfl : j = k := by omega
              rw [HK.out, HK2.out]; exact HQ.out.1 rfl
          case measure => simp [intOf]; omega
        | false =>
          go_wp2_with fail
          go_ret
          refine ⟨⟨false, rfl, ⟨(fun h => by cases h), fun h => ?_⟩⟩, HB.out.drew⟩
          subst h
          exact absurd (HQ.out.2 (HK.out.symm.trans HK2.out)) (by decide)
      · obtain rfl : k = ys.length := by omega
        go_wp2_with fail
        go_ret
        exact ⟨⟨true, rfl, ⟨fun _ => row_ext HN.out HS.out, fun _ => rfl⟩⟩, HB.out⟩
  · have hne' : ((ys.length : Int) == (zs.length : Int)) = false := by rw [beq_eq_false_iff_ne]; omega
    have HN := Lib.hid hne
    clear hne
    go_enter Tryz.func9, Tryz.ntmps9
    go_wp2_with fail
    go_ret
    exact ⟨⟨false, rfl, ⟨(fun h => by cases h), fun h => absurd (congrArg List.length h) HN.out⟩⟩, Below.refl _ _⟩
end Go.Proofs.YtfiaghfaijlfjaaGreat

