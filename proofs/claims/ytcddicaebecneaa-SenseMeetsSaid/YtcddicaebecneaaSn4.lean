/- The reference's Events and Echoes of sense. No conditions but on lengths. -/
import Derived.Test.YtcddicaebecneaaSn3
import Derived.BigRegion
namespace Go.Proofs.Ytcddicaebecneaa
set_option maxRecDepth 100000
open Go.RowKit

theorem fieldsEV : ((Try.prog.fieldsOf 49).toList.map fun f => (f.name == "_", f.type, f.offset)) = [(false, 3, 0), (false, 3, 1), (false, 3, 2)] := by kernel_rfl
theorem underEV : Try.prog.underlying 49 = some (.struct (Try.prog.fieldsOf 49)) := by kernel_rfl
def eqEv (x y : Ev) : Bool := x.1 == y.1 && (x.2.1 == y.2.1 && x.2.2 == y.2.2)
theorem eqEv_iff {x y : Ev} : eqEv x y = true ↔ x = y := by
  unfold eqEv
  rw [Bool.and_eq_true, Bool.and_eq_true, beq_iff_eq, beq_iff_eq, beq_iff_eq]
  exact ⟨fun h => Prod.ext h.1 (Prod.ext h.2.1 h.2.2), fun h => by rw [h]; exact ⟨rfl, rfl, rfl⟩⟩
theorem run_eqEV (x y : Ev) (w : World) : (Op.equalIn 10000 49 (.agg #[.int .i64 x.1, .int .i64 x.2.1, .int .i64 x.2.2]) (.agg #[.int .i64 y.1, .int .i64 y.2.1, .int .i64 y.2.2])).run Try.prog w = .ok (eqEv x y) w := by
  rw [run_equalIn_agg w 9999 49 _ _ underEV (by kernel_rfl)]
  have hf := fieldsEV
  generalize (Try.prog.fieldsOf 49).toList = fs at *
  have a3 : (isAgg 3).run Try.prog w = .ok false w := by kernel_rfl
  obtain ⟨f0, _, rfl, g0, hf⟩ := List.map_eq_cons_iff.1 hf
  obtain ⟨f1, _, rfl, g1, hf⟩ := List.map_eq_cons_iff.1 hf
  obtain ⟨f2, _, rfl, g2, hf⟩ := List.map_eq_cons_iff.1 hf
  obtain rfl := List.map_eq_nil_iff.1 hf
  rw [ecF_cell g0 a3 rfl rfl (run_equalIn_int w 9998 3 .i64 .i64 x.1 y.1 (by kernel_rfl)), ecF_cell g1 a3 rfl rfl (run_equalIn_int w 9998 3 .i64 .i64 x.2.1 y.2.1 (by kernel_rfl)), ecF_cell g2 a3 rfl rfl (run_equalIn_int w 9998 3 .i64 .i64 x.2.2 y.2.2 (by kernel_rfl))]
  simp only [Op.eqFields, Sem.run_pure, eqEv]
  cases x.1 == y.1 <;> cases x.2.1 == y.2.1 <;> cases x.2.2 == y.2.2 <;> rfl
theorem guardEV (op : BinOp) (x y : Operand) (xs ys : Array Value) (w : World) : (eqGuard op 49 x y (.agg xs) (.agg ys)).run Try.prog w = .ok () w := run_eqGuard_agg w op 49 x y xs ys (by kernel_rfl)
theorem neqEV (x y : Ev) (w : World) : (binOp .neq 49 (.agg #[.int .i64 x.1, .int .i64 x.2.1, .int .i64 x.2.2]) (.agg #[.int .i64 y.1, .int .i64 y.2.1, .int .i64 y.2.2])).run Try.prog w = .ok (.bool (!eqEv x y)) w := by
  rw [run_neq_struct, run_eqEV]; rfl
theorem row_ext3 {ys zs : List Ev} (hn : ys.length = zs.length) (h : ∀ i, i < ys.length → ys.getD i zEv = zs.getD i zEv) : ys = zs := by
  refine List.ext_getElem hn fun i h1 h2 => ?_
  have := h i h1
  simpa [List.getD, h1, h2] using this
set_option maxHeartbeats 8000000 in
theorem revs_any (v u : Value) (ys zs : List Ev) (w : World) (hy : Evs w v ys) (hz : Evs w u zs) (hl : ys.length ≤ 3000) :
    Calls Try.prog 17 #[v, u] w fun e w' => e = .returned (.bool (decide (ys = zs))) ∧ Below w.heap.size w w' := by
  obtain ⟨a, c, rfl⟩ := hy.form
  obtain ⟨a', c', rfl⟩ := hz.form
  have HY := Lib.hid hy
  have HZ := Lib.hid hz
  clear hy hz
  by_cases hne : ys.length = zs.length
  · have hL : ((ys.length : Int) != (zs.length : Int)) = false := by rw [hne]; simp
    have HN := Lib.hid hne
    clear hne
    go_enter Try.func17, Try.ntmps17
    go_wp2_with fail
    go_loopw [5] (fun i wr => ∃ k : Nat, k ≤ ys.length ∧ i = .int .i64 k ∧ Hid (∀ i, i < k → ys.getD i zEv = zs.getD i zEv) ∧ Hid (Below w.heap.size w wr)) (fun i _ => ys.length - (intOf i).toNat)
    case atStart => exact ⟨0, Nat.zero_le _, rfl, (fun i h => absurd h (Nat.not_lt_zero _)), Below.refl _ _⟩
    case round =>
      obtain ⟨k, hk, rfl, HS, HW⟩ := hrel
      by_cases hlt : k < ys.length
      · obtain ⟨b, off, rfl, hB, p0, p1, p2⟩ := (HY.out.below HW.out).at hlt
        have hlt2 : k < zs.length := by have := HN.out; omega
        obtain ⟨b2, off2, rfl, hB2, q0, q1, q2⟩ := (HZ.out.below HW.out).at hlt2
        obtain ⟨y, hyk⟩ : ∃ y, ys.getD k zEv = y := ⟨_, rfl⟩
        obtain ⟨z, hzk⟩ : ∃ z, zs.getD k zEv = z := ⟨_, rfl⟩
        rw [hyk] at p0 p1 p2
        rw [hzk] at q0 q1 q2
        have HK := Lib.hid hyk
        have HK2 := Lib.hid hzk
        clear hyk hzk
        have E1 := guardEV
        have E2 := fun W => neqEV y z W
        obtain ⟨q, hq⟩ : ∃ q, eqEv y z = q := ⟨_, rfl⟩
        have HQ : Hid (q = true ↔ y = z) := by rw [← hq]; exact eqEv_iff
        simp only [hq] at E2
        clear hq
        go_wp2_with fail
        go_region
        cases q with
        | true =>
          go_wp2_with fail
          go_roundw
          case rel =>
            refine ⟨k + 1, by omega, by go_num, ?_, HW.out.drew⟩
            intro j hj
            by_cases h : j < k
            · exact HS.out j h
            · obtain rfl : j = k := by omega
              rw [HK.out, HK2.out]; exact HQ.out.1 rfl
          case measure => simp [intOf]; omega
        | false =>
          go_wp2_with fail
          go_ret
          refine ⟨?_, HW.out.drew⟩
          have hn : ¬ ys = zs := fun h => by
            subst h
            have := HQ.out.2 (HK.out.symm.trans HK2.out)
            cases this
          rw [decide_eq_false hn]
          rfl
      · obtain rfl : k = ys.length := by omega
        go_wp2_with fail
        go_ret
        rw [decide_eq_true (row_ext3 HN.out HS.out)]
        exact ⟨rfl, HW.out⟩
  · have hL : ((ys.length : Int) != (zs.length : Int)) = true := by simpa using fun h : (ys.length : Int) = zs.length => hne (Int.ofNat.inj h)
    go_enter Try.func17, Try.ntmps17
    go_wp2_with fail
    go_ret
    rw [decide_eq_false (fun h => hne (congrArg List.length h))]
    exact ⟨rfl, Below.refl _ _⟩
theorem rech_any (v u : Value) (ys zs : List (Int × Int)) (w : World) (hy : Es w v ys) (hz : Es w u zs) (hl : ys.length ≤ 3000) :
    Calls Try.prog 21 #[v, u] w fun e w' => e = .returned (.bool (decide (ys = zs))) ∧ Below w.heap.size w w' := by
  have C := Lib.hid (rsame_any 0 0 v u ys zs w hy hz hl)
  obtain ⟨a, c, rfl⟩ := hy.form
  obtain ⟨a', c', rfl⟩ := hz.form
  obtain ⟨R, hR⟩ : ∃ R, decide (ys = zs) = R := ⟨_, rfl⟩
  rw [hR]
  have HR := Lib.hid hR
  clear hy hz hR
  go_enter Try.func21, Try.ntmps21
  go_wp2_with fail
  refine C.out.mono ?_
  rintro e w1 ⟨⟨q, rfl, hq⟩, hb⟩
  have HB := Lib.hid hb
  have HQ : Hid (q = R) := by
    show _ = _
    rw [← HR.out]
    cases q with
    | true => exact (decide_eq_true (hq.1 rfl).2).symm
    | false => exact (decide_eq_false (fun h => by have := hq.2 ⟨by first | rfl | trivial, h⟩; cases this)).symm
  clear hb hq
  go_wp2_with fail
  go_ret
  exact ⟨by rw [← HQ.out]; rfl, HB.out⟩
end Go.Proofs.Ytcddicaebecneaa
