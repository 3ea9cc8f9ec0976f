/- Beacons: the reference's Same and Own; '==' of echoes. No conditions but on lengths. -/
import Derived.Test.YtcddicaebecneaaBec
namespace Go.Proofs.Ytcddicaebecneaa
set_option maxRecDepth 100000
open Go.RowKit

/-- One field of one cell that is compared. -/
theorem ecF_cell {P : Program} {w : World} {d : Nat} {xs ys : Array Value} {f : Field} {fs : List Field} {x y : Value} {T : TypeId} {off : Nat} {e : Bool}
    (h : (f.name == "_", f.type, f.offset) = (false, T, off)) (ha : (isAgg T).run P w = .ok false w) (hx : xs[off]? = some x) (hy : ys[off]? = some y) (he : (Op.equalIn d T x y).run P w = .ok e w) :
    (Op.eqFields d xs ys (f :: fs)).run P w = if e then (Op.eqFields d xs ys fs).run P w else .ok false w := by
  simp only [Prod.mk.injEq, beq_eq_false_iff_ne] at h
  obtain ⟨h1, h2, h3⟩ := h
  have p : ∀ (zs : Array Value) (z : Value), zs[off]? = some z → (part T zs off).run P w = .ok z w := by
    intro zs z hz
    simp only [part, Sem.run_bind, ha, Result.andThen_ok, Bool.false_eq_true, if_false, hz, Sem.run_pure]
  simp only [Op.eqFields, h2, h3]
  rw [if_pos h1]
  simp only [Sem.run_bind, p xs x hx, p ys y hy, he, Result.andThen_ok, Sem.run_ite, Sem.run_pure]
  cases e <;> simp
theorem fieldsEC : ((Try.prog.fieldsOf 51).toList.map fun f => (f.name == "_", f.type, f.offset)) = [(false, 3, 0), (false, 3, 1)] := by kernel_rfl
theorem run_eqEC (a b a' b' : Int) (w : World) :
    (Op.equalIn 10000 51 (.agg #[.int .i64 a, .int .i64 b]) (.agg #[.int .i64 a', .int .i64 b'])).run Try.prog w = .ok (a == a' && b == b') w := by
  rw [run_equalIn_agg w 9999 51 _ _ underEC (by kernel_rfl)]
  have hf := fieldsEC
  generalize (Try.prog.fieldsOf 51).toList = fs at *
  have a3 : (isAgg 3).run Try.prog w = .ok false w := by kernel_rfl
  obtain ⟨f0, _, rfl, g0, hf⟩ := List.map_eq_cons_iff.1 hf
  obtain ⟨f1, _, rfl, g1, hf⟩ := List.map_eq_cons_iff.1 hf
  obtain rfl := List.map_eq_nil_iff.1 hf
  rw [ecF_cell g0 a3 rfl rfl (run_equalIn_int w 9998 3 .i64 .i64 a a' (by kernel_rfl)), ecF_cell g1 a3 rfl rfl (run_equalIn_int w 9998 3 .i64 .i64 b b' (by kernel_rfl))]
  simp only [Op.eqFields, Sem.run_pure]
  cases a == a' <;> cases b == b' <;> rfl
theorem guardEC (op : BinOp) (x y : Operand) (xs ys : Array Value) (w : World) : (eqGuard op 51 x y (.agg xs) (.agg ys)).run Try.prog w = .ok () w :=
  run_eqGuard_agg w op 51 x y xs ys (by kernel_rfl)
def eqE (a b a' b' : Int) : Bool := a == a' && b == b'
theorem eqE_iff {a b a' b' : Int} : eqE a b a' b' = true ↔ (a, b) = (a', b') := by simp [eqE]
theorem neqEC (a b a' b' : Int) (w : World) : (binOp .neq 51 (.agg #[.int .i64 a, .int .i64 b]) (.agg #[.int .i64 a', .int .i64 b'])).run Try.prog w = .ok (.bool (!eqE a b a' b')) w := by
  rw [run_neq_struct, run_eqEC]; rfl
theorem rsame_shut (M M' : Int) (v u : Value) (ys zs : List (Int × Int)) (w : World) (hy : Es w v ys) (hz : Es w u zs) (h : (M != M') = true ∨ (M != M') = false ∧ ((ys.length : Int) != (zs.length : Int)) = true) :
    Calls Try.prog 18 #[.agg #[.int .i64 M, v], .agg #[.int .i64 M', u]] w fun e w' => e = .returned (.bool false) ∧ Below w.heap.size w w' := by
  obtain ⟨a, c, rfl⟩ := hy.form
  obtain ⟨a', c', rfl⟩ := hz.form
  clear hy hz
  rcases h with h | ⟨h, h2⟩
  · go_enter Try.func18, Try.ntmps18
    go_wp2_with fail
    go_ret
    exact ⟨rfl, ((Below.refl _ _).alloc (Nat.le_refl _) _).alloc (by simp) _⟩
  · go_enter Try.func18, Try.ntmps18
    go_wp2_with fail
    go_ret
    exact ⟨rfl, ((Below.refl _ _).alloc (Nat.le_refl _) _).alloc (by simp) _⟩
set_option maxHeartbeats 8000000 in
theorem rsame_loop (M : Int) (v u : Value) (ys zs : List (Int × Int)) (w : World) (hy : Es w v ys) (hz : Es w u zs) (hl : ys.length ≤ 3000) (hne : ys.length = zs.length) :
    Calls Try.prog 18 #[.agg #[.int .i64 M, v], .agg #[.int .i64 M, u]] w fun e w' => (∃ b : Bool, e = .returned (.bool b) ∧ (b = true ↔ ys = zs)) ∧ Below w.heap.size w w' := by
  obtain ⟨a, c, rfl⟩ := hy.form
  obtain ⟨a', c', rfl⟩ := hz.form
  have hM : (M != M) = false := by simp
  have hL : ((ys.length : Int) != (zs.length : Int)) = false := by rw [hne]; simp
  have k0 : ((w.alloc (.cells #[.int .i64 M, .slice a ys.length c] 34)).alloc (.cells #[.int .i64 M, .slice a' zs.length c'] 34)).cell? ⟨w.heap.size, 1, none⟩ = some (.slice a ys.length c) := by simp
  have k1 : ((w.alloc (.cells #[.int .i64 M, .slice a ys.length c] 34)).alloc (.cells #[.int .i64 M, .slice a' zs.length c'] 34)).cell? ⟨w.heap.size + 1, 1, none⟩ = some (.slice a' zs.length c') := by simp
  have HY := Lib.hid ((hy.alloc (.cells #[.int .i64 M, .slice a ys.length c] 34)).alloc (.cells #[.int .i64 M, .slice a' zs.length c'] 34))
  have HZ := Lib.hid ((hz.alloc (.cells #[.int .i64 M, .slice a ys.length c] 34)).alloc (.cells #[.int .i64 M, .slice a' zs.length c'] 34))
  have HB : Hid (Below w.heap.size w ((w.alloc (.cells #[.int .i64 M, .slice a ys.length c] 34)).alloc (.cells #[.int .i64 M, .slice a' zs.length c'] 34))) := ((Below.refl _ w).alloc (Nat.le_refl _) _).alloc (by simp) _
  have HN := Lib.hid hne
  clear hy hz hne
  go_enter Try.func18, Try.ntmps18
  go_wp2_with fail
  obtain ⟨V, hV⟩ : ∃ V, (w.alloc (.cells #[.int .i64 M, .slice a ys.length c] 34)).alloc (.cells #[.int .i64 M, .slice a' zs.length c'] 34) = V := ⟨_, rfl⟩
  rw [hV] at k0 k1 HY HZ HB
  simp only [hV]
  clear hV
  go_loopw [5] (fun i wr => ∃ k : Nat, k ≤ ys.length ∧ i = .int .i64 k ∧ (∀ i, i < k → ys.getD i (0, 0) = zs.getD i (0, 0)) ∧ Below V.heap.size V wr) (fun i _ => ys.length - (intOf i).toNat)
  case atStart => exact ⟨0, Nat.zero_le _, rfl, fun i h => absurd h (Nat.not_lt_zero _), Below.refl _ _⟩
  case round =>
    obtain ⟨k, hk, rfl, hsame, hbel⟩ := hrel
    have HS := Lib.hid hsame
    have HW := Lib.hid hbel
    have c0 : wr.cell? ⟨w.heap.size, 1, none⟩ = some (.slice a ys.length c) := by rw [hbel.cell (World.block_lt_of_cell? V _ k0)]; exact k0
    have c1 : wr.cell? ⟨w.heap.size + 1, 1, none⟩ = some (.slice a' zs.length c') := by rw [hbel.cell (World.block_lt_of_cell? V _ k1)]; exact k1
    clear hsame hbel
    by_cases hlt : k < ys.length
    · obtain ⟨b, off, rfl, hB, p0, p1⟩ := (HY.out.below HW.out).at hlt
      have hlt2 : k < zs.length := by have := HN.out; omega
      obtain ⟨b2, off2, rfl, hB2, q0, q1⟩ := (HZ.out.below HW.out).at hlt2
      obtain ⟨⟨y1, y2⟩, hyk⟩ : ∃ y, ys.getD k (0, 0) = y := ⟨_, rfl⟩
      obtain ⟨⟨z1, z2⟩, hzk⟩ : ∃ z, zs.getD k (0, 0) = z := ⟨_, rfl⟩
      rw [hyk] at p0 p1
      rw [hzk] at q0 q1
      simp only at p0 p1 q0 q1
      have HK := Lib.hid hyk
      have HK2 := Lib.hid hzk
      clear hyk hzk
      have E1 := guardEC
      have E2 := neqEC
      obtain ⟨q, hq⟩ : ∃ q, eqE y1 y2 z1 z2 = q := ⟨_, rfl⟩
      have HQ : Hid (q = true ↔ (y1, y2) = (z1, z2)) := by rw [← hq]; exact eqE_iff
      go_wp2_with fail
      go_region
      cases q with
      | true =>
        go_wp2_with fail
        go_roundw
        case rel =>
          refine ⟨k + 1, by omega, by go_num, ?_, HW.out.drew⟩
          intro j hj
          by_cases h : j < k
          · exact HS.out j h
          · obtain rfl : j = k := by omega
            rw [HK.out, HK2.out]; exact HQ.out.1 rfl
        case measure => simp [intOf]; omega
      | false =>
        go_wp2_with fail
        go_ret
        refine ⟨⟨false, rfl, ⟨(fun h => by cases h), fun h => ?_⟩⟩, (HB.out.trans (HW.out.mono HB.out.size)).drew⟩
        subst h
        exact absurd (HQ.out.2 (HK.out.symm.trans HK2.out)) (by decide)
    · obtain rfl : k = ys.length := by omega
      go_wp2_with fail
      go_ret
      exact ⟨⟨true, rfl, ⟨fun _ => erow_ext HN.out HS.out, fun _ => rfl⟩⟩, HB.out.trans (HW.out.mono HB.out.size)⟩
theorem rsame_any (M M' : Int) (v u : Value) (ys zs : List (Int × Int)) (w : World) (hy : Es w v ys) (hz : Es w u zs) (hl : ys.length ≤ 3000) :
    Calls Try.prog 18 #[.agg #[.int .i64 M, v], .agg #[.int .i64 M', u]] w fun e w' => (∃ b : Bool, e = .returned (.bool b) ∧ (b = true ↔ M = M' ∧ ys = zs)) ∧ Below w.heap.size w w' := by
  by_cases hM : M = M'
  · subst hM
    by_cases hn : ys.length = zs.length
    · exact (rsame_loop M v u ys zs w hy hz hl hn).mono fun e w' ⟨⟨b, h1, h2⟩, h3⟩ => ⟨⟨b, h1, by rw [h2]; simp⟩, h3⟩
    · exact (rsame_shut M M v u ys zs w hy hz (.inr ⟨by simp, by simpa using fun h => hn (by omega)⟩)).mono fun e w' ⟨h1, h2⟩ => ⟨⟨false, h1, ⟨(fun h => by cases h), fun h => absurd (congrArg List.length h.2) hn⟩⟩, h2⟩
  · exact (rsame_shut M M' v u ys zs w hy hz (.inl (by simpa using hM))).mono fun e w' ⟨h1, h2⟩ => ⟨⟨false, h1, ⟨(fun h => by cases h), fun h => absurd h.1 hM⟩⟩, h2⟩

def OwnB2 (w : World) (b : Nat) (M : Int) (v : Value) : Prop := (w.cell? ⟨b, 0, none⟩ = some (.int .i64 M) ∧ w.cell? ⟨b, 1, none⟩ = some v) ∧ ∀ j, w.frozen? ⟨b, j, none⟩ = false
theorem ownb2_alloc (w : World) (M : Int) (v : Value) (T : TypeId) (g : Nat) (hg : g = w.heap.size) : OwnB2 (w.alloc (.cells #[.int .i64 M, v] T)) g M v := by
  subst hg
  exact ⟨⟨by simp, by simp⟩, fun j => by simp⟩
theorem OwnB2.lt {w : World} {b : Nat} {M : Int} {v : Value} (h : OwnB2 w b M v) : b < w.heap.size := World.block_lt_of_cell? w _ h.1.1
theorem OwnB2.below {w w' : World} {b : Nat} {M : Int} {v : Value} (h : OwnB2 w b M v) (hb : Below w.heap.size w w') : OwnB2 w' b M v :=
  ⟨⟨(hb.cell (p := ⟨b, 0, none⟩) h.lt).trans h.1.1, (hb.cell (p := ⟨b, 1, none⟩) h.lt).trans h.1.2⟩, fun j => (hb.frozen (p := ⟨b, j, none⟩) h.lt).trans (h.2 j)⟩
theorem OwnB2.low {w w' : World} {b S : Nat} {M : Int} {v : Value} (h : OwnB2 w b M v) (hb : b < S) (hB : Below S w w') : OwnB2 w' b M v :=
  ⟨⟨(hB.cell (p := ⟨b, 0, none⟩) hb).trans h.1.1, (hB.cell (p := ⟨b, 1, none⟩) hb).trans h.1.2⟩, fun j => (hB.frozen (p := ⟨b, j, none⟩) hb).trans (h.2 j)⟩
/-- What is laid into a variable leaves rows in other blocks as they are. -/
theorem gown_apart {w : World} {b S size n : Nat} {e : TypeId} {v u : Value} {xs : List Value} (h : w.ownsRow S e size v n xs) (hb : b < S) (j : Nat) : (w.setCell ⟨b, j, none⟩ u).ownsRow S e size v n xs := by
  refine ⟨h.1, ?_⟩
  rcases h.2 with h2 | ⟨g, cap, cur, rfl, h3, hg, rest⟩
  · exact .inl h2
  · exact .inr ⟨g, cap, cur, rfl, h3, (Below.heap_setCell w ⟨b, j, none⟩ u g (by show g ≠ b; omega)).trans hg, rest⟩
end Go.Proofs.Ytcddicaebecneaa

