/- Texts Bec, Bes, Ber, Bew, Epr, Akb, Bmt, Oth, Don, Psd, Akx, Pkt of this proof, in one. No conditions but on lengths. -/
import Derived.Test.YtdigjklhfimnbaaGreatRows
import Derived.Test.YtdigjklhfimnbaaGreatU07
import Derived.Test.YtdigjklhfimnbaaGreatU12
import Derived.ArgAppend
import Derived.Below
import Derived.BigQuiet
import Derived.Calls
import Derived.ChangeArms
import Derived.ChangeKeysEq
import Derived.ChangeMade
import Derived.ChangeOld
import Derived.Deep.Cut
import Derived.Deep.QuietTactic
import Derived.Deep.RegionLaw
import Derived.Deep.Slices
import Derived.Laws.AppendOwnNone
import Derived.Laws.BitsLemmas
import Derived.Laws.BytesArg
import Derived.Laws.LoneSync
import Derived.Laws.OwnMore
import Derived.Laws.StructEq
import Derived.Lib.Hide
import Derived.Lib.QuietBelow
import Derived.LoopIn
import Derived.LoopTactic
import Derived.Maps.AppendAt
import Derived.OpenShut
import Derived.Orders
import Derived.Outline
import Derived.OwnWalkIn
import Derived.ProofKit
import Derived.RangeFuncBox
import Derived.RangeFuncCalls
import Derived.RangeFuncLeaves
import Derived.RangeFuncNested
import Derived.Shelf.RegionOpen
import Derived.ShutString
import Derived.StillTail
import Derived.TacticsInMore
import Derived.WalkKit
import Derived.WalkSpells
import Derived.WideShapes
namespace Go.Proofs.YtdigjklhfimnbaaGreat
set_option maxRecDepth 100000
open Go.RowKit Go.WideShapes Go.ChangeShapes

/-- An echo: whose, of which epoch. -/
def ec (y : Int × Int) : List Value := [.int .i64 y.1, .int .i64 y.2]
theorem infoEC : (Tryz.prog.info? 23).map (fun i => (i.zero, i.size, i.bytes)) = some (some (.agg #[.int .i64 0, .int .i64 0]), 2, 16) := by kernel_rfl
theorem underES : Tryz.prog.underlying 78 = some (.slice 23) := by kernel_rfl
theorem underEC : Tryz.prog.underlying 23 = some (.struct (Tryz.prog.fieldsOf 23)) := by kernel_rfl
theorem cellsEC : Tryz.prog.cellsOf 23 = 2 := by kernel_rfl
theorem ec_ones (y : Int × Int) : ∀ u ∈ ec y, u.oneCell' = true := by
  intro u hu
  simp only [ec, List.mem_cons, List.not_mem_nil, or_false] at hu
  rcases hu with rfl | rfl <;> rfl
/-- Rows of echoes. -/
noncomputable def RE : RowT where
  α := Int × Int
  d := (0, 0)
  cl := ec
  K := 2
  T := 23
  SL := 78
  zero := .agg #[.int .i64 0, .int .i64 0]
  bytes := 16
  hcl := fun _ => rfl
  hK := by decide
  hone := ec_ones
  hSL := underES
  hinfo := infoEC
  hz := rfl
  hb := by decide
  hc := cellsEC
/-- A slice of echoes that reads as ys. -/
def Es (w : World) (v : Value) (ys : List (Int × Int)) : Prop := Gs RE w v ys
def eflat (ys : List (Int × Int)) : List Value := ys.flatMap ec
theorem Es.below {w w' : World} {v : Value} {ys : List (Int × Int)} (h : Es w v ys) (hb : Below w.heap.size w w') : Es w' v ys := Gs.below (R := RE) h hb
theorem Es.alloc {w : World} {v : Value} {ys : List (Int × Int)} (h : Es w v ys) (O : Obj) : Es (w.alloc O) v ys := Gs.alloc (R := RE) h O
theorem Es.form {w : World} {v : Value} {ys : List (Int × Int)} (h : Es w v ys) : ∃ a c, v = .slice a ys.length c := Gs.form (R := RE) h
theorem es_of {w : World} {b o : Nat} {y : Int × Int} (h : GC RE w b o y) : w.cell? ⟨b, o, none⟩ = some (.int .i64 y.1) ∧ w.cell? ⟨b, o + 1, none⟩ = some (.int .i64 y.2) := ⟨h 0 (by decide), h 1 (by decide)⟩
theorem Es.at {w : World} {a : Option Addr} {c : Nat} {ys : List (Int × Int)} (h : Es w (.slice a ys.length c) ys) {i : Nat} (hi : i < ys.length) : ∃ b off, a = some ⟨b, off, none⟩ ∧ b < w.heap.size ∧ w.cell? ⟨b, off + i * 2, none⟩ = some (.int .i64 (ys.getD i (0, 0)).1) ∧ w.cell? ⟨b, off + i * 2 + 1, none⟩ = some (.int .i64 (ys.getD i (0, 0)).2) := by
  obtain ⟨b, off, h1, h2, h3⟩ := Gs.at (R := RE) h hi
  exact ⟨b, off, h1, h2, es_of h3⟩
theorem Es.all {w : World} {b off c : Nat} {ys : List (Int × Int)} (h : Es w (.slice (some ⟨b, off, none⟩) ys.length c) ys) {i : Nat} (hi : i < ys.length) : b < w.heap.size ∧ w.cell? ⟨b, off + i * 2, none⟩ = some (.int .i64 (ys.getD i (0, 0)).1) ∧ w.cell? ⟨b, off + i * 2 + 1, none⟩ = some (.int .i64 (ys.getD i (0, 0)).2) := by
  obtain ⟨h2, h3⟩ := Gs.all (R := RE) h hi
  exact ⟨h2, es_of h3⟩
theorem Es_of_own {w : World} {base n : Nat} {v : Value} {ys : List (Int × Int)} (h : w.ownsRow base 23 2 v n (eflat ys)) : Es w v ys ∧ n = ys.length := Gs_of_own (R := RE) h
theorem erow_ext {ys zs : List (Int × Int)} (hl : ys.length = zs.length) (h : ∀ i, i < ys.length → ys.getD i (0, 0) = zs.getD i (0, 0)) : ys = zs := grow_ext (R := RE) hl h
instance (n : Int) : Decidable (EpOk n) := by unfold EpOk; infer_instance
end Go.Proofs.YtdigjklhfimnbaaGreat
namespace Go.Proofs.YtdigjklhfimnbaaGreat
set_option maxRecDepth 100000
open Go.RowKit

/-- One field of one cell that is compared. -/
theorem ecF_cell {P : Program} {w : World} {d : Nat} {xs ys : Array Value} {f : Field} {fs : List Field} {x y : Value} {T : TypeId} {off : Nat} {e : Bool}
    (h : (f.name == "_", f.type, f.offset) = (false, T, off)) (ha : (isAgg T).run P w = .ok false w) (hx : xs[off]? = some x) (hy : ys[off]? = some y) (he : (Op.equalIn d T x y).run P w = .ok e w) :
    (Op.eqFields d xs ys (f :: fs)).run P w = if e then (Op.eqFields d xs ys fs).run P w else .ok false w := by
  simp only [Prod.mk.injEq, beq_eq_false_iff_ne] at h
  obtain ⟨h1, h2, h3⟩ := h
  have p : ∀ (zs : Array Value) (z : Value), zs[off]? = some z → (part T zs off).run P w = .ok z w := by
    intro zs z hz
    simp only [part, Sem.run_bind, ha, Result.andThen_ok, Bool.false_eq_true, if_false, hz, Sem.run_pure]
  simp only [Op.eqFields, h2, h3]
  rw [if_pos h1]
  simp only [Sem.run_bind, p xs x hx, p ys y hy, he, Result.andThen_ok, Sem.run_ite, Sem.run_pure]
  cases e <;> simp
theorem fieldsEC : ((Tryz.prog.fieldsOf 23).toList.map fun f => (f.name == "_", f.type, f.offset)) = [(false, 3, 0), (false, 3, 1)] := by kernel_rfl
theorem run_eqEC (a b a' b' : Int) (w : World) :
    (Op.equalIn 10000 23 (.agg #[.int .i64 a, .int .i64 b]) (.agg #[.int .i64 a', .int .i64 b'])).run Tryz.prog w = .ok (a == a' && b == b') w := by
  rw [run_equalIn_agg w 9999 23 _ _ underEC (by kernel_rfl)]
  have hf := fieldsEC
  generalize (Tryz.prog.fieldsOf 23).toList = fs at *
  have a3 : (isAgg 3).run Tryz.prog w = .ok false w := by kernel_rfl
  obtain ⟨f0, _, rfl, g0, hf⟩ := List.map_eq_cons_iff.1 hf
  obtain ⟨f1, _, rfl, g1, hf⟩ := List.map_eq_cons_iff.1 hf
  obtain rfl := List.map_eq_nil_iff.1 hf
  rw [ecF_cell g0 a3 rfl rfl (run_equalIn_int w 9998 3 .i64 .i64 a a' (by kernel_rfl)), ecF_cell g1 a3 rfl rfl (run_equalIn_int w 9998 3 .i64 .i64 b b' (by kernel_rfl))]
  simp only [Op.eqFields, Sem.run_pure]
  cases a == a' <;> cases b == b' <;> rfl
theorem guardEC (op : BinOp) (x y : Operand) (xs ys : Array Value) (w : World) : (eqGuard op 23 x y (.agg xs) (.agg ys)).run Tryz.prog w = .ok () w :=
  run_eqGuard_agg w op 23 x y xs ys (by kernel_rfl)
def eqE (a b a' b' : Int) : Bool := a == a' && b == b'
theorem eqE_iff {a b a' b' : Int} : eqE a b a' b' = true ↔ (a, b) = (a', b') := by simp [eqE]
theorem neqEC (a b a' b' : Int) (w : World) : (binOp .neq 23 (.agg #[.int .i64 a, .int .i64 b]) (.agg #[.int .i64 a', .int .i64 b'])).run Tryz.prog w = .ok (.bool (!eqE a b a' b')) w := by
  rw [run_neq_struct, run_eqEC]; rfl
theorem rsame_shut (M M' : Int) (v u : Value) (ys zs : List (Int × Int)) (w : World) (hy : Es w v ys) (hz : Es w u zs) (h : (M != M') = true ∨ (M != M') = false ∧ ((ys.length : Int) != (zs.length : Int)) = true) :
    Calls Tryz.prog 72 #[.agg #[.int .i64 M, v], .agg #[.int .i64 M', u]] w fun e w' => e = .returned (.bool false) ∧ Below w.heap.size w w' := by
  obtain ⟨a, c, rfl⟩ := hy.form
  obtain ⟨a', c', rfl⟩ := hz.form
  clear hy hz
  rcases h with h | ⟨h, h2⟩
  · go_enter Tryz.func72, Tryz.ntmps72
    go_wp2_with fail
    go_ret
    exact ⟨rfl, ((Below.refl _ _).alloc (Nat.le_refl _) _).alloc (by simp) _⟩
  · go_enter Tryz.func72, Tryz.ntmps72
    go_wp2_with fail
    go_ret
    exact ⟨rfl, ((Below.refl _ _).alloc (Nat.le_refl _) _).alloc (by simp) _⟩
set_option maxHeartbeats 8000000 in
theorem rsame_loop (M : Int) (v u : Value) (ys zs : List (Int × Int)) (w : World) (hy : Es w v ys) (hz : Es w u zs) (hl : ys.length ≤ 3000) (hne : ys.length = zs.length) :
    Calls Tryz.prog 72 #[.agg #[.int .i64 M, v], .agg #[.int .i64 M, u]] w fun e w' => (∃ b : Bool, e = .returned (.bool b) ∧ (b = true ↔ ys = zs)) ∧ Below w.heap.size w w' := by
  obtain ⟨a, c, rfl⟩ := hy.form
  obtain ⟨a', c', rfl⟩ := hz.form
  have hM : (M != M) = false := by simp
  have hL : ((ys.length : Int) != (zs.length : Int)) = false := by rw [hne]; simp
  have k0 : ((w.alloc (.cells #[.int .i64 M, .slice a ys.length c] 141)).alloc (.cells #[.int .i64 M, .slice a' zs.length c'] 141)).cell? ⟨w.heap.size, 1, none⟩ = some (.slice a ys.length c) := by simp
  have k1 : ((w.alloc (.cells #[.int .i64 M, .slice a ys.length c] 141)).alloc (.cells #[.int .i64 M, .slice a' zs.length c'] 141)).cell? ⟨w.heap.size + 1, 1, none⟩ = some (.slice a' zs.length c') := by simp
  have HY := Lib.hid ((hy.alloc (.cells #[.int .i64 M, .slice a ys.length c] 141)).alloc (.cells #[.int .i64 M, .slice a' zs.length c'] 141))
  have HZ := Lib.hid ((hz.alloc (.cells #[.int .i64 M, .slice a ys.length c] 141)).alloc (.cells #[.int .i64 M, .slice a' zs.length c'] 141))
  have HB : Hid (Below w.heap.size w ((w.alloc (.cells #[.int .i64 M, .slice a ys.length c] 141)).alloc (.cells #[.int .i64 M, .slice a' zs.length c'] 141))) := ((Below.refl _ w).alloc (Nat.le_refl _) _).alloc (by simp) _
  have HN := Lib.hid hne
  clear hy hz hne
  go_enter Tryz.func72, Tryz.ntmps72
  go_wp2_with fail
  obtain ⟨V, hV⟩ : ∃ V, (w.alloc (.cells #[.int .i64 M, .slice a ys.length c] 141)).alloc (.cells #[.int .i64 M, .slice a' zs.length c'] 141) = V := ⟨_, rfl⟩
  rw [hV] at k0 k1 HY HZ HB
  simp only [hV]
  clear hV
  go_loopw [5] (fun i wr => ∃ k : Nat, k ≤ ys.length ∧ i = .int .i64 k ∧ (∀ i, i < k → ys.getD i (0, 0) = zs.getD i (0, 0)) ∧ Below V.heap.size V wr) (fun i _ => ys.length - (intOf i).toNat)
  case atStart => exact ⟨0, Nat.zero_le _, rfl, fun i h => absurd h (Nat.not_lt_zero _), Below.refl _ _⟩
  case round =>
    obtain ⟨k, hk, rfl, hsame, hbel⟩ := hrel
    have HS := Lib.hid hsame
    have HW := Lib.hid hbel
    have c0 : wr.cell? ⟨w.heap.size, 1, none⟩ = some (.slice a ys.length c) := by rw [hbel.cell (World.block_lt_of_cell? V _ k0)]; exact k0
    have c1 : wr.cell? ⟨w.heap.size + 1, 1, none⟩ = some (.slice a' zs.length c') := by rw [hbel.cell (World.block_lt_of_cell? V _ k1)]; exact k1
    clear hsame hbel
    by_cases hlt : k < ys.length
    · obtain ⟨b, off, rfl, hB, p0, p1⟩ := (HY.out.below HW.out).at hlt
      have hlt2 : k < zs.length := by have := HN.out; omega
      obtain ⟨b2, off2, rfl, hB2, q0, q1⟩ := (HZ.out.below HW.out).at hlt2
      obtain ⟨⟨y1, y2⟩, hyk⟩ : ∃ y, ys.getD k (0, 0) = y := ⟨_, rfl⟩
      obtain ⟨⟨z1, z2⟩, hzk⟩ : ∃ z, zs.getD k (0, 0) = z := ⟨_, rfl⟩
      rw [hyk] at p0 p1
      rw [hzk] at q0 q1
      simp only at p0 p1 q0 q1
      have HK := Lib.hid hyk
      have HK2 := Lib.hid hzk
      clear hyk hzk
      have E1 := guardEC
      have E2 := neqEC
      obtain ⟨q, hq⟩ : ∃ q, eqE y1 y2 z1 z2 = q := ⟨_, rfl⟩
      have HQ : Hid (q = true ↔ (y1, y2) = (z1, z2)) := by rw [← hq]; exact eqE_iff
      go_wp2_with fail
      go_region
      cases q with
      | true =>
        go_wp2_with fail
        go_roundw
        case rel =>
          refine ⟨k + 1, by omega, by go_num, ?_, HW.out.drew⟩
          intro j hj
          by_cases h : j < k
          · exact HS.out j h
          · obtain rfl : j = k := by omega
            rw [HK.out, HK2.out]; exact HQ.out.1 rfl
        case measure => simp [intOf]; omega
      | false =>
        go_wp2_with fail
        go_ret
        refine ⟨⟨false, rfl, ⟨(fun h => by cases h), fun h => ?_⟩⟩, (HB.out.trans (HW.out.mono HB.out.size)).drew⟩
        subst h
        exact absurd (HQ.out.2 (HK.out.symm.trans HK2.out)) (by decide)
    · obtain rfl : k = ys.length := by omega
      go_wp2_with fail
      go_ret
      exact ⟨⟨true, rfl, ⟨fun _ => erow_ext HN.out HS.out, fun _ => rfl⟩⟩, HB.out.trans (HW.out.mono HB.out.size)⟩
theorem rsame_any (M M' : Int) (v u : Value) (ys zs : List (Int × Int)) (w : World) (hy : Es w v ys) (hz : Es w u zs) (hl : ys.length ≤ 3000) :
    Calls Tryz.prog 72 #[.agg #[.int .i64 M, v], .agg #[.int .i64 M', u]] w fun e w' => (∃ b : Bool, e = .returned (.bool b) ∧ (b = true ↔ M = M' ∧ ys = zs)) ∧ Below w.heap.size w w' := by
  by_cases hM : M = M'
  · subst hM
    by_cases hn : ys.length = zs.length
    · exact (rsame_loop M v u ys zs w hy hz hl hn).mono fun e w' ⟨⟨b, h1, h2⟩, h3⟩ => ⟨⟨b, h1, by rw [h2]; simp⟩, h3⟩
    · exact (rsame_shut M M v u ys zs w hy hz (.inr ⟨by simp, by simpa using fun h => hn (by omega)⟩)).mono fun e w' ⟨h1, h2⟩ => ⟨⟨false, h1, ⟨(fun h => by cases h), fun h => absurd (congrArg List.length h.2) hn⟩⟩, h2⟩
  · exact (rsame_shut M M' v u ys zs w hy hz (.inl (by simpa using hM))).mono fun e w' ⟨h1, h2⟩ => ⟨⟨false, h1, ⟨(fun h => by cases h), fun h => absurd h.1 hM⟩⟩, h2⟩
def OwnB2 (w : World) (b : Nat) (M : Int) (v : Value) : Prop := (w.cell? ⟨b, 0, none⟩ = some (.int .i64 M) ∧ w.cell? ⟨b, 1, none⟩ = some v) ∧ ∀ j, w.frozen? ⟨b, j, none⟩ = false
theorem OwnB2.lt {w : World} {b : Nat} {M : Int} {v : Value} (h : OwnB2 w b M v) : b < w.heap.size := World.block_lt_of_cell? w _ h.1.1
theorem OwnB2.below {w w' : World} {b : Nat} {M : Int} {v : Value} (h : OwnB2 w b M v) (hb : Below w.heap.size w w') : OwnB2 w' b M v :=
  ⟨⟨(hb.cell (p := ⟨b, 0, none⟩) h.lt).trans h.1.1, (hb.cell (p := ⟨b, 1, none⟩) h.lt).trans h.1.2⟩, fun j => (hb.frozen (p := ⟨b, j, none⟩) h.lt).trans (h.2 j)⟩
theorem OwnB2.low {w w' : World} {b S : Nat} {M : Int} {v : Value} (h : OwnB2 w b M v) (hb : b < S) (hB : Below S w w') : OwnB2 w' b M v :=
  ⟨⟨(hB.cell (p := ⟨b, 0, none⟩) hb).trans h.1.1, (hB.cell (p := ⟨b, 1, none⟩) hb).trans h.1.2⟩, fun j => (hB.frozen (p := ⟨b, j, none⟩) hb).trans (h.2 j)⟩
theorem OwnB2.apart {w : World} {b b' : Nat} {M : Int} {v u : Value} (h : OwnB2 w b M v) (hb : b ≠ b') (j : Nat) : OwnB2 (w.setCell ⟨b', j, none⟩ u) b M v := by
  have e : ∀ i, (w.setCell ⟨b', j, none⟩ u).cell? ⟨b, i, none⟩ = w.cell? ⟨b, i, none⟩ := fun i => World.cell?_of_block (Below.heap_setCell w ⟨b', j, none⟩ u b hb)
  have f : ∀ i, (w.setCell ⟨b', j, none⟩ u).frozen? ⟨b, i, none⟩ = w.frozen? ⟨b, i, none⟩ := fun i => World.frozen?_of_block (Below.heap_setCell w ⟨b', j, none⟩ u b hb)
  exact ⟨⟨(e 0).trans h.1.1, (e 1).trans h.1.2⟩, fun i => (f i).trans (h.2 i)⟩
/-- What is laid into a variable leaves rows in other blocks as they are. -/
theorem gown_apart {w : World} {b S size n : Nat} {e : TypeId} {v u : Value} {xs : List Value} (h : w.ownsRow S e size v n xs) (hb : b < S) (j : Nat) : (w.setCell ⟨b, j, none⟩ u).ownsRow S e size v n xs := by
  refine ⟨h.1, ?_⟩
  rcases h.2 with h2 | ⟨g, cap, cur, rfl, h3, hg, rest⟩
  · exact .inl h2
  · exact .inr ⟨g, cap, cur, rfl, h3, (Below.heap_setCell w ⟨b, j, none⟩ u g (by show g ≠ b; omega)).trans hg, rest⟩
end Go.Proofs.YtdigjklhfimnbaaGreat
namespace Go.Proofs.YtdigjklhfimnbaaGreat
set_option maxRecDepth 100000
open Go.RowKit

/-- An echo that may stand there. -/
def EcAt (ys : List (Int × Int)) (i : Nat) : Prop := (0 ≤ (ys.getD i (0, 0)).1 ∧ (ys.getD i (0, 0)).1 < 64) ∧ (0 < i → (ys.getD (i - 1) (0, 0)).1 < (ys.getD i (0, 0)).1) ∧ EpOk (ys.getD i (0, 0)).2
instance (ys : List (Int × Int)) (i : Nat) : Decidable (EcAt ys i) := by unfold EcAt; infer_instance
/-- A beacon that is right. -/
def BeOk (M : Int) (ys : List (Int × Int)) : Prop := (∀ i, i < ys.length → EcAt ys i) ∧ EpOk M
instance (M : Int) (ys : List (Int × Int)) : Decidable (BeOk M ys) := by unfold BeOk; infer_instance
end Go.Proofs.YtdigjklhfimnbaaGreat
namespace Go.Proofs.YtdigjklhfimnbaaGreat
set_option maxRecDepth 100000
open Go.RowKit

/-- Echoes in memory of one's own. -/
def OwE (w : World) (S : Nat) (v : Value) (xs : List (Int × Int)) : Prop := w.ownsRow S 23 2 v xs.length (eflat xs)
theorem OwE.form {w : World} {S : Nat} {v : Value} {xs : List (Int × Int)} (h : OwE w S v xs) : ∃ a c, v = .slice a xs.length c := gown_form h
theorem OwE.lt {w : World} {S : Nat} {v : Value} {xs : List (Int × Int)} (h : OwE w S v xs) (b : Nat) (hb : v.ownBlock = some b) : S ≤ b ∧ b < w.heap.size := World.ownsRow.lt h b hb
theorem OwE.set {w : World} {S b : Nat} {v u : Value} {xs : List (Int × Int)} (h : OwE w S v xs) (hb : b < S) (j : Nat) : OwE (w.setCell ⟨b, j, none⟩ u) S v xs := gown_apart h hb j
theorem OwE.mono {w : World} {S B : Nat} {v : Value} {xs : List (Int × Int)} (h : OwE w S v xs) (hB : B ≤ S) : OwE w B v xs := gown_mono h hB
theorem OwnB2.set {w : World} {b : Nat} {M : Int} {v : Value} (h : OwnB2 w b M v) (M' : Int) (v' : Value) : OwnB2 ((w.setCell ⟨b, 0, none⟩ (.int .i64 M')).setCell ⟨b, 1, none⟩ v') b M' v' := by
  obtain ⟨⟨h0, h1⟩, hf⟩ := h
  refine ⟨⟨?_, ?_⟩, fun j => ?_⟩ <;> simp [go_sem, hf, h0, h1]
end Go.Proofs.YtdigjklhfimnbaaGreat
namespace Go.Proofs.YtdigjklhfimnbaaGreat
set_option maxRecDepth 100000
open Go.RowKit Go.WideShapes Go.ChangeShapes

section
variable {P : Program} {f : FuncId} {fn : Func}
theorem run_call_loadP (hf : P.funcs[f]? = some fn) (hname : (fn.name == "runtime.NumGoroutine") = false) (hb : fn.body.isNone = true) (hn : Extern.findNext fn = none)
    (he : Extern.find fn = some (Extern.Atomic.loadT .ptr)) {a : Addr} {x : Option Addr} {w : World} (hc : w.cell? a = some (.pointer x)) :
    (callFunc f #[.pointer (some a)]).run P w = .ok (.value (.pointer x)) w := by
  rw [run_callFunc_extern hf hname hb hn he]
  change (Sem.run P (do Extern.Atomic.read .ptr (← asAddr (.pointer (some a)))) w).andThen _ = _
  simp [Extern.Atomic.read, asAddr, hc, Result.andThen]
theorem run_call_storeP (hf : P.funcs[f]? = some fn) (hname : (fn.name == "runtime.NumGoroutine") = false) (hb : fn.body.isNone = true) (hn : Extern.findNext fn = none)
    (he : Extern.find fn = some Extern.Atomic.storeT) {a : Addr} {x : Option Addr} {u : Value} {w : World} (hc : w.cell? a = some u) (hz : w.frozen? a = false) :
    (callFunc f #[.pointer (some a), .pointer x]).run P w = .ok (.value (.tuple #[])) (w.setCell a (.pointer x)) := by
  rw [run_callFunc_extern hf hname hb hn he]
  change (Sem.run P (do
    store (← asAddr (.pointer (some a))) (.pointer x) .atomic
    pure Extern.Atomic.none_) w).andThen _ = _
  simp [asAddr, hc, hz, run_store P w a (.pointer x) .atomic rfl, Result.andThen, Extern.Atomic.none_]
theorem run_call_swapP (hf : P.funcs[f]? = some fn) (hname : (fn.name == "runtime.NumGoroutine") = false) (hb : fn.body.isNone = true) (hn : Extern.findNext fn = none)
    (he : Extern.find fn = some (Extern.Atomic.swapT .ptr)) {a : Addr} {x y : Option Addr} {w : World} (hc : w.cell? a = some (.pointer y)) (hz : w.frozen? a = false) :
    (callFunc f #[.pointer (some a), .pointer x]).run P w = .ok (.value (.pointer y)) (w.setCell a (.pointer x)) := by
  rw [run_callFunc_extern hf hname hb hn he]
  change (Sem.run P (do
    let a' ← asAddr (.pointer (some a))
    let old ← Extern.Atomic.read .ptr a'
    store a' (.pointer x) .atomic
    pure old) w).andThen _ = _
  simp [Extern.Atomic.read, asAddr, hc, hz, run_store P w a (.pointer x) .atomic rfl, Result.andThen]
end

/-- An echo lies there. -/
def Pts (w : World) (a : Addr) : Prop := (∃ v, w.cell? a = some v) ∧ ∃ e n, w.shape? a.block = some (e, n) ∧ liesAt Tryz.prog Tryz.prog.depth e (n / Tryz.prog.cellsOf e) a.off 23 1 = true
theorem Pts.low {w w' : World} {a : Addr} (h : Pts w a) (hb : w'.heap[a.block]? = w.heap[a.block]?) : Pts w' a := by
  obtain ⟨⟨v, h1⟩, e, n, h2, h3⟩ := h
  refine ⟨⟨v, by rw [World.cell?_of_block hb]; exact h1⟩, e, n, ?_, h3⟩
  unfold World.shape? at h2 ⊢
  rw [hb]; exact h2
theorem Pts.below {w w' : World} {a : Addr} {B : Nat} (h : Pts w a) (hb : Below B w w') (hB : a.block < B) : Pts w' a := h.low (hb.block a.block hB)
theorem Pts.set {w : World} {a : Addr} (h : Pts w a) {b j : Nat} (hb : a.block ≠ b) (v : Value) : Pts (w.setCell ⟨b, j, none⟩ v) a := h.low (Below.heap_setCell w ⟨b, j, none⟩ v a.block hb)
theorem underEP : Tryz.prog.underlying 288 = some (.pointer 23) := by kernel_rfl
theorem underUP : Tryz.prog.underlying 290 = some .unsafePointer := by kernel_rfl
theorem infoE2 : ∃ i, Tryz.prog.info? 23 = some i ∧ i.size = 2 := by
  have h : (Tryz.prog.info? 23).map (fun i => i.size) = some 2 := by kernel_rfl
  obtain ⟨i, h1, h2⟩ := Option.map_eq_some_iff.1 h
  exact ⟨i, h1, h2⟩
theorem conv_to {a : Addr} {w : World} (h : Pts w a) : (convert 288 290 (.pointer (some a))).run Tryz.prog w = .ok (.pointer (some a)) w := by
  obtain ⟨⟨v, h1⟩, _⟩ := h
  exact run_convert_to_unsafe underEP underUP (by kernel_rfl) h1
theorem conv_of {a : Addr} {w : World} (h : Pts w a) : (convert 290 288 (.pointer (some a))).run Tryz.prog w = .ok (.pointer (some a)) w := by
  obtain ⟨⟨v, h1⟩, e, n, h2, h3⟩ := h
  obtain ⟨i, hi, hz⟩ := infoE2
  simp [convert, Conv.unsafePointer, Conv.seenAt, viewAt, sizeOf, typeInfo, run_underlying underEP, run_underlying underUP, hi, hz, h2, h3, variablesAt, Result.andThen]
theorem load39 (b : Nat) (a : Addr) (w : World) (hc : w.cell? ⟨b, 0, none⟩ = some (.pointer (some a))) (hx : Pts w a) :
    Calls Tryz.prog 202 #[.pointer (some ⟨b, 0, none⟩)] w fun e w' => e = .returned (.pointer (some a)) ∧ w = w' := by
  have hl := run_call_loadP (P := Tryz.prog) (f := 238) Tryz.func238 (by kernel_rfl) (by kernel_rfl) (by kernel_rfl) (by kernel_rfl) hc
  have hv := conv_of hx
  go_enter Tryz.func202, Tryz.ntmps202
  go_wp2
  go_ret
  exact ⟨rfl, rfl⟩
theorem store37 (b : Nat) (x : Option Addr) (a : Addr) (w : World) (hc : w.cell? ⟨b, 0, none⟩ = some (.pointer x)) (hf : w.frozen? ⟨b, 0, none⟩ = false) (hx : Pts w a) :
    Calls Tryz.prog 200 #[.pointer (some ⟨b, 0, none⟩), .pointer (some a)] w fun e w' => e = .returned (.tuple #[]) ∧ w' = w.setCell ⟨b, 0, none⟩ (.pointer (some a)) := by
  have hl := run_call_storeP (P := Tryz.prog) (f := 236) (x := some a) Tryz.func236 (by kernel_rfl) (by kernel_rfl) (by kernel_rfl) (by kernel_rfl) hc hf
  have hv := conv_to hx
  go_enter Tryz.func200, Tryz.ntmps200
  go_wp2
  go_end0
  exact ⟨rfl, rfl⟩
theorem swap38 (b : Nat) (y : Addr) (a : Addr) (w : World) (hc : w.cell? ⟨b, 0, none⟩ = some (.pointer (some y))) (hf : w.frozen? ⟨b, 0, none⟩ = false) (hx : Pts w a) (hy : Pts w y) (hb : y.block ≠ b) :
    Calls Tryz.prog 201 #[.pointer (some ⟨b, 0, none⟩), .pointer (some a)] w fun e w' => e = .returned (.pointer (some y)) ∧ w' = w.setCell ⟨b, 0, none⟩ (.pointer (some a)) := by
  have hl := run_call_swapP (P := Tryz.prog) (f := 237) (x := some a) Tryz.func237 (by kernel_rfl) (by kernel_rfl) (by kernel_rfl) (by kernel_rfl) hc hf
  have hv := conv_to hx
  have hu := conv_of (hy.set (b := b) (j := 0) hb (.pointer (some a)))
  go_enter Tryz.func201, Tryz.ntmps201
  go_wp2
  go_ret
  exact ⟨rfl, rfl⟩
/-- Each echo of the slice lies where it may be pointed to. -/
def Sits (w : World) (v : Value) (n : Nat) : Prop := ∀ b off len cap, v = .slice (some ⟨b, off, none⟩) len cap → ∀ i, i < n → Pts w ⟨b, off + i * 2, none⟩
/-- A slice of echoes that reads as ys, each where it may be pointed to. -/
def El (w : World) (v : Value) (ys : List (Int × Int)) : Prop := Es w v ys ∧ Sits w v ys.length
theorem El.below {w w' : World} {v : Value} {ys : List (Int × Int)} (h : El w v ys) (hb : Below w.heap.size w w') : El w' v ys :=
  ⟨h.1.below hb, fun b off len cap e i hi => by
    have h2 := h.2 b off len cap e i hi
    obtain ⟨⟨u, hu⟩, _⟩ := h2
    exact Pts.below (h.2 b off len cap e i hi) hb (World.block_lt_of_cell? w _ hu)⟩
theorem El.alloc {w : World} {v : Value} {ys : List (Int × Int)} (h : El w v ys) (O : Obj) : El (w.alloc O) v ys := h.below ((Below.refl _ w).alloc (Nat.le_refl _) O)
theorem rowAt_own {d n i : Nat} (h : i < n) : rowAt Tryz.prog (sameLayout Tryz.prog Tryz.prog.depth · 23) (d + 1) 23 n (i * 2) 1 = true := by
  unfold rowAt
  simp only [cellsEC]
  rw [if_neg (by decide), Bool.or_eq_true_iff]
  left
  simp only [Bool.and_eq_true, beq_iff_eq, decide_eq_true_eq]
  refine ⟨⟨by omega, by omega⟩, ?_⟩
  kernel_rfl
theorem lies_own {n i : Nat} (h : i < n) : liesAt Tryz.prog Tryz.prog.depth 23 n (i * 2) 23 1 = true := by
  have hd : Tryz.prog.depth = Tryz.prog.depth - 1 + 1 := by kernel_rfl
  rw [hd]
  unfold liesAt
  rw [underEC]
  simp only [Bool.or_false]
  rw [hd]
  exact rowAt_own h
theorem OwE.el {w : World} {S : Nat} {v : Value} {xs : List (Int × Int)} (h : OwE w S v xs) : El w v xs := by
  refine ⟨(Es_of_own h).1, fun b off len cap e i hi => ?_⟩
  obtain ⟨h1, h2⟩ := h
  rcases h2 with ⟨rfl, h0⟩ | ⟨g, cap', cur, rfl, _, hg, hnc, hcm, hcs, htake⟩
  · cases e
  · simp only [Value.slice.injEq, Option.some.injEq, Addr.mk.injEq, and_true] at e
    obtain ⟨⟨rfl, rfl⟩, rfl, rfl⟩ := e
    have hE := (Es_of_own (w := w) (base := S) (n := xs.length) (v := .slice (some ⟨g, 0, none⟩) xs.length cap') ⟨h1, .inr ⟨g, cap', cur, rfl, by assumption, hg, hnc, hcm, hcs, htake⟩⟩).1
    refine ⟨⟨_, (hE.all hi).2.1⟩, 23, cur.size, ?_, ?_⟩
    · unfold World.shape?; rw [hg]
    · rw [cellsEC, Nat.zero_add]
      exact lies_own (by rw [hcs, Nat.mul_div_cancel _ (by decide)]; omega)
/-- A new echo. -/
theorem pts_new (w : World) (y1 y2 : Int) (g : Nat) (hg : g = w.heap.size) : Pts (w.alloc (.cells #[.int .i64 y1, .int .i64 y2] 23)) ⟨g, 0, none⟩ := by
  subst hg
  refine ⟨⟨.int .i64 y1, by simp⟩, 23, 2, ?_, ?_⟩
  · unfold World.shape?
    rw [World.alloc_heap_new w (.cells #[.int .i64 y1, .int .i64 y2] 23)]
    rfl
  · rw [cellsEC]
    exact lies_own (n := 1) (i := 0) (by decide)
end Go.Proofs.YtdigjklhfimnbaaGreat
namespace Go.Proofs.YtdigjklhfimnbaaGreat
set_option maxRecDepth 100000
open Go.RowKit

/-- An ack's bytes; a row's. -/
def akB (y : Int × Int × Int × Int) : List Int := y.1 :: (lo y.2.1 4 ++ (lo y.2.2.1 2 ++ lo y.2.2.2 2))
def acB (ys : List (Int × Int × Int × Int)) : List Int := [(ys.length : Int)] ++ (ys.map akB).flatten
end Go.Proofs.YtdigjklhfimnbaaGreat
namespace Go.Proofs.YtdigjklhfimnbaaGreat
set_option maxRecDepth 100000

theorem BeOk.mono {M : Int} {ys : List (Int × Int)} (h : BeOk M ys) {i j : Nat} (hij : i < j) (hj : j < ys.length) : (ys.getD i (0, 0)).1 < (ys.getD j (0, 0)).1 := by
  induction j with
  | zero => omega
  | succ j ih =>
    have h2 := (h.1 (j + 1) hj).2.1 (by omega)
    rw [Nat.add_sub_cancel] at h2
    by_cases e : i = j
    · subst e; exact h2
    · exact Int.lt_trans (ih (by omega) (by omega)) h2
end Go.Proofs.YtdigjklhfimnbaaGreat
namespace Go.Proofs.YtdigjklhfimnbaaGreat
set_option maxRecDepth 100000
open Go.RowKit
attribute [local go_sem] Oper.semAt_some

section
variable (R : RowT)
/-- One element more: the row is the elder one's block, or a new one. -/
theorem run_gapp2 (w : World) (ty : TypeId) (S : Nat) (v : Value) (xs : List R.α) (hown : w.ownsRow S R.T R.K v xs.length (gflat R xs)) (b : Nat) (y : R.α) (hy : GC R w b 0 y) (hl : xs.length ≤ 3000) (hS : S ≤ w.heap.size) :
    ∃ g cap w', (Builtin.append_ #[R.SL, R.SL] ty #[v, .slice (some ⟨b, 0, none⟩) 1 1]).run Tryz.prog w = .ok (.slice (some ⟨g, 0, none⟩) (xs.length + 1) cap) w' ∧ w'.ownsRow S R.T R.K (.slice (some ⟨g, 0, none⟩) (xs.length + 1) cap) (xs ++ [y]).length (gflat R (xs ++ [y])) ∧ w.grownBy w' v.ownBlock ∧ (v.ownBlock = some g ∨ w.heap.size ≤ g) := by
  obtain ⟨i0, hi, hz0, hz1, hz2⟩ := info_parts R.hinfo
  have hzs := R.hz
  have hbb := R.hb
  have hpos := R.hK
  have e : gflat R (xs ++ [y]) = gflat R xs ++ R.cl y := by rw [gflat_app, gflat_one]
  have e2 : (xs ++ [y]).length = xs.length + 1 := by simp
  have hnews : ∀ j u, (R.cl y)[j]? = some u → w.cell? ((⟨b, 0, none⟩ : Addr).add j) = some u := fun j u hj => by
    have := (List.getElem?_eq_some_iff.1 hj).1
    rw [R.hcl] at this
    rw [add_spot', hy j this]; exact hj
  have hone : ∀ u ∈ R.cl y, u.oneCell' = true := R.hone y
  have hfl := gflat_len R xs
  have hcl1 : (R.cl y).length = 1 * R.K := by rw [R.hcl, Nat.one_mul]
  have hby : (xs.length + 1) * R.bytes ≤ 140737488355328 := Nat.le_trans (Nat.mul_le_mul (show xs.length + 1 ≤ 3001 by omega) hbb) (by decide)
  have new : ∀ {w' : World} {v' : Value} {n : Nat} {zs : List Value}, w'.ownsRow w.heap.size R.T R.K v' (n + 1) zs → ∃ g cap, v' = .slice (some ⟨g, 0, none⟩) (n + 1) cap ∧ w.heap.size ≤ g := fun h => by
    rcases h.2 with ⟨_, h0⟩ | ⟨g, cap, _, rfl, hg, _⟩
    · omega
    · exact ⟨g, cap, rfl, hg⟩
  rw [e, e2]
  rcases hown.2 with ⟨rfl, h0⟩ | ⟨g, cap, cur, rfl, hg1, hg2, _⟩
  · obtain ⟨v', w', hr, h2, h3, _, _⟩ := run_append_own_at (P := Tryz.prog) w w.heap.size R.SL ty R.T i0 R.zero R.K R.bytes R.hSL hi hz0 hz1 hz2 hzs hpos (.slice none 0 0) xs.length (gflat R xs) ⟨hown.1, .inl ⟨rfl, h0⟩⟩ ⟨b, 0, none⟩ 1 1 (R.cl y) hcl1 hnews hone (by unfold maxLen; omega) hby (Nat.le_refl _)
    obtain ⟨g, cap, rfl, hg⟩ := new h2
    exact ⟨g, cap, w', hr, gown_mono h2 hS, h3, .inr hg⟩
  · by_cases hroom : xs.length + 1 ≤ cap
    · obtain ⟨w', hr, h2, h3⟩ := run_append_fits (P := Tryz.prog) w S R.SL ty R.T i0 R.K R.hSL hi hz1 g xs.length cap (gflat R xs) hown ⟨b, 0, none⟩ 1 1 (R.cl y) hcl1 hnews hone hroom
      exact ⟨g, cap, w', hr, h2, h3, .inl rfl⟩
    · obtain ⟨v', w', hr, h2, h3⟩ := run_append_arg_grows (P := Tryz.prog) w R.SL ty R.T i0 R.zero R.K R.bytes R.hSL hi hz0 hz1 hz2 hzs hpos ⟨g, 0, none⟩ xs.length cap (gflat R xs) hfl (hown.cells rfl) ⟨b, 0, none⟩ 1 1 (R.cl y) hcl1 hnews (by omega) (by unfold maxLen; omega) hby
      obtain ⟨g', cap', rfl, hg⟩ := new h2
      exact ⟨g', cap', w', hr, gown_mono h2 hS, ⟨h3.os, h3.tape, h3.output, h3.size, fun k hk _ => h3.block k hk (by simp)⟩, .inr hg⟩
end

/-- The two rows in their boxes. -/
def Two (s : Nat) (W : World) (v u : Value) (xs ys : List (Int × Int)) : Prop := Boxed W (s + 1) 78 v ∧ Boxed W (s + 2) 78 u ∧ OwE W (s + 8) v xs ∧ OwE W (s + 8) u ys ∧ ∀ b, v.ownBlock = some b → u.ownBlock ≠ some b
end Go.Proofs.YtdigjklhfimnbaaGreat
namespace Go.Proofs.YtdigjklhfimnbaaGreat
set_option maxRecDepth 100000
open Go.RowKit Go.Sort

theorem Onl.then {b B : Nat} {w w1 w2 : World} (h : Onl b w w1) (h' : Below B w1 w2) (hB : w.heap.size ≤ B) : Onl b w w2 :=
  ⟨h'.os.trans h.os, h'.tape.trans h.tape, h'.output.trans h.output, Nat.le_trans h.size h'.size, fun k hk hkb => (h'.block k (Nat.lt_of_lt_of_le hk hB)).trans (h.block k hk hkb)⟩
end Go.Proofs.YtdigjklhfimnbaaGreat
namespace Go.Proofs.YtdigjklhfimnbaaGreat
set_option maxRecDepth 100000
open Go.RowKit Go.Sort

theorem Own6.set {w : World} {g : Nat} {m : Bool} {x1 x2 x3 x4 x5 : Int} (h : Own6 w g m x1 x2 x3 x4 x5) (n : Bool) (t o r d i : Int) : Own6 ((((((w.setCell ⟨g, 0, none⟩ (.bool n)).setCell ⟨g, 1, none⟩ (.int .i64 t)).setCell ⟨g, 2, none⟩ (.int .i64 o)).setCell ⟨g, 3, none⟩ (.int .i64 r)).setCell ⟨g, 4, none⟩ (.int .i64 d)).setCell ⟨g, 5, none⟩ (.int .i64 i)) g n t o r d i :=
  ⟨set6 h.1 n t o r d i, fun k => by simp [go_sem, h.2]⟩
end Go.Proofs.YtdigjklhfimnbaaGreat
namespace Go.Proofs.YtdigjklhfimnbaaGreat
set_option maxRecDepth 100000
open Go.RowKit

theorem pow2_eq (n : Nat) : pow2 n = ((2 ^ n : Nat) : Int) := by
  induction n with
  | zero => rfl
  | succ n ih => rw [pow2, ih, Nat.pow_succ]; push_cast; omega
theorem pow2_eq' (n : Nat) : pow2 n = (2 : Int) ^ n := by rw [pow2_eq]; push_cast; rfl
theorem wr62 (n : Int) (h₀ : 0 ≤ n) (h₁ : n < 2 ^ 62) : IntKind.i64.wrap n = n := by rw [IntKind.wrap_i64]; omega
theorem and_pow (a j : Nat) : a &&& 2 ^ j = if a.testBit j then 2 ^ j else 0 := by
  apply Nat.eq_of_testBit_eq
  intro i
  rw [Nat.testBit_and, Nat.testBit_two_pow]
  by_cases h : j = i
  · subst h
    cases ha : a.testBit j <;> simp
  · split <;> simp [h]
theorem and_bit {m : Int} {j : Nat} (h0 : 0 ≤ m) (h1 : m ≤ 65535) (hj : j ≤ 16) : bits .and .i64 m (pow2 j) = if m / pow2 j % 2 = 1 then pow2 j else 0 := by
  obtain ⟨a, rfl⟩ := Int.eq_ofNat_of_zero_le h0
  have hp := pow2_small hj
  rw [pow2_eq] at hp ⊢
  have hb : 2 ^ j < 2 ^ 62 := by have : (2 : Nat) ^ 62 = 4611686018427387904 := by decide
                                 omega
  have ha : a < 2 ^ 62 := by have : (2 : Nat) ^ 62 = 4611686018427387904 := by decide
                             omega
  rw [(bits_nat .i64 62 (by decide) wr62 a (2 ^ j) ha hb).1, and_pow, Nat.testBit_eq_decide_div_mod_eq]
  by_cases h : a / 2 ^ j % 2 = 1
  · have h' : ((a : Int) / ((2 ^ j : Nat) : Int)) % 2 = 1 := by exact_mod_cast h
    rw [if_pos h']
    simp [h]
  · have h' : ¬ ((a : Int) / ((2 ^ j : Nat) : Int)) % 2 = 1 := fun e => h (by exact_mod_cast e)
    rw [if_neg h']
    simp [h]
end Go.Proofs.YtdigjklhfimnbaaGreat
namespace Go.Proofs.YtdigjklhfimnbaaGreat
set_option maxRecDepth 100000
open Go.RowKit Go.WideShapes Go.ChangeShapes

def OwnP (w : World) (b : Nat) (s d t n : Int) (x : ByteArray) : Prop := (w.cell? ⟨b, 0, none⟩ = some (.int .i64 s) ∧ w.cell? ⟨b, 1, none⟩ = some (.int .i64 d) ∧ w.cell? ⟨b, 2, none⟩ = some (.int .i64 t) ∧ w.cell? ⟨b, 3, none⟩ = some (.int .i64 n) ∧ w.cell? ⟨b, 4, none⟩ = some (.string x)) ∧ ∀ j, w.frozen? ⟨b, j, none⟩ = false
theorem OwnP.lt {w : World} {b : Nat} {s d t n : Int} {x : ByteArray} (h : OwnP w b s d t n x) : b < w.heap.size := World.block_lt_of_cell? w _ h.1.1
theorem OwnP.low {w w' : World} {b S : Nat} {s d t n : Int} {x : ByteArray} (h : OwnP w b s d t n x) (hb : b < S) (hB : Below S w w') : OwnP w' b s d t n x :=
  ⟨⟨(hB.cell (p := ⟨b, 0, none⟩) hb).trans h.1.1, (hB.cell (p := ⟨b, 1, none⟩) hb).trans h.1.2.1, (hB.cell (p := ⟨b, 2, none⟩) hb).trans h.1.2.2.1, (hB.cell (p := ⟨b, 3, none⟩) hb).trans h.1.2.2.2.1, (hB.cell (p := ⟨b, 4, none⟩) hb).trans h.1.2.2.2.2⟩, fun j => (hB.frozen (p := ⟨b, j, none⟩) hb).trans (h.2 j)⟩
theorem OwnP.below {w w' : World} {b : Nat} {s d t n : Int} {x : ByteArray} (h : OwnP w b s d t n x) (hb : Below w.heap.size w w') : OwnP w' b s d t n x := h.low h.lt hb
theorem OwnP.apart {w : World} {b b' : Nat} {s d t n : Int} {x : ByteArray} {u : Value} (h : OwnP w b s d t n x) (hb : b ≠ b') (j : Nat) : OwnP (w.setCell ⟨b', j, none⟩ u) b s d t n x := by
  have e : ∀ i, (w.setCell ⟨b', j, none⟩ u).cell? ⟨b, i, none⟩ = w.cell? ⟨b, i, none⟩ := fun i => World.cell?_of_block (Below.heap_setCell w ⟨b', j, none⟩ u b hb)
  have f : ∀ i, (w.setCell ⟨b', j, none⟩ u).frozen? ⟨b, i, none⟩ = w.frozen? ⟨b, i, none⟩ := fun i => World.frozen?_of_block (Below.heap_setCell w ⟨b', j, none⟩ u b hb)
  exact ⟨⟨(e 0).trans h.1.1, (e 1).trans h.1.2.1, (e 2).trans h.1.2.2.1, (e 3).trans h.1.2.2.2.1, (e 4).trans h.1.2.2.2.2⟩, fun i => (f i).trans (h.2 i)⟩
/-- A packet laid into a variable. -/
def put5 (w : World) (b : Nat) (s d t n : Int) (x : ByteArray) : World := ((((w.setCell ⟨b, 0, none⟩ (.int .i64 s)).setCell ⟨b, 1, none⟩ (.int .i64 d)).setCell ⟨b, 2, none⟩ (.int .i64 t)).setCell ⟨b, 3, none⟩ (.int .i64 n)).setCell ⟨b, 4, none⟩ (.string x)
theorem OwnP.set {w : World} {b : Nat} {s d t n : Int} {x : ByteArray} (h : OwnP w b s d t n x) (s' d' t' n' : Int) (x' : ByteArray) : OwnP (put5 w b s' d' t' n' x') b s' d' t' n' x' := by
  obtain ⟨⟨h0, h1, h2, h3, h4⟩, hf⟩ := h
  unfold put5
  refine ⟨⟨?_, ?_, ?_, ?_, ?_⟩, fun j => ?_⟩ <;> simp [go_sem, hf, h0, h1, h2, h3, h4]
def PkOk (s d t n : Int) (x : ByteArray) : Prop := (0 ≤ s ∧ s < 64) ∧ (0 ≤ d ∧ d < 64) ∧ (0 ≤ t ∧ t ≤ 255) ∧ (0 ≤ n ∧ n ≤ 65535) ∧ x.size ≤ 256
instance (s d t n : Int) (x : ByteArray) : Decidable (PkOk s d t n x) := by unfold PkOk; infer_instance
end Go.Proofs.YtdigjklhfimnbaaGreat
