/- Texts Cae, Caf of this proof, in one. No conditions but on lengths. -/
import Derived.Test.YtdigjklhfimnbaaGreatRows
import Derived.Test.YtdigjklhfimnbaaGreatU48
import Derived.Test.YtdigjklhfimnbaaGreatU50
import Derived.ArgAppend
import Derived.Below
import Derived.BigQuiet
import Derived.BigRegion
import Derived.Calls
import Derived.ChangeAlike
import Derived.ChangeArms
import Derived.ChangeKeysEq
import Derived.ChangeMade
import Derived.ChangeOld
import Derived.Deep.Cut
import Derived.Deep.CutBlock
import Derived.Deep.LoopGhost
import Derived.Deep.QuietTactic
import Derived.Deep.RegionHeld
import Derived.Deep.RegionLaw
import Derived.Deep.RegionWith
import Derived.Deep.Slices
import Derived.Deep.WholeRow
import Derived.Defers
import Derived.Ground.GgzProg
import Derived.Ground.Names2Prog
import Derived.Laws.AppendOwnNone
import Derived.Laws.BitsLemmas
import Derived.Laws.BytesArg
import Derived.Laws.LoneSync
import Derived.Laws.OwnMore
import Derived.Laws.Pointers
import Derived.Laws.Rows
import Derived.Laws.StructEq
import Derived.Laws.Tables
import Derived.Lib.AppendStr
import Derived.Lib.ConvBytes
import Derived.Lib.Hide
import Derived.Lib.OwnBridge
import Derived.Lib.QuietBelow
import Derived.Lib.SliceRun
import Derived.Lib.SlicesCompact
import Derived.LoopIn
import Derived.LoopTactic
import Derived.Maps.AppendAt
import Derived.Maps.Own
import Derived.Maps.OwnOps
import Derived.Maps.OwnSet
import Derived.Maps.RangeWalk
import Derived.Maps.Views
import Derived.OpenShut
import Derived.Orders
import Derived.OrdersIn
import Derived.Outline
import Derived.OwnWalkIn
import Derived.ProofKit
import Derived.RangeFuncBox
import Derived.RangeFuncCalls
import Derived.RangeFuncLeaves
import Derived.RangeFuncNested
import Derived.RegionCalls
import Derived.RegionTactic
import Derived.Shelf.RegionOpen
import Derived.Shelf.RegionOpenPlain
import Derived.Shelf.SlIterI.Nil
import Derived.Shelf.Slices.CompactI
import Derived.Shelf.Slices.In.SortNone
import Derived.Shelf.Sort.Plain
import Derived.ShutString
import Derived.Sort.Grow
import Derived.StillTail
import Derived.TacticsInMore
import Derived.WalkKit
import Derived.WalkLawsBesides
import Derived.WalkSpells
import Derived.WideShapes
namespace Go.Proofs.YtdigjklhfimnbaaGreat
set_option maxRecDepth 100000
set_option linter.unusedVariables false
open Go.RowKit
theorem ksU_succ (S : Nat → Option Pr) (k : Nat) : ksU S (k + 1) = ksU S k ++ (if (S k).isSome = true then [k] else []) := by
  unfold ksU
  rw [List.range_succ, List.filter_append]
  congr 1
  by_cases h : (S k).isSome = true
  · rw [if_pos h]; simp [h]
  · rw [if_neg h]; simp [h]
theorem ksU_none {S : Nat → Option Pr} {k : Nat} (h : S k = none) : ksU S (k + 1) = ksU S k := by
  rw [ksU_succ, if_neg (by rw [h]; simp), List.append_nil]
theorem ksU_some {S : Nat → Option Pr} {k : Nat} {p : Pr} (h : S k = some p) : ksU S (k + 1) = ksU S k ++ [k] := by
  rw [ksU_succ, if_pos (by rw [h]; rfl)]
section
variable {R : RowT}
/-- At the list of a plain region's operations: one element more, out of a block that was made for it. -/
theorem gapp1_any {ops : Array Oper} {rest : List Oper} {o : Oper} {a : Act} {Q : Exit → Act → World → Prop} {W : World} (hgd : o.guard = none) (s x : Operand)
    (ho : o.op = .call { callee := .builtin .append, args := #[s, x], argTypes := #[R.SL, R.SL] }) (w : World) (y : R.α) (T : TypeId) (hW : W = w.alloc (.cells (R.cl y).toArray T)) (S : Nat) (v : Value) (xs : List R.α)
    (hs : a.eval s = v) (hx : a.eval x = .slice (some ⟨w.heap.size, 0, none⟩) 1 1) (hown : w.ownsRow S R.T R.K v xs.length (gflat R xs)) (hl : xs.length ≤ 3000) (hS : S ≤ w.heap.size)
    (h : ∀ g cap w', w'.ownsRow S R.T R.K (.slice (some ⟨g, 0, none⟩) (xs.length + 1) cap) (xs ++ [y]).length (gflat R (xs ++ [y])) → Below S w w' → wpList Tryz.prog ops Q rest (a.put o.dst (.slice (some ⟨g, 0, none⟩) (xs.length + 1) cap)) w') : wpList Tryz.prog ops Q (o :: rest) a W := by
  subst hW
  have hb : Below S w (w.alloc (.cells (R.cl y).toArray T)) := (Below.refl S w).alloc hS _
  obtain ⟨g, cap, w', hr, h2, h3, _⟩ := run_gapp (w.alloc (.cells (R.cl y).toArray T)) o.type S v xs (hown.alloc _) w.heap.size y (gc_alloc R w y _ rfl T) hl (by simp; omega)
  refine wpList_plain hgd fun K hK => ?_
  unfold Oper.wp
  rw [gexec_append ho hs hx hr]
  exact hK _ _ (h g cap w' h2 (hb.grown h3 (by simp; omega) (fun k hk => (hown.lt k hk).1)))
end

theorem infoI17 : (Tryz.prog.info? 3).map (fun i => (i.zero, i.size, i.bytes)) = some (some (.int .i64 0), 1, 8) := by kernel_rfl
theorem underI17 : Tryz.prog.underlying 69 = some (.slice 3) := by kernel_rfl
def uO (S : Nat → Option Pr) (i : Nat) : Int := match S i with
  | some p => 1 + p.pe.2
  | none => 0
theorem uO_some {S : Nat → Option Pr} {i : Nat} {p : Pr} (h : S i = some p) : uO S i = 1 + p.pe.2 := by unfold uO; rw [h]
theorem uO_none {S : Nat → Option Pr} {i : Nat} (h : S i = none) : uO S i = 0 := by unfold uO; rw [h]
def Fresh (me : Nd) (S : Nat → Option Pr) : Prop := ∀ i p, S i = some p → p = newP me p.pe 3 5 ∧ p.pe.1 = (i : Int) ∧ EpOk p.pe.2
def UpR (W : World) (ub : Nat) (u : Nat → Int) : Prop := (∀ i, i < 64 → W.cell? ⟨ub, i, none⟩ = some (.int .i64 (u i))) ∧ ∀ j, W.frozen? ⟨ub, j, none⟩ = false
theorem UpR.lt {W : World} {ub : Nat} {u : Nat → Int} (h : UpR W ub u) : ub < W.heap.size := World.block_lt_of_cell? W _ (h.1 0 (by decide))
theorem UpR.keep {W W' : World} {ub : Nat} {u : Nat → Int} {G : Nat → Prop} (h : UpR W ub u) (hc : Chg G W W') (hG : ¬ G ub) : UpR W' ub u := ⟨fun i hi => (hc.cell h.lt hG).trans (h.1 i hi), fun j => (hc.frozen h.lt hG).trans (h.2 j)⟩
structure LPE (w : World) (F : Nat → Prop) (M : Nat → Nat) (b ub p : Nat) (n0 : Nd) (S : Nat → Option Pr) (W : World) : Prop where
  c : CC W F b n0 3 5 M S
  lo : ∀ k, F k → w.heap.size ≤ k
  nu : ¬ F ub
  lu : w.heap.size ≤ ub
  u : UpR W ub (uO S)
  fr : Fresh n0 S
  nd : NdAt W p n0
  np : ¬ F p
  pu : p ≠ ub
  bel : Below w.heap.size w W
section
variable {w W W' : World} {F F' : Nat → Prop} {M M' : Nat → Nat} {b ub p : Nat} {n0 : Nd} {S : Nat → Option Pr}
theorem LPE.below (h : LPE w F M b ub p n0 S W) (hb : Below W.heap.size W W') : LPE w F M b ub p n0 S W' := ⟨h.c.below hb, h.lo, h.nu, h.lu, h.u.keep (chg0 (F := fun _ => False) hb) (fun h => h), h.fr, h.nd.below hb, h.np, h.pu, h.bel.trans (hb.mono h.bel.size)⟩
theorem NdAt.keep {g : Nat} {G : Nat → Prop} {n : Nd} (h : NdAt W g n) (hc : Chg G W W') (hG : ¬ G g) : NdAt W' g n := ⟨(hc.cell (World.block_lt_of_cell? W _ h.1) hG).trans h.1, (hc.cell (World.block_lt_of_cell? W _ h.2) hG).trans h.2⟩
theorem LPE.mid (h : LPE w F M b ub p n0 S W) (hn : Nx W W' F F') : UpR W' ub (uO S) ∧ NdAt W' p n0 ∧ Below w.heap.size w W' := ⟨h.u.keep hn.1 h.nu, h.nd.keep hn.1 h.np, h.bel.trans (hn.1.below h.bel.size h.lo)⟩
/-- A session more or less, told in the row too. -/
theorem LPE.put (h : LPE w F M b ub p n0 S W) {kk : Nat} (hk : kk < 64) {o : Option Pr} (hc : CC W' F' b n0 3 5 M' (upd S kk o)) (hn : Nx W W' F F') (hfr : ∀ q, o = some q → q = newP n0 q.pe 3 5 ∧ q.pe.1 = (kk : Int) ∧ EpOk q.pe.2) (v : Int) (hv : v = uO (upd S kk o) kk) : LPE w F' M' b ub p n0 (upd S kk o) (W'.setCell ⟨ub, kk, none⟩ (.int .i64 v)) := by
  obtain ⟨m1, m2, m3⟩ := h.mid hn
  have hlt : ∀ k, F' k → F k ∨ W.heap.size ≤ k := hn.2
  have hul := h.u.lt
  have hpl : p < W.heap.size := World.block_lt_of_cell? W _ h.nd.1
  have nu : ¬ F' ub := fun hk => (hlt ub hk).elim h.nu (fun h => by omega)
  have np : ¬ F' p := fun hk => (hlt p hk).elim h.np (fun h => by omega)
  have ch := chg_pt W' ub kk (.int .i64 v)
  refine ⟨hc.keep ch (fun k hk e => nu (e ▸ hk)), fun k hk => ?_, nu, h.lu, ⟨fun i hi => ?_, fun j => ?_⟩, fun i q hq => ?_, m2.keep ch h.pu, np, h.pu, m3.trans (ch.below m3.size (fun k e => by rw [e]; exact h.lu))⟩
  · rcases hlt k hk with h1 | h1
    · exact h.lo k h1
    · have := h.bel.size; omega
  · by_cases e : i = kk
    · subst e
      rw [← hv]
      exact World.cell?_setCell_same _ _ _ (m1.1 i hi)
    · have e2 : uO (upd S kk o) i = uO S i := by unfold uO; rw [upd_other _ _ e]
      rw [e2]
      exact (World.cell?_setCell_other _ _ _ _ (by simp <;> omega)).trans (m1.1 i hi)
  · have := m1.2 j
    simpa [go_sem] using this
  · by_cases e : i = kk
    · subst e
      rw [upd_same] at hq
      exact hfr q hq
    · rw [upd_other _ _ e] at hq
      exact h.fr i q hq
theorem fresh_new (me pe : Nd) : idleB (newP me pe 3 5) = true := rfl
theorem fresh_fr (me pe : Nd) : frmP (newP me pe 3 5) = [] := rfl
theorem Fresh.idle (h : Fresh n0 S) : true = true ↔ ∀ i ∈ ksU S 64, idO S i = true := by
  refine ⟨fun _ i _ => ?_, fun _ => rfl⟩
  unfold idO
  split
  · next q e => rw [(h i q e).1]; rfl
  · rfl
theorem Fresh.frames (h : Fresh n0 S) : (ksU S 64).flatMap (gO S frmP) = [] := by
  refine List.flatMap_eq_nil_iff.2 fun i _ => ?_
  unfold gO
  split
  · next q e => rw [(h i q e).1]; rfl
  · rfl
end
theorem peL_some {S : Nat → Option Pr} {k : Nat} {p : Pr} (h : S k = some p) : peL S (ksU S (k + 1)) = peL S (ksU S k) ++ [p.pe] := by
  unfold peL
  rw [ksU_some h, flat_snoc, gO_some h]
theorem peL_none {S : Nat → Option Pr} {k : Nat} (h : S k = none) : peL S (ksU S (k + 1)) = peL S (ksU S k) := by rw [ksU_none h]
theorem peL_len (S : Nat → Option Pr) (k : Nat) : (peL S (ksU S k)).length ≤ k := by
  have h1 : (peL S (ksU S k)).length ≤ 1 * (ksU S k).length := flatM_len (fun i => by
    unfold gO
    split
    · exact Nat.le_refl _
    · exact Nat.zero_le _) _
  have := ksU_len S k
  omega
end Go.Proofs.YtdigjklhfimnbaaGreat
namespace Go.Proofs.YtdigjklhfimnbaaGreat
set_option maxRecDepth 100000
set_option linter.unusedVariables false
open Go.RowKit

open Go.WideShapes Go.ChangeShapes
theorem load_op {w : World} {bx of : Nat} {cs : Array Value} (hs : cs.size = 21) (h : ∀ j, j < 21 → w.cell? ⟨bx, of + j, none⟩ = cs[j]?) : (loadVar 63 ⟨bx, of, none⟩).run Tryz.prog w = .ok (.agg cs) w := by
  have hl : (loadCells ⟨bx, of, none⟩ cs.toList.length).run Tryz.prog w = .ok cs.toList.toArray w :=
    run_loadCells_list (P := Tryz.prog) w ⟨bx, of, none⟩ cs.toList (fun j v hv => by
      have hadd : (⟨bx, of, none⟩ : Addr).add j = ⟨bx, of + j, none⟩ := by unfold Addr.add; split <;> simp_all
      have hj : j < 21 := by
        have h1 := (List.getElem?_eq_some_iff.1 hv).1
        rw [Array.length_toList, hs] at h1
        exact h1
      rw [hadd, h j hj]
      simpa using hv)
  obtain ⟨i, h1, h2, h3, h4⟩ := info_parts infoOP17
  have hagg : (isAgg 63).run Tryz.prog w = .ok true w := by
    unfold isAgg
    rw [Sem.run_bind, run_underlying underOP17 w]
    rfl
  have hs2 : i.size = cs.size := h3.trans hs.symm
  simp only [Array.length_toList, Array.toArray_toList] at hl
  simp [loadVar, Sem.run_bind, hagg, sizeOf, typeInfo, h1, hs2, hl]
theorem ld_arm {ops : Array Oper} {rest : List Oper} {o : Oper} {a : Act} {Q : Exit → Act → World → Prop} {w : World} (hg : o.guard = none) (x : Operand) (ho : o.op = .load 63 x) {bx of : Nat} {cs : Array Value} (hx : a.eval x = .pointer (some ⟨bx, of, none⟩)) (hl : (loadVar 63 ⟨bx, of, none⟩).run Tryz.prog w = .ok (.agg cs) w)
    (h : wpList Tryz.prog ops Q rest (a.put o.dst (.agg cs)) w) : wpList Tryz.prog ops Q (o :: rest) a w := by
  refine wpList_plain hg fun K hK => ?_
  unfold Oper.wp execOp
  simp only [ho, hx, Instr.loadAt, Instr.sureAddr, Sem.run_bind, Sem.run_pure, Result.andThen_ok, hl]
  exact hK _ _ h
theorem st_op {w : World} {cs : Array Value} (hs : cs.size = 21) (h1 : cs.all (·.oneCell') = true) (ZC : Array Value) (hz : ZC.size = 21) : (storeVar 63 ⟨w.heap.size, 0, none⟩ (.agg cs)).run Tryz.prog (w.alloc (.cells ZC 63)) = .ok () (w.alloc (.cells cs 63)) := by
  obtain ⟨i, e1, e2, e3, e4⟩ := info_parts infoOP17
  have hi : (Tryz.prog.info? 63).map (·.size) = some cs.size := by rw [e1, hs]; exact congrArg some e3
  have h := run_storeVar_row (P := Tryz.prog) (w.alloc (.cells ZC 63)) w.heap.size 63 63 ZC cs (World.alloc_heap_new w _) hi (by rw [hs, hz]) h1
  rw [World.setRow_alloc_new] at h
  exact h
theorem st_arm {ops : Array Oper} {rest : List Oper} {o : Oper} {a : Act} {Q : Exit → Act → World → Prop} {w w' : World} (hg : o.guard = none) (x y : Operand) (ho : o.op = .store 63 x y) {g : Nat} {cs : Array Value} (hx : a.eval x = .pointer (some ⟨g, 0, none⟩)) (hy : a.eval y = .agg cs) (hl : (storeVar 63 ⟨g, 0, none⟩ (.agg cs)).run Tryz.prog w = .ok () w')
    (h : wpList Tryz.prog ops Q rest (a.put o.dst undef) w') : wpList Tryz.prog ops Q (o :: rest) a w := by
  refine wpList_plain hg fun K hK => ?_
  unfold Oper.wp execOp
  simp only [ho, hx, hy, Instr.storeAt, Instr.sureAddr, Sem.run_bind, Sem.run_pure, Result.andThen_ok, hl]
  exact hK _ _ h
/-- Call k of a script, as a whole. -/
theorem op_all {w0 w : World} {a : Option Addr} {c : Nat} {zs : List (RopW w0).α} (h : Gs (RopW w0) w0 (.slice a zs.length c) zs) (hb : Below w0.heap.size w0 w) {k : Nat} (hk : k < zs.length) : ∃ (bx off : Nat) (q : Opc) (cs : Array Value), a = some ⟨bx, off, none⟩ ∧ zs.length ≤ c ∧ cs.size = 21 ∧ cs.all (·.oneCell') = true ∧ (loadVar 63 ⟨bx, off + k * 21, none⟩).run Tryz.prog w = .ok (.agg cs) w ∧ cs[0]? = some (.int .i64 q.k) ∧ cs[1]? = some (.int .i64 q.i) ∧ cs[2]? = some (.int .i64 q.e) ∧ cs[3]? = some (.int .i64 q.t) := by
  obtain ⟨bx, off, e, hbx, hc⟩ := Gs.at (R := RopW w0) h (i := k) hk
  obtain ⟨⟨q, rs, hl, hrs⟩, hz⟩ : ∃ x, zs.getD k (RopW w0).d = x := ⟨_, rfl⟩
  rw [hz] at hc
  have hcap : zs.length ≤ c := by
    rcases h with ⟨_, _, e1, _, e2⟩ | ⟨_, _, cap, e1, e2, _⟩
    · rw [e2] at hk
      exact absurd hk (Nat.not_lt_zero _)
    · simp only [Value.slice.injEq] at e1
      rw [e1.2.2]
      exact e2
  refine ⟨bx, off, q, q.cl.toArray, e, hcap, rfl, Array.all_eq_true_iff_forall_mem.2 (fun v hv => opc_ones q v (by simpa using hv)), load_op rfl (fun j hj => ?_), rfl, rfl, rfl, rfl⟩
  rw [List.getElem?_toArray]
  exact (hb.cell (p := ⟨bx, off + k * 21 + j, none⟩) hbx).trans (hc j hj)
end Go.Proofs.YtdigjklhfimnbaaGreat
