/- Texts Ci0, Bdn, Bcl, Lfx, Pq0 of this proof, in one. No conditions but on lengths. -/
import Derived.Test.YtdigjklhfimnbaaGreatRows
import Derived.Test.YtdigjklhfimnbaaGreatU17
import Derived.ArgAppend
import Derived.Below
import Derived.BigQuiet
import Derived.Calls
import Derived.ChangeArms
import Derived.ChangeMade
import Derived.ChangeOld
import Derived.Deep.Cut
import Derived.Deep.CutBlock
import Derived.Deep.QuietTactic
import Derived.Deep.RegionHeld
import Derived.Deep.RegionLaw
import Derived.Deep.RegionWith
import Derived.Deep.Slices
import Derived.Laws.AppendOwnNone
import Derived.Laws.BytesArg
import Derived.Laws.LoneSync
import Derived.Laws.OwnMore
import Derived.Laws.Rows
import Derived.Laws.StructEq
import Derived.Laws.Tables
import Derived.Lib.Hide
import Derived.Lib.QuietBelow
import Derived.LoopIn
import Derived.LoopTactic
import Derived.Maps.AppendAt
import Derived.OpenShut
import Derived.Orders
import Derived.Outline
import Derived.OwnWalkIn
import Derived.ProofKit
import Derived.RangeFuncBox
import Derived.RangeFuncCalls
import Derived.RangeFuncLeaves
import Derived.RangeFuncNested
import Derived.Shelf.RegionOpen
import Derived.Shelf.RegionOpenPlain
import Derived.ShutString
import Derived.StillTail
import Derived.TacticsInMore
import Derived.WalkKit
import Derived.WalkLawsBesides
import Derived.WalkSpells
import Derived.WideShapes
namespace Go.Proofs.YtdigjklhfimnbaaGreat
set_option maxRecDepth 100000
set_option linter.unusedVariables false
open Go.RowKit Go.WideShapes Go.ChangeShapes

/-- The pointer to a session, or none. -/
def pt (o : Option Nat) : Value := .pointer (o.map fun m => (⟨m, 0, none⟩ : Addr))
noncomputable def arrP (f : Nat → Option Nat) : Array Value := ((List.range 64).map fun i => pt (f i)).toArray
theorem arrP_size (f : Nat → Option Nat) : (arrP f).size = 64 := by unfold arrP; rw [List.size_toArray, List.length_map, List.length_range]
theorem arrP_at (f : Nat → Option Nat) {i : Nat} (h : i < 64) : (arrP f)[i]? = some (pt (f i)) := by
  unfold arrP
  rw [List.getElem?_toArray, List.getElem?_map, List.getElem?_range h]
  rfl
/-- The Ids below k with sessions, rising. -/
def ksP (f : Nat → Option Nat) (k : Nat) : List Nat := (List.range k).filter fun i => (f i).isSome
theorem ksP_succ (f : Nat → Option Nat) (k : Nat) : ksP f (k + 1) = ksP f k ++ (if (f k).isSome = true then [k] else []) := by
  unfold ksP
  rw [List.range_succ, List.filter_append]
  congr 1
  by_cases h : (f k).isSome = true
  · rw [if_pos h]; simp [h]
  · rw [if_neg h]; simp [h]
theorem ksP_none {f : Nat → Option Nat} {k : Nat} (h : f k = none) : ksP f (k + 1) = ksP f k := by
  rw [ksP_succ, if_neg (by rw [h]; simp), List.append_nil]
theorem ksP_some {f : Nat → Option Nat} {k m : Nat} (h : f k = some m) : ksP f (k + 1) = ksP f k ++ [k] := by
  rw [ksP_succ, if_pos (by rw [h]; rfl)]
theorem ksP_pre (f : Nat → Option Nat) {k n : Nat} (h : k ≤ n) : ksP f k <+: ksP f n := by
  induction n with
  | zero =>
    obtain rfl : k = 0 := by omega
    exact List.prefix_rfl
  | succ n ih =>
    by_cases e : k = n + 1
    · subst e; exact List.prefix_rfl
    · exact (ih (by omega)).trans (by rw [ksP_succ]; exact List.prefix_append _ _)
theorem underTS : Tryz.prog.underlying 114 = some (.array 64 113) := by kernel_rfl
theorem infoTS : (Tryz.prog.info? 114).map (·.size) = some 64 := by kernel_rfl
theorem infoTP : (Tryz.prog.info? 113).map (·.size) = some 1 := by kernel_rfl
def SsC (w : World) (b : Nat) (f : Nat → Option Nat) : Prop := ∀ i, i < 64 → w.cell? ⟨b, 4 + i, none⟩ = some (pt (f i))
theorem load_ss {w : World} {b : Nat} {f : Nat → Option Nat} (h : SsC w b f) : (loadVar 114 ⟨b, 4, none⟩).run Tryz.prog w = .ok (.agg (arrP f)) w := by
  have hl : (loadCells ⟨b, 4, none⟩ (arrP f).toList.length).run Tryz.prog w = .ok (arrP f).toList.toArray w :=
    run_loadCells_list (P := Tryz.prog) w ⟨b, 4, none⟩ (arrP f).toList (fun j v hv => by
      have hadd : (⟨b, 4, none⟩ : Addr).add j = ⟨b, 4 + j, none⟩ := by unfold Addr.add; split <;> simp_all
      have hj : j < 64 := by
        have h1 := (List.getElem?_eq_some_iff.1 hv).1
        rw [Array.length_toList, arrP_size] at h1
        exact h1
      rw [hadd, h j hj, ← arrP_at f hj]
      simpa using hv)
  obtain ⟨i, h1, h2⟩ := Option.map_eq_some_iff.1 infoTS
  have hs : i.size = (arrP f).size := h2.trans (arrP_size f).symm
  have hagg : (isAgg 114).run Tryz.prog w = .ok true w := by
    unfold isAgg
    rw [Sem.run_bind, run_underlying underTS w]
    rfl
  simp only [Array.length_toList, Array.toArray_toList] at hl
  simp [loadVar, Sem.run_bind, hagg, sizeOf, typeInfo, h1, hs, hl]
theorem ld_in {F : Fence} {n : Nat} {ops : Array Oper} {rest : List Oper} {o : Oper} {a : Act} {Q : Exit → Act → World → Prop} {w : World} (hg : o.guard = none) (x : Operand) (ho : o.op = .load 114 x) {b : Nat} (hx : a.eval x = .pointer (some ⟨b, 4, none⟩)) {f : Nat → Option Nat} (hm : SsC w b f)
    (h : wpListIn F n Tryz.prog ops Q rest (a.put o.dst (.agg (arrP f))) w) : wpListIn F n Tryz.prog ops Q (o :: rest) a w := by
  refine wpListIn_plain hg fun K hK' => ?_
  unfold Oper.wpIn
  refine ⟨?_, ?_⟩
  · simp [Oper.about, ho]
  · rw [Oper.semAt_plain F _ _ (by rw [ho]; intro c hc'; cases hc')]
    have e : (execOp a.eval o).run Tryz.prog w = .ok (.value (.agg (arrP f))) w := by
      unfold execOp
      simp only [ho, hx, Instr.loadAt, Instr.sureAddr, Sem.run_bind, Sem.run_pure, Result.andThen_ok, load_ss hm]
    rw [e]
    exact hK' _ _ h
theorem idx_ss (f : Nat → Option Nat) {k : Nat} (hk : k < 64) (w : World) : (Instr.index 114 (.agg (arrP f)) (.int .i64 (k : Int))).run Tryz.prog w = .ok (pt (f k)) w := by
  obtain ⟨i, h1, h2⟩ := Option.map_eq_some_iff.1 infoTP
  have hi : (0 : Int) ≤ (k : Int) ∧ (k : Int) < 64 := by omega
  have e := arrP_at f hk
  simp only [Instr.index, asIntOf, Sem.run_bind, Sem.run_pure, Result.andThen_ok, run_underlying underTS w]
  simp [hi, sizeOf, typeInfo, h1, h2, part, Sem.run_bind, e]
theorem itall (w : World) (b : Option Nat) : Calls Tryz.prog 65 #[pt b] w fun e w' => e = .returned (.func (.func 108) #[] #[.pointer (some ⟨w.heap.size, 0, none⟩)]) ∧ w' = w.alloc (.cells #[pt b] 56) := by
  unfold pt
  go_enter Tryz.func65, Tryz.ntmps65
  go_wp2
  go_ret
  exact ⟨rfl, rfl⟩
set_option maxHeartbeats 8000000 in
theorem it_any (n : Nat) (w : World) (Bl b c : Nat) (f : Nat → Option Nat) (encs : Nat → Array Value) (henc : ∀ i m, f i = some m → encs i = #[pt (some m)])
    (hBl : w.cell? ⟨Bl, 0, none⟩ = some (.pointer (some ⟨b, 0, none⟩))) (hS : SsC w b f) :
    SeqV Fence.wide n Tryz.prog 108 #[.pointer (some ⟨Bl, 0, none⟩)] encs 0 c c 0 (ksP f 64) w := by
  intro l J Jx W hW hJ hJx hY h0
  have hm : Tryz.prog.follows .mixedOrders = true := by kernel_rfl
  have hc : W.cell? ⟨Bl, 0, none⟩ = some (.pointer (some ⟨b, 0, none⟩)) := (hW.cell (p := ⟨Bl, 0, none⟩) (World.block_lt_of_cell? w _ hBl)).trans hBl
  have hSW : SsC W b f := fun i hi => (hW.cell (p := ⟨b, 4 + i, none⟩) (World.block_lt_of_cell? w _ (hS i hi))).trans (hS i hi)
  have HS := Lib.hid hSW
  have HY := Lib.hid hY
  have HJ := Lib.hid hJ
  have HE := Lib.hid henc
  have H0 : Hid (J [] W) := h0
  clear hW hBl hS hSW hY hJ hJx henc h0
  refine callsIn_of_wp Tryz.func108 rfl trivial ?_ rfl
  simp only [Tryz.ntmps108, List.size_toArray, List.length_cons, List.length_nil, Nat.reduceAdd, Nat.reduceSub, Array.replicate_succ, Array.replicate_zero, List.push_toArray, List.append_toArray, List.nil_append, List.cons_append]
  gi_wp2_with (refine ld_in rfl (.tmp 9) rfl rfl HS.out ?_)
  gi_loopw [11] (fun i wr => ∃ (k : Nat), k ≤ 64 ∧ i = .int .i64 k ∧ J (ksP f k) wr ∧ W.heap.size ≤ wr.heap.size) (fun i _ => 64 - (intOf i).toNat)
  case atStart => exact ⟨0, Nat.zero_le _, rfl, H0.out, Nat.le_refl _⟩
  case round =>
    obtain ⟨k, hk, rfl, hj, hsz⟩ := hrel
    by_cases hlt : k < 64
    · have hix := fun W => idx_ss f hlt W
      have hltz : (k : Int) < 64 := by omega
      obtain ⟨o, ho⟩ : ∃ o, f k = o := ⟨_, rfl⟩
      rw [ho] at hix
      cases o with
      | none =>
        have HN : Hid (J (ksP f (k + 1)) wr) := by show J _ _; rw [ksP_none ho]; exact hj
        have HZ := Lib.hid hsz
        simp only [pt, Option.map_none] at hix
        clear hj hsz ho
        gi_wp2_with fail
        refine ⟨fun _ h => (by cases h), ?_⟩
        gi_wp2_with fail
        go_roundw
        case rel => exact ⟨k + 1, hlt, by go_num, HN.out, HZ.out⟩
        case measure => simp [intOf]; omega
      | some m =>
        obtain ⟨fn, tmps, assign, body, hy, hR⟩ := HY.out (ksP f k) k wr hj (by simpa using hsz) (by rw [← ksP_some ho]; exact ksP_pre f hlt)
        rw [HE.out k m ho] at hy
        have HK := Lib.hid (ksP_some ho)
        have HZ := Lib.hid hsz
        simp only [pt, Option.map_some] at hix hy
        clear hj hsz ho
        gi_wp2_with (refine ⟨fun h => (by cases h), hR.mono ?_⟩; rintro e W7 ⟨q, rfl, hq⟩)
        · rename_i hnq
          obtain rfl : q = false := by simpa using hnq
          refine bodyPost_ret (results_none rfl _ _ _) rfl ?_
          exact ⟨⟨_, rfl⟩, .inr ⟨ksP f (k + 1), ksP_pre f hlt, by rw [HK.out]; exact hq.2 rfl⟩⟩
        · rename_i hnq
          obtain rfl : q = true := by simpa using hnq
          obtain ⟨j7, _, k7, _⟩ := hq.1 rfl
          refine ⟨⟨k + 1, hlt, by go_num, by rw [HK.out]; exact j7, Nat.le_trans HZ.out k7.size⟩, ?_⟩
          simp [intOf]
          omega
    · obtain rfl : k = 64 := by omega
      gi_wp2_with fail
      go_end0
      exact ⟨⟨_, rfl⟩, .inl hj⟩
theorem it_nil (n : Nat) (w : World) (Bl c : Nat) (encs : Nat → Array Value) (hBl : w.cell? ⟨Bl, 0, none⟩ = some (.pointer none)) :
    SeqV Fence.wide n Tryz.prog 108 #[.pointer (some ⟨Bl, 0, none⟩)] encs 0 c c 0 [] w := by
  intro l J Jx W hW hJ hJx hY h0
  have hc : W.cell? ⟨Bl, 0, none⟩ = some (.pointer none) := (hW.cell (p := ⟨Bl, 0, none⟩) (World.block_lt_of_cell? w _ hBl)).trans hBl
  have H0 : Hid (J [] W) := h0
  clear hW hBl hY hJ hJx h0
  refine callsIn_of_wp Tryz.func108 rfl trivial ?_ rfl
  simp only [Tryz.ntmps108, List.size_toArray, List.length_cons, List.length_nil, Nat.reduceAdd, Nat.reduceSub, Array.replicate_succ, Array.replicate_zero, List.push_toArray, List.append_toArray, List.nil_append, List.cons_append]
  gi_wp2_with fail
  refine bodyPost_ret (results_none rfl _ _ _) rfl ?_
  exact ⟨⟨_, rfl⟩, .inl H0.out⟩
end Go.Proofs.YtdigjklhfimnbaaGreat
namespace Go.Proofs.YtdigjklhfimnbaaGreat
set_option maxRecDepth 100000
open Go.RowKit Go.Sort

/-- A batch lies there, and may be written. -/
def Own2 (w : World) (b : Nat) (M : Int) (v : Value) : Prop := (w.cell? ⟨b, 0, none⟩ = some (.int .i64 M) ∧ w.cell? ⟨b, 1, none⟩ = some v) ∧ ∀ j, w.frozen? ⟨b, j, none⟩ = false
theorem Own2.lt {w : World} {b : Nat} {M : Int} {v : Value} (h : Own2 w b M v) : b < w.heap.size := World.block_lt_of_cell? w _ h.1.1
theorem Own2.below {w w' : World} {b : Nat} {M : Int} {v : Value} (h : Own2 w b M v) (hb : Below w.heap.size w w') : Own2 w' b M v :=
  ⟨⟨(hb.cell (p := ⟨b, 0, none⟩) h.lt).trans h.1.1, (hb.cell (p := ⟨b, 1, none⟩) h.lt).trans h.1.2⟩, fun j => (hb.frozen (p := ⟨b, j, none⟩) h.lt).trans (h.2 j)⟩
theorem Own2.set {w : World} {b : Nat} {M : Int} {v : Value} (h : Own2 w b M v) (M' : Int) (v' : Value) : Own2 ((w.setCell ⟨b, 0, none⟩ (.int .i64 M')).setCell ⟨b, 1, none⟩ (v')) b M' v' := by
  obtain ⟨⟨h0, h1⟩, hf⟩ := h
  refine ⟨⟨?_, ?_⟩, fun j => ?_⟩ <;> simp [go_sem, hf, h0, h1]
end Go.Proofs.YtdigjklhfimnbaaGreat
namespace Go.Proofs.YtdigjklhfimnbaaGreat
set_option maxRecDepth 100000
open Go.RowKit Go.Sort

theorem pleft_any (n : Int) (w : World) : Calls Tryz.prog 124 #[.int .i64 n] w fun e w' => e = .returned (.int .i64 (lft n)) ∧ Below w.heap.size w w' := by
  have cF := fun w => far_any 0 n w
  rw [show far 0 n = lft n by unfold far lft; omega] at cF
  go_enter Tryz.func124, Tryz.ntmps124
  go_wp2_with (go_at_call 125; refine (cF _).mono ?_; rintro e w1 ⟨rfl, hb⟩; have HB := Lib.hid hb; clear hb)
  go_ret
  exact ⟨rfl, HB.out⟩
set_option maxHeartbeats 8000000 in
theorem areright_any (v : Value) (ys : List Ob) (w : World) (hy : Os w v ys) (hl : ys.length ≤ 3000) :
    Calls Tryz.prog 122 #[v] w fun e w' => e = .returned (.bool (decide (AllOk ys))) ∧ Below w.heap.size w w' := by
  obtain ⟨a, c, rfl⟩ := hy.form
  have HY := Lib.hid hy
  clear hy
  go_enter Tryz.func122, Tryz.ntmps122
  go_wp2_with fail
  go_loopw [4, 7] (fun _ i wr => ∃ k : Nat, k ≤ ys.length ∧ i = .int .i64 k ∧ (∀ i, i < k → (ys.getD i z12).Ok) ∧ Below w.heap.size w wr) (fun _ i _ => ys.length - (intOf i).toNat)
  case atStart => exact ⟨0, Nat.zero_le _, rfl, fun i h => absurd h (Nat.not_lt_zero _), Below.refl _ _⟩
  case round =>
    obtain ⟨k, hk, rfl, hok, hbel⟩ := hrel
    have HO := Lib.hid hok
    have HB := Lib.hid hbel
    clear hok hbel
    by_cases hlt : k < ys.length
    · obtain ⟨b, off, rfl, hB, hc⟩ := (HY.out.below HB.out).at hlt
      obtain ⟨y, hyk⟩ : ∃ y, ys.getD k z12 = y := ⟨_, rfl⟩
      rw [hyk] at hc
      obtain ⟨p0, p1, p2, p3, p4, p5, p6, p7, p8, p9, p10, p11⟩ := hc.all
      have HK := Lib.hid hyk
      have H2 := Lib.hid ((Below.refl _ wr).alloc (Nat.le_refl _) (.cells #[.int .i64 y.k, .int .i64 y.x, .bool y.n, .int .i64 y.t, .int .i64 y.o, .int .i64 y.r, .int .i64 y.d, .int .i64 y.i, .int .i64 y.p, .int .i64 y.q, .int .i64 y.s, .int .i64 y.m] 41))
      clear hc hyk
      by_cases hq : y.Ok
      · have cB : ∀ w, Calls Tryz.prog 60 #[.agg #[.int .i64 y.k, .int .i64 y.x, .bool y.n, .int .i64 y.t, .int .i64 y.o, .int .i64 y.r, .int .i64 y.d, .int .i64 y.i, .int .i64 y.p, .int .i64 y.q, .int .i64 y.s, .int .i64 y.m]] w fun e w' => e = .returned (.int .i64 0) ∧ Below w.heap.size w w' := fun w => by
          have h := ocheck_any y.k y.x y.n y.t y.o y.r y.d y.i y.p y.q y.s y.m w
          rwa [show obc y.k y.x y.n y.t y.o y.r y.d y.i y.p y.q y.s y.m = 0 from obc_ok hq] at h
        have HQ := Lib.hid hq
        clear hq
        go_wp2_with fail
        refine (cB _).mono ?_
        rintro e w1 ⟨rfl, hb⟩
        replace HB := Lib.hid (HB.out.trans ((H2.out.trans (hb.mono H2.out.size)).mono HB.out.size))
        clear hb
        go_wp2_with fail
        go_roundw
        case rel =>
          refine ⟨k + 1, by omega, by go_num, ?_, HB.out⟩
          intro j hj
          by_cases h : j < k
          · exact HO.out j h
          · obtain rfl : j = k := by omega
            rw [HK.out]; exact HQ.out
        case measure => simp [intOf]; omega
      · have cB : ∀ w, Calls Tryz.prog 60 #[.agg #[.int .i64 y.k, .int .i64 y.x, .bool y.n, .int .i64 y.t, .int .i64 y.o, .int .i64 y.r, .int .i64 y.d, .int .i64 y.i, .int .i64 y.p, .int .i64 y.q, .int .i64 y.s, .int .i64 y.m]] w fun e w' => e = .returned (.int .i64 1) ∧ Below w.heap.size w w' := fun w => by
          have h := ocheck_any y.k y.x y.n y.t y.o y.r y.d y.i y.p y.q y.s y.m w
          rwa [show obc y.k y.x y.n y.t y.o y.r y.d y.i y.p y.q y.s y.m = 1 from obc_no hq] at h
        have HQ := Lib.hid hq
        clear hq
        go_wp2_with fail
        refine (cB _).mono ?_
        rintro e w1 ⟨rfl, hb⟩
        replace HB := Lib.hid (HB.out.trans ((H2.out.trans (hb.mono H2.out.size)).mono HB.out.size))
        clear hb
        go_wp2_with fail
        go_ret
        refine ⟨ret_false (fun h => HQ.out (by rw [← HK.out]; exact h k hlt)), HB.out⟩
    · obtain rfl : k = ys.length := by omega
      go_wp2_with fail
      go_ret
      exact ⟨ret_true HO.out, HB.out⟩
end Go.Proofs.YtdigjklhfimnbaaGreat
namespace Go.Proofs.YtdigjklhfimnbaaGreat
set_option maxRecDepth 100000
open Go.RowKit

def WiOk (M : Int) (ys : List (Int × Int)) (id ep : Int) : Prop := BeOk M ys ∧ BeOk M (winF ys id ep)
instance (M : Int) (ys : List (Int × Int)) (id ep : Int) : Decidable (WiOk M ys id ep) := by unfold WiOk; infer_instance
theorem OwE.es {w : World} {S : Nat} {v : Value} {xs : List (Int × Int)} (h : OwE w S v xs) : Es w v xs := (Es_of_own h).1
end Go.Proofs.YtdigjklhfimnbaaGreat
namespace Go.Proofs.YtdigjklhfimnbaaGreat
set_option maxRecDepth 100000
open Go.RowKit

section
variable {P : Program} {f : FuncId} {fn : Func}
theorem run_call_loadN {k : IntKind} (hf : P.funcs[f]? = some fn) (hname : (fn.name == "runtime.NumGoroutine") = false) (hb : fn.body.isNone = true) (hn : Extern.findNext fn = none)
    (he : Extern.find fn = some (Extern.Atomic.loadT (.int k))) {a : Addr} {x : Int} {w : World} (hc : w.cell? a = some (.int k x)) :
    (callFunc f #[.pointer (some a)]).run P w = .ok (.value (.int k x)) w := by
  rw [run_callFunc_extern hf hname hb hn he]
  change (Sem.run P (do Extern.Atomic.read (.int k) (← asAddr (.pointer (some a)))) w).andThen _ = _
  simp [Extern.Atomic.read, asAddr, hc, Result.andThen]
theorem run_call_storeN {k : IntKind} (hf : P.funcs[f]? = some fn) (hname : (fn.name == "runtime.NumGoroutine") = false) (hb : fn.body.isNone = true) (hn : Extern.findNext fn = none)
    (he : Extern.find fn = some Extern.Atomic.storeT) {a : Addr} {x : Int} {u : Value} {w : World} (hc : w.cell? a = some u) (hz : w.frozen? a = false) :
    (callFunc f #[.pointer (some a), .int k x]).run P w = .ok (.value (.tuple #[])) (w.setCell a (.int k x)) := by
  rw [run_callFunc_extern hf hname hb hn he]
  change (Sem.run P (do
    store (← asAddr (.pointer (some a))) (.int k x) .atomic
    pure Extern.Atomic.none_) w).andThen _ = _
  simp [asAddr, hc, hz, run_store P w a (.int k x) .atomic rfl, Result.andThen, Extern.Atomic.none_]
theorem run_call_addN (hf : P.funcs[f]? = some fn) (hname : (fn.name == "runtime.NumGoroutine") = false) (hb : fn.body.isNone = true) (hn : Extern.findNext fn = none)
    (he : Extern.find fn = some (Extern.Atomic.update (Op.intArith .add) .i64 true)) {a : Addr} {x d : Int} {w : World} (hc : w.cell? a = some (.int .i64 x)) (hz : w.frozen? a = false) :
    (callFunc f #[.pointer (some a), .int .i64 d]).run P w = .ok (.value (.int .i64 (IntKind.i64.wrap (x + d)))) (w.setCell a (.int .i64 (IntKind.i64.wrap (x + d)))) := by
  rw [run_callFunc_extern hf hname hb hn he]
  change (Sem.run P (do
    let a ← asAddr (.pointer (some a))
    let old ← Extern.Atomic.read (.int .i64) a
    let new ← Op.intArith .add .i64 (← asInt old) (← asInt (.int .i64 d))
    store a new .atomic
    pure (if true then new else old)) w).andThen _ = _
  simp [Extern.Atomic.read, asAddr, asInt, asIntOf, Op.intArith, hc, hz, run_store P w a (.int .i64 (IntKind.i64.wrap (x + d))) .atomic rfl, Result.andThen]
end
theorem sload_any (b o : Nat) (n : Int) (w : World) (h : w.cell? ⟨b, o, none⟩ = some (.int .i64 n)) : Calls Tryz.prog 83 #[.pointer (some ⟨b, o, none⟩)] w fun e w' => e = .returned (.int .i64 n) ∧ w = w' := by
  have hl := run_call_loadN (P := Tryz.prog) (f := 129) (k := .i64) Tryz.func129 (by kernel_rfl) (by kernel_rfl) (by kernel_rfl) (by kernel_rfl) h
  go_enter Tryz.func83, Tryz.ntmps83
  go_wp2_with fail
  go_ret
  exact ⟨rfl, rfl⟩
theorem sstore_any (b o : Nat) (n m : Int) (w : World) (h : w.cell? ⟨b, o, none⟩ = some (.int .i64 n)) (hf : w.frozen? ⟨b, o, none⟩ = false) : Calls Tryz.prog 126 #[.pointer (some ⟨b, o, none⟩), .int .i64 m] w fun e w' => e = .returned (.tuple #[]) ∧ w' = w.setCell ⟨b, o, none⟩ (.int .i64 m) := by
  have hl := run_call_storeN (P := Tryz.prog) (f := 174) (k := .i64) (x := m) Tryz.func174 (by kernel_rfl) (by kernel_rfl) (by kernel_rfl) (by kernel_rfl) h hf
  go_enter Tryz.func126, Tryz.ntmps126
  go_wp2_with fail
  go_end0
  exact ⟨rfl, rfl⟩
theorem sadd_any (b o : Nat) (n d : Int) (w : World) (h : w.cell? ⟨b, o, none⟩ = some (.int .i64 n)) (hf : w.frozen? ⟨b, o, none⟩ = false) (hr : IntKind.i64.wrap (n + d) = n + d) : Calls Tryz.prog 84 #[.pointer (some ⟨b, o, none⟩), .int .i64 d] w fun e w' => e = .returned (.int .i64 (n + d)) ∧ w' = w.setCell ⟨b, o, none⟩ (.int .i64 (n + d)) := by
  have hl := run_call_addN (P := Tryz.prog) (f := 130) (d := d) Tryz.func130 (by kernel_rfl) (by kernel_rfl) (by kernel_rfl) (by kernel_rfl) h hf
  rw [hr] at hl
  clear hr
  go_enter Tryz.func84, Tryz.ntmps84
  go_wp2_with fail
  go_ret
  exact ⟨rfl, rfl⟩
end Go.Proofs.YtdigjklhfimnbaaGreat
