/- Texts Eit of this proof, in one. No conditions but on lengths. -/
import Derived.Test.YtdigjklhfimnbaaGreatRows
import Derived.Test.YtdigjklhfimnbaaGreatU13
import Derived.ArgAppend
import Derived.Below
import Derived.BigQuiet
import Derived.Calls
import Derived.ChangeArms
import Derived.ChangeMade
import Derived.ChangeOld
import Derived.Deep.QuietTactic
import Derived.Deep.RegionLaw
import Derived.Deep.Slices
import Derived.Laws.AppendOwnNone
import Derived.Laws.BytesArg
import Derived.Laws.LoneSync
import Derived.Laws.OwnMore
import Derived.Laws.StructEq
import Derived.Lib.Hide
import Derived.Lib.QuietBelow
import Derived.LoopIn
import Derived.LoopTactic
import Derived.Maps.AppendAt
import Derived.OpenShut
import Derived.Orders
import Derived.Outline
import Derived.OwnWalkIn
import Derived.ProofKit
import Derived.RangeFuncBox
import Derived.RangeFuncCalls
import Derived.RangeFuncLeaves
import Derived.RangeFuncNested
import Derived.Shelf.RegionOpen
import Derived.ShutString
import Derived.StillTail
import Derived.TacticsInMore
import Derived.WalkKit
import Derived.WalkSpells
import Derived.WideShapes
namespace Go.Proofs.YtdigjklhfimnbaaGreat
set_option maxRecDepth 100000
open Go.RowKit

/-- The echo ahead; the pair that is handed on. -/
def prevE (ys : List (Int × Int)) : Nat → Int × Int
  | 0 => (-1, 0)
  | k + 1 => ys.getD k (0, 0)
def prE (ys : List (Int × Int)) (k : Nat) : (Int × Int) × (Int × Int) := (prevE ys k, ys.getD k (0, 0))
def uptoE (ys : List (Int × Int)) (k : Nat) : List ((Int × Int) × (Int × Int)) := (List.range k).map (prE ys)
theorem uptoE_succ (ys : List (Int × Int)) (k : Nat) : uptoE ys (k + 1) = uptoE ys k ++ [prE ys k] := by simp [uptoE, List.range_succ]
theorem uptoE_pre (ys : List (Int × Int)) {k n : Nat} (h : k ≤ n) : uptoE ys k <+: uptoE ys n := by
  obtain ⟨m, rfl⟩ := Nat.exists_eq_add_of_le h
  refine ⟨((List.range' k m).map (prE ys)), ?_⟩
  rw [uptoE, uptoE, ← List.map_append]
  congr 1
  rw [List.range_eq_range', List.range_eq_range', ← List.range'_append (s := 0) (m := k) (n := m) (step := 1)]
  simp
def encE (x : (Int × Int) × (Int × Int)) : Array Value := #[.agg #[.int .i64 x.1.1, .int .i64 x.1.2], .agg #[.int .i64 x.2.1, .int .i64 x.2.2]]
theorem inturn25 (v : Value) (ys : List (Int × Int)) (w : World) (hv : Es w v ys) :
    Calls Tryz.prog 169 #[v] w fun e w' => e = .returned (.func (.func 199) #[] #[.pointer (some ⟨w.heap.size, 0, none⟩)]) ∧ w' = w.alloc (.cells #[v] 78) := by
  obtain ⟨a, c, rfl⟩ := hv.form
  clear hv
  go_enter Tryz.func169, Tryz.ntmps169
  go_wp2
  go_ret
  exact ⟨rfl, rfl⟩
theorem wideC {P : Program} {n m : Nat} {f : FuncId} {args : Array Value} {w : World} {R : Ending → World → Prop} (h : Calls P f args w R) :
    Fence.wide.fn f ∧ (Fence.wide.depth.isSome = true → 1 ≤ n) ∧ CallsIn Fence.wide m P f args w R := ⟨trivial, fun h => (by cases h), callsIn_wide.2 h⟩
theorem grownBy_drew (W : World) : W.grownBy W.drew none := ⟨rfl, rfl, rfl, Nat.le_refl _, fun _ _ _ => rfl⟩
/-- An echo that lies there. -/
def EcC (w : World) (b o : Nat) (y : Int × Int) : Prop := (w.cell? ⟨b, o, none⟩ = some (.int .i64 y.1) ∧ w.cell? ⟨b, o + 1, none⟩ = some (.int .i64 y.2)) ∧ Pts w ⟨b, o, none⟩
theorem EcC.low {w w' : World} {b o : Nat} {y : Int × Int} (h : EcC w b o y) (hb : w'.heap[b]? = w.heap[b]?) : EcC w' b o y :=
  ⟨⟨(World.cell?_of_block (a := ⟨b, o, none⟩) hb).trans h.1.1, (World.cell?_of_block (a := ⟨b, o + 1, none⟩) hb).trans h.1.2⟩, Pts.low (a := ⟨b, o, none⟩) h.2 hb⟩
theorem EcC.lt {w : World} {b o : Nat} {y : Int × Int} (h : EcC w b o y) : b < w.heap.size := World.block_lt_of_cell? w _ h.1.1
theorem El.ec {w : World} {a : Option Addr} {c : Nat} {ys : List (Int × Int)} (h : El w (.slice a ys.length c) ys) {i : Nat} (hi : i < ys.length) : ∃ b off, a = some ⟨b, off, none⟩ ∧ b < w.heap.size ∧ EcC w b (off + i * 2) (ys.getD i (0, 0)) := by
  obtain ⟨b, off, rfl, hb, h1, h2⟩ := h.1.at hi
  exact ⟨b, off, rfl, hb, ⟨h1, h2⟩, h.2 b off _ c rfl i hi⟩
set_option maxHeartbeats 8000000 in
theorem iter36 (n : Nat) (We w : World) (Bl : Nat) (a : Option Addr) (c : Nat) (ys : List (Int × Int)) (hE : El We (.slice a ys.length c) ys) (hWe : Below We.heap.size We w) (hl : ys.length ≤ 3000)
    (hBl : w.cell? ⟨Bl, 0, none⟩ = some (.slice a ys.length c)) :
    SeqV Fence.wide n Tryz.prog 199 #[.pointer (some ⟨Bl, 0, none⟩)] encE We.heap.size Bl (Bl + 1) 2 (uptoE ys ys.length) w := by
  intro l J Jx W hW hJ hJx hY h0
  have hm : Tryz.prog.follows .mixedOrders = true := by kernel_rfl
  have hBlt := World.block_lt_of_cell? w _ hBl
  have hWW := hWe.trans (hW.mono hWe.size)
  have hcB : W.cell? ⟨Bl, 0, none⟩ = some (.slice a ys.length c) := (hW.cell (p := ⟨Bl, 0, none⟩) hBlt).trans hBl
  obtain ⟨S, hS⟩ : ∃ S, W.heap.size = S := ⟨_, rfl⟩
  have hBS : Bl < S := by have := hW.size; rw [← hS]; exact Nat.lt_of_lt_of_le hBlt this
  have hn0 : We.heap.size ≤ S := by rw [← hS]; exact hWW.size
  rw [hS] at hJ hJx hY
  obtain ⟨W1, hW1⟩ : ∃ W1, W1 = W.alloc (.cells #[.pointer none] 292) := ⟨_, rfl⟩
  obtain ⟨W2, hW2⟩ : ∃ W2, W2 = W1.alloc (.cells #[.int .i64 (-1), .int .i64 0] 23) := ⟨_, rfl⟩
  have hs1 : W1.heap.size = S + 1 := by rw [hW1]; simp [hS]
  have hs2 : W2.heap.size = S + 2 := by rw [hW2]; simp [hs1]
  have hJ1 : J [] W1 := by rw [hW1]; exact hJ.alloc _ h0
  have hJ2 : J [] W2 := by rw [hW2]; exact hJ.alloc _ hJ1
  have hc0 : W2.cell? ⟨S, 0, none⟩ = some (.pointer none) := by rw [hW2, hW1, ← hS]; simp
  have hf0 : W2.frozen? ⟨S, 0, none⟩ = false := by rw [hW2, hW1, ← hS]; simp
  have hE2 : EcC W2 (S + 1) 0 (-1, 0) := by
    rw [hW2]
    exact ⟨⟨by rw [← hs1]; simp, by rw [← hs1]; simp⟩, pts_new W1 (-1) 0 (S + 1) hs1.symm⟩
  have hb2 : Below S W W2 := by rw [hW2, hW1]; exact ((Below.refl S W).alloc (by omega) _).alloc (by simp; omega) _
  have cs := store37 S none ⟨S + 1, 0, none⟩ W2 hc0 hf0 hE2.2
  obtain ⟨W3, hW3⟩ : ∃ W3, W3 = W2.setCell ⟨S, 0, none⟩ (.pointer (some ⟨S + 1, 0, none⟩)) := ⟨_, rfl⟩
  have hg3 : W2.grownBy W3 (some S) := by rw [hW3]; exact grownBy_setCell' W2 S _
  have hJ3 : J [] W3 := hJ _ _ _ _ hJ2 hg3 (fun r e => by cases e; omega)
  have hc3 : W3.cell? ⟨S, 0, none⟩ = some (.pointer (some ⟨S + 1, 0, none⟩)) := by rw [hW3]; exact World.cell?_setCell_same' _ _ _ (by rw [hc0]; rfl)
  have hf3 : W3.frozen? ⟨S, 0, none⟩ = false := by rw [hW3, World.frozen?_setCell]; exact hf0
  have hE3 : EcC W3 (S + 1) 0 (-1, 0) := hE2.low (hg3.block _ (by omega) (by simp))
  have hb3 : Below S W W3 := by rw [hW3]; exact hb2.setCell (p := ⟨S, 0, none⟩) (Nat.le_refl _) _
  have hs3 : W3.heap.size = S + 2 := by rw [hW3]; simp [hs2]
  rw [← hW3] at cs
  clear hJ1 hJ2 hc0 hf0 hE2 hb2 hg3 h0
  have HX := Lib.hid (And.intro hJ3 (And.intro hc3 (And.intro hf3 (And.intro hE3 (And.intro hb3 hs3)))))
  have HJ := Lib.hid hJ
  have HY := Lib.hid hY
  have HE := Lib.hid hE
  have HWW := Lib.hid hWW
  have HcB := Lib.hid hcB
  clear hJ3 hc3 hf3 hE3 hb3 hs3 hJ hY hJx hE hWe hW hBl hBlt hcB hWW
  refine callsIn_of_wp Tryz.func199 rfl trivial ?_ rfl
  simp only [Tryz.ntmps199, List.size_toArray, List.length_cons, List.length_nil, Nat.reduceAdd, Nat.reduceSub, Array.replicate_succ, Array.replicate_zero, List.push_toArray, List.append_toArray, List.nil_append, List.cons_append]
  gi_wp2_with fail
  rw [← hW1, ← hW2]
  refine wideC (cs.mono ?_)
  rintro e V3 ⟨rfl, rfl⟩
  clear cs
  have hcB3 : V3.cell? ⟨Bl, 0, none⟩ = some (.slice a ys.length c) := (HX.out.2.2.2.2.1.cell (p := ⟨Bl, 0, none⟩) hBS).trans HcB.out
  clear hW3 hW2 hW1 hs1 hs2
  gi_wp2_with fail
  clear hcB3
  gi_loopw [11] (fun i wr => ∃ (k ab ao : Nat), k ≤ ys.length ∧ i = .int .i64 k ∧ J (uptoE ys k) wr ∧ wr.cell? ⟨S, 0, none⟩ = some (.pointer (some ⟨ab, ao, none⟩)) ∧ wr.frozen? ⟨S, 0, none⟩ = false ∧ EcC wr ab ao (prevE ys k) ∧ (ab < We.heap.size ∨ ab = S + 1) ∧ S + 2 ≤ wr.heap.size ∧ wr.heap[Bl]? = W.heap[Bl]? ∧ Below We.heap.size We wr) (fun i _ => ys.length - (intOf i).toNat)
  case atStart =>
    obtain ⟨h1, h2, h3, h4, h5, h6⟩ := HX.out
    exact ⟨0, S + 1, 0, Nat.zero_le _, rfl, h1, h2, h3, h4, .inr rfl, Nat.le_of_eq h6.symm, h5.block Bl hBS, HWW.out.trans (h5.mono hn0)⟩
  case round =>
    obtain ⟨k, ab, ao, hk, rfl, hj, hc, hf, hp, hab, hsz, hbl, hbel⟩ := hrel
    clear HX
    have hcB : wr.cell? ⟨Bl, 0, none⟩ = some (.slice a ys.length c) := (World.cell?_of_block (a := ⟨Bl, 0, none⟩) hbl).trans HcB.out
    by_cases hlt : k < ys.length
    · obtain ⟨b, off, rfl, hb0, _⟩ := HE.out.ec hlt
      obtain ⟨b', off', e, hb, hec⟩ := (HE.out.below hbel).ec hlt
      simp only [Option.some.injEq, Addr.mk.injEq, and_true] at e
      obtain ⟨rfl, rfl⟩ := e
      have habS : ab ≠ S := by rcases hab with h | h <;> omega
      have csw := swap38 S ⟨ab, ao, none⟩ ⟨b, off + k * 2, none⟩ wr hc hf hec.2 hp.2 habS
      obtain ⟨W5, hW5⟩ : ∃ W5, W5 = wr.setCell ⟨S, 0, none⟩ (.pointer (some ⟨b, off + k * 2, none⟩)) := ⟨_, rfl⟩
      rw [← hW5] at csw
      have hg5 : wr.grownBy W5 (some S) := by rw [hW5]; exact grownBy_setCell' wr S _
      have hj5 : J (uptoE ys k) W5 := HJ.out _ _ _ _ hj hg5 (fun r e => by cases e; omega)
      have hc5 : W5.cell? ⟨S, 0, none⟩ = some (.pointer (some ⟨b, off + k * 2, none⟩)) := by rw [hW5]; exact World.cell?_setCell_same' _ _ _ (by rw [hc]; rfl)
      have hf5 : W5.frozen? ⟨S, 0, none⟩ = false := by rw [hW5, World.frozen?_setCell]; exact hf
      have hs5 : S + 2 ≤ W5.heap.size := by rw [hW5]; simpa using hsz
      have hp5 : EcC W5 ab ao (prevE ys k) := hp.low (hg5.block _ hp.lt (by simpa using habS))
      have he5 : EcC W5 b (off + k * 2) (ys.getD k (0, 0)) := hec.low (hg5.block _ hec.lt (by simp; omega))
      have hbl5 : W5.heap[Bl]? = W.heap[Bl]? := (hg5.block _ (by omega) (by simp; omega)).trans hbl
      have hbel5 : Below We.heap.size We W5 := hbel.trans ((Below.refl _ wr).grown hg5 hbel.size (fun k e => by cases e; omega))
      have hjd : J (uptoE ys k) W5.drew := HJ.out _ _ _ _ hj5 (grownBy_drew W5) (fun r e => by cases e)
      obtain ⟨fn, tmps, assign, body, hy, hR⟩ := HY.out (uptoE ys k) (prE ys k) W5.drew hjd hs5 (by rw [← uptoE_succ]; exact uptoE_pre ys hlt)
      have CL := Lib.hid (load39 S ⟨b, off + k * 2, none⟩ W5.drew hc5 he5.2)
      obtain ⟨⟨x1, x2⟩, hx⟩ : ∃ x, prevE ys k = x := ⟨_, rfl⟩
      obtain ⟨⟨y1, y2⟩, hyk⟩ : ∃ y, ys.getD k (0, 0) = y := ⟨_, rfl⟩
      obtain ⟨⟨p1, p2⟩, _⟩ := hp5
      obtain ⟨⟨q1, q2⟩, hq3⟩ := he5
      simp only [prE, encE, hx, hyk] at hy p1 p2 q1 q2
      have HX5 := Lib.hid (And.intro hc5 (And.intro hf5 (And.intro hs5 (And.intro hbl5 (And.intro hbel5 hq3)))))
      have HY5 := Lib.hid hyk
      have HG := Lib.hid (And.intro hb0 (And.intro hlt hj5))
      have hq0 : (0 : Int) ≤ (k : Int) := by omega
      have hq1 : (k : Int) < (ys.length : Int) := by omega
      clear hj hf hp hab hsz hbl hbel hec hg5 hj5 hc5 hf5 hs5 hbl5 hbel5 hjd hx hyk hq3 HcB hb hb0
      gi_wp2_with fail
      refine wideC (csw.mono ?_)
      rintro e V5 ⟨rfl, rfl⟩
      clear csw hcB hc hW5
      gi_wp2_with fail
      have WC := fun (m' n' : Nat) (R : Ending → World → Prop) (h : ∀ e w', (e = .returned (.pointer (some ⟨b, off + k * 2, none⟩)) ∧ V5.drew = w') → R e w') => wideC (n := n') (m := m') (CL.out.mono (R' := R) h)
      clear CL
      gi_region_with_o (first | (refine WC _ _ _ ?_; rintro e w' ⟨rfl, rfl⟩) | (refine ⟨fun h => (by cases h), hR.mono ?_⟩; rintro e W7 ⟨q, rfl, hq⟩))
      all_goals
        (cases q with
        | true =>
          have h7 := Lib.hid (hq.1 rfl)
          clear hq
          gi_wp2_with fail
          go_roundw
          case rel =>
            obtain ⟨j7, kb7, ks7, b7⟩ := h7.out
            obtain ⟨c5, f5, s5, l5, w5, t5⟩ := HX5.out
            refine ⟨k + 1, b, off + k * 2, by omega, by go_num, by rw [uptoE_succ]; exact j7, (ks7.cell (Nat.le_refl _) (by omega) (by show S < V5.heap.size; omega)).trans c5, (ks7.frozen (Nat.le_refl _) (by omega) (by show S < V5.heap.size; omega)).trans f5, ?_, .inl HG.out.1, Nat.le_trans s5 ks7.size, (kb7.same Bl (Nat.le_refl _) (by omega) (by show Bl < V5.heap.size; omega)).trans l5, w5.drew.trans b7⟩
            have e7 : EcC V5 b (off + k * 2) (prevE ys (k + 1)) := by rw [show prevE ys (k + 1) = ys.getD k (0, 0) from rfl, HY5.out]; exact ⟨⟨q1, q2⟩, t5⟩
            exact e7.low (b7.block b HG.out.1)
          case measure => simp [intOf]; omega
        | false =>
          have h7 := Lib.hid (hq.2 rfl)
          clear hq
          gi_wp2_with fail
          refine bodyPost_ret (results_none rfl _ _ _) rfl ?_
          exact ⟨⟨_, rfl⟩, .inr ⟨uptoE ys (k + 1), uptoE_pre ys HG.out.2.1, by rw [uptoE_succ]; exact h7.out⟩⟩)
    · obtain rfl : k = ys.length := by omega
      gi_wp2_with fail
      go_end0
      exact ⟨⟨_, rfl⟩, .inl hj⟩
end Go.Proofs.YtdigjklhfimnbaaGreat
