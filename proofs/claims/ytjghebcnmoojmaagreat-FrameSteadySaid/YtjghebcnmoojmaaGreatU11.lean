/- The program's walk over echoes: each with the one ahead of it, through an atomic pointer of its own. No conditions but on lengths. Which echoes are right: the program's areRight, isEpoch, Check. No conditions but on lengths. The echoes of others: the program's others. No conditions but on lengths. -/
import Derived.Test.YtjghebcnmoojmaaGreatU10
import Derived.Shelf.RegionOpen
import Derived.LoopIn
import Derived.OwnWalkIn
import Derived.TacticsInMore
namespace Go.Proofs.YtjghebcnmoojmaaGreat
set_option maxRecDepth 100000
open Go.RowKit

def prevE (ys : List (Int × Int)) : Nat → Int × Int
 | 0 => (-1, 0)
 | k + 1 => ys.getD k (0, 0)
def prE (ys : List (Int × Int)) (k : Nat) : (Int × Int) × (Int × Int) := (prevE ys k, ys.getD k (0, 0))
def uptoE (ys : List (Int × Int)) (k : Nat) : List ((Int × Int) × (Int × Int)) := (List.range k).map (prE ys)
theorem uptoE_succ (ys : List (Int × Int)) (k : Nat) : uptoE ys (k + 1) = uptoE ys k ++ [prE ys k] := by simp [uptoE, List.range_succ]
theorem uptoE_len (ys : List (Int × Int)) (k : Nat) : (uptoE ys k).length = k := by simp [uptoE]
theorem uptoE_pre (ys : List (Int × Int)) {k n : Nat} (h : k ≤ n) : uptoE ys k <+: uptoE ys n := by
 obtain ⟨m, rfl⟩ := Nat.exists_eq_add_of_le h
 refine ⟨((List.range' k m).map (prE ys)), ?_⟩
 rw [uptoE, uptoE, ← List.map_append]
 congr 1
 rw [List.range_eq_range', List.range_eq_range', ← List.range'_append (s := 0) (m := k) (n := m) (step := 1)]
 simp
theorem uptoE_at {ys : List (Int × Int)} {pre : List ((Int × Int) × (Int × Int))} {x : (Int × Int) × (Int × Int)} {n : Nat} (h : (pre ++ [x]) <+: uptoE ys n) : pre.length < n ∧ x = prE ys pre.length ∧ pre = uptoE ys pre.length := by
 have h1 := h.length_le
 rw [uptoE_len, List.length_append, List.length_singleton] at h1
 have h2 : (pre ++ [x]) = uptoE ys (pre.length + 1) := by
  have h3 := uptoE_pre ys h1
  rw [List.prefix_iff_eq_take] at h h3
  rw [h, h3]
  simp [uptoE_len]
 rw [uptoE_succ] at h2
 have h4 := List.append_inj h2 (by rw [uptoE_len])
 exact ⟨h1, by simpa using h4.2, h4.1⟩
def encE (x : (Int × Int) × (Int × Int)) : Array Value := #[.agg #[.int .i64 x.1.1, .int .i64 x.1.2], .agg #[.int .i64 x.2.1, .int .i64 x.2.2]]
theorem inturn25 (v : Value) (ys : List (Int × Int)) (w : World) (hv : Es w v ys) :
  Calls Tryz.prog 101 #[v] w fun e w' => e = .returned (.func (.func 123) #[] #[.pointer (some ⟨w.heap.size, 0, none⟩)]) ∧ w' = w.alloc (.cells #[v] 40) := by
 obtain ⟨a, c, rfl⟩ := hv.form
 clear hv
 go_enter Tryz.func101, Tryz.ntmps101
 go_wp2
 go_ret
 exact ⟨rfl, rfl⟩
theorem wideC {P : Program} {n m : Nat} {f : FuncId} {args : Array Value} {w : World} {R : Ending → World → Prop} (h : Calls P f args w R) :
  Fence.wide.fn f ∧ (Fence.wide.depth.isSome = true → 1 ≤ n) ∧ CallsIn Fence.wide m P f args w R := ⟨trivial, fun h => (by cases h), callsIn_wide.2 h⟩
theorem grownBy_drew (W : World) : W.grownBy W.drew none := ⟨rfl, rfl, rfl, Nat.le_refl _, fun _ _ _ => rfl⟩
def EcC (w : World) (b o : Nat) (y : Int × Int) : Prop := (w.cell? ⟨b, o, none⟩ = some (.int .i64 y.1) ∧ w.cell? ⟨b, o + 1, none⟩ = some (.int .i64 y.2)) ∧ Pts w ⟨b, o, none⟩
theorem EcC.low {w w' : World} {b o : Nat} {y : Int × Int} (h : EcC w b o y) (hb : w'.heap[b]? = w.heap[b]?) : EcC w' b o y :=
 ⟨⟨(World.cell?_of_block (a := ⟨b, o, none⟩) hb).trans h.1.1, (World.cell?_of_block (a := ⟨b, o + 1, none⟩) hb).trans h.1.2⟩, Pts.low (a := ⟨b, o, none⟩) h.2 hb⟩
theorem EcC.lt {w : World} {b o : Nat} {y : Int × Int} (h : EcC w b o y) : b < w.heap.size := World.block_lt_of_cell? w _ h.1.1
theorem El.ec {w : World} {a : Option Addr} {c : Nat} {ys : List (Int × Int)} (h : El w (.slice a ys.length c) ys) {i : Nat} (hi : i < ys.length) : ∃ b off, a = some ⟨b, off, none⟩ ∧ b < w.heap.size ∧ EcC w b (off + i * 2) (ys.getD i (0, 0)) := by
 obtain ⟨b, off, rfl, hb, h1, h2⟩ := h.1.at hi
 exact ⟨b, off, rfl, hb, ⟨h1, h2⟩, h.2 b off _ c rfl i hi⟩
set_option maxHeartbeats 8000000 in
theorem iter36 (n : Nat) (We w : World) (Bl : Nat) (a : Option Addr) (c : Nat) (ys : List (Int × Int)) (hE : El We (.slice a ys.length c) ys) (hWe : Below We.heap.size We w) (hl : ys.length ≤ 3000)
  (hBl : w.cell? ⟨Bl, 0, none⟩ = some (.slice a ys.length c)) :
  SeqV Fence.wide n Tryz.prog 123 #[.pointer (some ⟨Bl, 0, none⟩)] encE We.heap.size Bl (Bl + 1) 2 (uptoE ys ys.length) w := by
 intro l J Jx W hW hJ hJx hY h0
 have hm : Tryz.prog.follows .mixedOrders = true := by kernel_rfl
 have hBlt := World.block_lt_of_cell? w _ hBl
 have hWW := hWe.trans (hW.mono hWe.size)
 have hcB : W.cell? ⟨Bl, 0, none⟩ = some (.slice a ys.length c) := (hW.cell (p := ⟨Bl, 0, none⟩) hBlt).trans hBl
 obtain ⟨S, hS⟩ : ∃ S, W.heap.size = S := ⟨_, rfl⟩
 have hBS : Bl < S := by have := hW.size; rw [← hS]; exact Nat.lt_of_lt_of_le hBlt this
 have hn0 : We.heap.size ≤ S := by rw [← hS]; exact hWW.size
 rw [hS] at hJ hJx hY
 obtain ⟨W1, hW1⟩ : ∃ W1, W1 = W.alloc (.cells #[.pointer none] 175) := ⟨_, rfl⟩
 obtain ⟨W2, hW2⟩ : ∃ W2, W2 = W1.alloc (.cells #[.int .i64 (-1), .int .i64 0] 113) := ⟨_, rfl⟩
 have hs1 : W1.heap.size = S + 1 := by rw [hW1]; simp [hS]
 have hs2 : W2.heap.size = S + 2 := by rw [hW2]; simp [hs1]
 have hJ1 : J [] W1 := by rw [hW1]; exact hJ.alloc _ h0
 have hJ2 : J [] W2 := by rw [hW2]; exact hJ.alloc _ hJ1
 have hc0 : W2.cell? ⟨S, 0, none⟩ = some (.pointer none) := by rw [hW2, hW1, ← hS]; simp
 have hf0 : W2.frozen? ⟨S, 0, none⟩ = false := by rw [hW2, hW1, ← hS]; simp
 have hE2 : EcC W2 (S + 1) 0 (-1, 0) := by
  rw [hW2]
  exact ⟨⟨by rw [← hs1]; simp, by rw [← hs1]; simp⟩, pts_new W1 (-1) 0 (S + 1) hs1.symm⟩
 have hb2 : Below S W W2 := by rw [hW2, hW1]; exact ((Below.refl S W).alloc (by omega) _).alloc (by simp; omega) _
 have cs := store37 S none ⟨S + 1, 0, none⟩ W2 hc0 hf0 hE2.2
 obtain ⟨W3, hW3⟩ : ∃ W3, W3 = W2.setCell ⟨S, 0, none⟩ (.pointer (some ⟨S + 1, 0, none⟩)) := ⟨_, rfl⟩
 have hg3 : W2.grownBy W3 (some S) := by rw [hW3]; exact grownBy_setCell' W2 S _
 have hJ3 : J [] W3 := hJ _ _ _ _ hJ2 hg3 (fun r e => by cases e; omega)
 have hc3 : W3.cell? ⟨S, 0, none⟩ = some (.pointer (some ⟨S + 1, 0, none⟩)) := by rw [hW3]; exact World.cell?_setCell_same' _ _ _ (by rw [hc0]; rfl)
 have hf3 : W3.frozen? ⟨S, 0, none⟩ = false := by rw [hW3, World.frozen?_setCell]; exact hf0
 have hE3 : EcC W3 (S + 1) 0 (-1, 0) := hE2.low (hg3.block _ (by omega) (by simp))
 have hb3 : Below S W W3 := by rw [hW3]; exact hb2.setCell (p := ⟨S, 0, none⟩) (Nat.le_refl _) _
 have hs3 : W3.heap.size = S + 2 := by rw [hW3]; simp [hs2]
 rw [← hW3] at cs
 clear hJ1 hJ2 hc0 hf0 hE2 hb2 hg3 h0
 have HX := Lib.hid (And.intro hJ3 (And.intro hc3 (And.intro hf3 (And.intro hE3 (And.intro hb3 hs3)))))
 have HJ := Lib.hid hJ
 have HY := Lib.hid hY
 have HE := Lib.hid hE
 have HWW := Lib.hid hWW
 have HcB := Lib.hid hcB
 clear hJ3 hc3 hf3 hE3 hb3 hs3 hJ hY hJx hE hWe hW hBl hBlt hcB hWW
 refine callsIn_of_wp Tryz.func123 rfl trivial ?_ rfl
 simp only [Tryz.ntmps123, List.size_toArray, List.length_cons, List.length_nil, Nat.reduceAdd, Nat.reduceSub, Array.replicate_succ, Array.replicate_zero, List.push_toArray, List.append_toArray, List.nil_append, List.cons_append]
 gi_wp2_with fail
 rw [← hW1, ← hW2]
 refine wideC (cs.mono ?_)
 rintro e V3 ⟨rfl, rfl⟩
 clear cs
 have hcB3 : V3.cell? ⟨Bl, 0, none⟩ = some (.slice a ys.length c) := (HX.out.2.2.2.2.1.cell (p := ⟨Bl, 0, none⟩) hBS).trans HcB.out
 clear hW3 hW2 hW1 hs1 hs2
 gi_wp2_with fail
 clear hcB3
 gi_loopw [11] (fun i wr => ∃ (k ab ao : Nat), k ≤ ys.length ∧ i = .int .i64 k ∧ J (uptoE ys k) wr ∧ wr.cell? ⟨S, 0, none⟩ = some (.pointer (some ⟨ab, ao, none⟩)) ∧ wr.frozen? ⟨S, 0, none⟩ = false ∧ EcC wr ab ao (prevE ys k) ∧ (ab < We.heap.size ∨ ab = S + 1) ∧ S + 2 ≤ wr.heap.size ∧ wr.heap[Bl]? = W.heap[Bl]? ∧ Below We.heap.size We wr) (fun i _ => ys.length - (intOf i).toNat)
 case atStart =>
  obtain ⟨h1, h2, h3, h4, h5, h6⟩ := HX.out
  exact ⟨0, S + 1, 0, Nat.zero_le _, rfl, h1, h2, h3, h4, .inr rfl, Nat.le_of_eq h6.symm, h5.block Bl hBS, HWW.out.trans (h5.mono hn0)⟩
 case round =>
  obtain ⟨k, ab, ao, hk, rfl, hj, hc, hf, hp, hab, hsz, hbl, hbel⟩ := hrel
  clear HX
  have hcB : wr.cell? ⟨Bl, 0, none⟩ = some (.slice a ys.length c) := (World.cell?_of_block (a := ⟨Bl, 0, none⟩) hbl).trans HcB.out
  by_cases hlt : k < ys.length
  ·obtain ⟨b, off, rfl, hb0, _⟩ := HE.out.ec hlt
   obtain ⟨b', off', e, hb, hec⟩ := (HE.out.below hbel).ec hlt
   simp only [Option.some.injEq, Addr.mk.injEq, and_true] at e
   obtain ⟨rfl, rfl⟩ := e
   have habS : ab ≠ S := by rcases hab with h | h <;> omega
   have csw := swap38 S ⟨ab, ao, none⟩ ⟨b, off + k * 2, none⟩ wr hc hf hec.2 hp.2 habS
   obtain ⟨W5, hW5⟩ : ∃ W5, W5 = wr.setCell ⟨S, 0, none⟩ (.pointer (some ⟨b, off + k * 2, none⟩)) := ⟨_, rfl⟩
   rw [← hW5] at csw
   have hg5 : wr.grownBy W5 (some S) := by rw [hW5]; exact grownBy_setCell' wr S _
   have hj5 : J (uptoE ys k) W5 := HJ.out _ _ _ _ hj hg5 (fun r e => by cases e; omega)
   have hc5 : W5.cell? ⟨S, 0, none⟩ = some (.pointer (some ⟨b, off + k * 2, none⟩)) := by rw [hW5]; exact World.cell?_setCell_same' _ _ _ (by rw [hc]; rfl)
   have hf5 : W5.frozen? ⟨S, 0, none⟩ = false := by rw [hW5, World.frozen?_setCell]; exact hf
   have hs5 : S + 2 ≤ W5.heap.size := by rw [hW5]; simpa using hsz
   have hp5 : EcC W5 ab ao (prevE ys k) := hp.low (hg5.block _ hp.lt (by simpa using habS))
   have he5 : EcC W5 b (off + k * 2) (ys.getD k (0, 0)) := hec.low (hg5.block _ hec.lt (by simp; omega))
   have hbl5 : W5.heap[Bl]? = W.heap[Bl]? := (hg5.block _ (by omega) (by simp; omega)).trans hbl
   have hbel5 : Below We.heap.size We W5 := hbel.trans ((Below.refl _ wr).grown hg5 hbel.size (fun k e => by cases e; omega))
   have hjd : J (uptoE ys k) W5.drew := HJ.out _ _ _ _ hj5 (grownBy_drew W5) (fun r e => by cases e)
   obtain ⟨fn, tmps, assign, body, hy, hR⟩ := HY.out (uptoE ys k) (prE ys k) W5.drew hjd hs5 (by rw [← uptoE_succ]; exact uptoE_pre ys hlt)
   have CL := Lib.hid (load39 S ⟨b, off + k * 2, none⟩ W5.drew hc5 he5.2)
   obtain ⟨⟨x1, x2⟩, hx⟩ : ∃ x, prevE ys k = x := ⟨_, rfl⟩
   obtain ⟨⟨y1, y2⟩, hyk⟩ : ∃ y, ys.getD k (0, 0) = y := ⟨_, rfl⟩
   obtain ⟨⟨p1, p2⟩, _⟩ := hp5
   obtain ⟨⟨q1, q2⟩, hq3⟩ := he5
   simp only [prE, encE, hx, hyk] at hy p1 p2 q1 q2
   have HX5 := Lib.hid (And.intro hc5 (And.intro hf5 (And.intro hs5 (And.intro hbl5 (And.intro hbel5 hq3)))))
   have HY5 := Lib.hid hyk
   have HG := Lib.hid (And.intro hb0 (And.intro hlt hj5))
   have hq0 : (0 : Int) ≤ (k : Int) := by omega
   have hq1 : (k : Int) < (ys.length : Int) := by omega
   clear hj hf hp hab hsz hbl hbel hec hg5 hj5 hc5 hf5 hs5 hbl5 hbel5 hjd hx hyk hq3 HcB hb hb0
   gi_wp2_with fail
   refine wideC (csw.mono ?_)
   rintro e V5 ⟨rfl, rfl⟩
   clear csw hcB hc hW5
   gi_wp2_with fail
   have WC := fun (m' n' : Nat) (R : Ending → World → Prop) (h : ∀ e w', (e = .returned (.pointer (some ⟨b, off + k * 2, none⟩)) ∧ V5.drew = w') → R e w') => wideC (n := n') (m := m') (CL.out.mono (R' := R) h)
   clear CL
   gi_region_with_o (first | (refine WC _ _ _ ?_; rintro e w' ⟨rfl, rfl⟩) | (refine ⟨fun h => (by cases h), hR.mono ?_⟩; rintro e W7 ⟨q, rfl, hq⟩))
   all_goals
    (cases q with
    | true =>
     have h7 := Lib.hid (hq.1 rfl)
     clear hq
     gi_wp2_with fail
     go_roundw
     case rel =>
      obtain ⟨j7, kb7, ks7, b7⟩ := h7.out
      obtain ⟨c5, f5, s5, l5, w5, t5⟩ := HX5.out
      refine ⟨k + 1, b, off + k * 2, by omega, by go_num, by rw [uptoE_succ]; exact j7, (ks7.cell (Nat.le_refl _) (by omega) (by show S < V5.heap.size; omega)).trans c5, (ks7.frozen (Nat.le_refl _) (by omega) (by show S < V5.heap.size; omega)).trans f5, ?_, .inl HG.out.1, Nat.le_trans s5 ks7.size, (kb7.same Bl (Nat.le_refl _) (by omega) (by show Bl < V5.heap.size; omega)).trans l5, w5.drew.trans b7⟩
      have e7 : EcC V5 b (off + k * 2) (prevE ys (k + 1)) := by rw [show prevE ys (k + 1) = ys.getD k (0, 0) from rfl, HY5.out]; exact ⟨⟨q1, q2⟩, t5⟩
      exact e7.low (b7.block b HG.out.1)
     case measure => simp [intOf]; omega
    | false =>
     have h7 := Lib.hid (hq.2 rfl)
     clear hq
     gi_wp2_with fail
     refine bodyPost_ret (results_none rfl _ _ _) rfl ?_
     exact ⟨⟨_, rfl⟩, .inr ⟨uptoE ys (k + 1), uptoE_pre ys HG.out.2.1, by rw [uptoE_succ]; exact h7.out⟩⟩)
  ·obtain rfl : k = ys.length := by omega
   gi_wp2_with fail
   go_end0
   exact ⟨⟨_, rfl⟩, .inl hj⟩
end Go.Proofs.YtjghebcnmoojmaaGreat

namespace Go.Proofs.YtjghebcnmoojmaaGreat
set_option maxRecDepth 100000
open Go.RowKit
attribute [local go_sem] Oper.semAt_some

theorem wideC' {P : Program} {m : Nat} {f : FuncId} {args : Array Value} {w : World} {R : Ending → World → Prop} (h : Calls P f args w R) :
  Fence.wide.fn f ∧ CallsIn Fence.wide m P f args w R := ⟨trivial, callsIn_wide.2 h⟩
theorem wideR' {P : Program} {m l : Nat} {f : FuncId} {args : Array Value} {w : World} {R : Ending → World → Prop} (h : Calls P f args w R) :
  (Fence.wide.inRound l).fn f ∧ CallsIn (Fence.wide.inRound l) m P f args w R := ⟨trivial, CallsIn.inRound l (callsIn_wide.2 h)⟩
theorem abK_and {β : Type} {D E : Nat} {I I' : β → World → Prop} (h : AbK D E I) (h' : AbK D E I') : AbK D E (fun s W => I s W ∧ I' s W) :=
 fun s W W' row hs hg hr => ⟨h s W W' row hs.1 hg hr, h' s W W' row hs.2 hg hr⟩
theorem abK_pure {β : Type} {D E : Nat} (p : β → Prop) : AbK D E (fun s (_ : World) => p s) := fun _ _ _ _ hs _ _ => hs
theorem abK_boxed {β : Type} {D E B : Nat} {t : TypeId} (hB : B < D) (f : β → Value) : AbK D E (fun s W => Boxed W B t (f s)) :=
 fun _ _ _ _ hs hg hr => hs.kept hg (fun e => by have := hr B e.symm; omega)
theorem abK_below {β : Type} {D E n : Nat} {w : World} (hn : n ≤ D) (hw : n ≤ w.heap.size) : AbK D E (fun (_ : β) W => Below n w W) :=
 fun _ _ _ _ hs hg hr => hs.grown hg (Nat.le_trans hw hs.size) (fun k e => by have := hr k e; omega)
def PrOk (x : (Int × Int) × (Int × Int)) : Prop := x.1.1 < x.2.1 ∧ x.2.1 < 64 ∧ EpOk x.2.2
theorem prok_iff (ys : List (Int × Int)) : (∀ i, i < ys.length → PrOk (prE ys i)) ↔ ∀ i, i < ys.length → EcAt ys i := by
 constructor
 ·intro h i
  induction i with
  | zero => intro hi; have := h 0 hi; have h3 : (-1 : Int) < (ys.getD 0 (0, 0)).1 := this.1; exact ⟨⟨by omega, this.2.1⟩, fun h0 => absurd h0 (by decide), this.2.2⟩
  | succ i ih =>
   intro hi
   have h1 := ih (by omega)
   have h2 := h (i + 1) hi
   unfold PrOk prE prevE at h2
   simp only at h2
   exact ⟨⟨by have := h1.1.1; omega, h2.2.1⟩, fun _ => by rw [Nat.add_sub_cancel]; exact h2.1, h2.2.2⟩
 ·intro h i hi
  have h1 := h i hi
  unfold PrOk prE
  cases i with
  | zero => exact ⟨by have h3 : (0 : Int) ≤ (ys.getD 0 (0, 0)).1 := h1.1.1; show (-1 : Int) < (ys.getD 0 (0, 0)).1; omega, h1.1.2, h1.2.2⟩
  | succ i => exact ⟨by have := h1.2.1 (by omega); rw [Nat.add_sub_cancel] at this; exact this, h1.1.2, h1.2.2⟩
theorem isep_fix (n : Int) (q : Bool) (hq : q = true ↔ EpOk n) (w : World) : Calls Tryz.prog 121 #[.int .i64 n] w fun e w' => e = .returned (.bool q) ∧ w = w' := by
 unfold EpOk at hq
 by_cases h1 : 0 ≤ n
 ·by_cases h2 : n ≤ 4294967295
  ·obtain rfl : q = true := hq.2 ⟨h1, h2⟩
   clear hq
   go_enter Tryz.func121, Tryz.ntmps121
   go_wp2
   go_ret
   exact ⟨rfl, rfl⟩
  ·obtain rfl : q = false := by cases q with
    | false => rfl
    | true => exact absurd (hq.1 rfl).2 h2
   clear hq
   go_enter Tryz.func121, Tryz.ntmps121
   go_wp2
   go_ret
   exact ⟨rfl, rfl⟩
 ·obtain rfl : q = false := by cases q with
   | false => rfl
   | true => exact absurd (hq.1 rfl).1 h1
  clear hq
  go_enter Tryz.func121, Tryz.ntmps121
  go_wp2
  go_ret
  exact ⟨rfl, rfl⟩
theorem two_new {W W2 : World} {r : Nat} (x1 x2 y1 y2 : Int) (hg : ((W.alloc (.cells #[.int .i64 x1, .int .i64 x2] 113)).alloc (.cells #[.int .i64 y1, .int .i64 y2] 113)).grownBy W2 (some r)) (hr : r < W.heap.size) :
  (W2.cell? ⟨W.heap.size, 0, none⟩ = some (.int .i64 x1) ∧ W2.cell? ⟨W.heap.size, 1, none⟩ = some (.int .i64 x2)) ∧ (W2.cell? ⟨W.heap.size + 1, 0, none⟩ = some (.int .i64 y1) ∧ W2.cell? ⟨W.heap.size + 1, 1, none⟩ = some (.int .i64 y2)) ∧ W.heap.size + 2 ≤ W2.heap.size := by
 have h1 := hg.block W.heap.size (by simp; omega) (by simp; omega)
 have h2 := hg.block (W.heap.size + 1) (by simp) (by simp; omega)
 refine ⟨⟨?_, ?_⟩, ⟨?_, ?_⟩, by simpa using hg.size⟩
 ·rw [World.cell?_of_block (a := ⟨W.heap.size, 0, none⟩) h1]; simp
 ·rw [World.cell?_of_block (a := ⟨W.heap.size, 1, none⟩) h1]; simp
 ·rw [World.cell?_of_block (a := ⟨W.heap.size + 1, 0, none⟩) h2]; simp
 ·rw [World.cell?_of_block (a := ⟨W.heap.size + 1, 1, none⟩) h2]; simp
theorem one_new {W W2 : World} {r : Nat} (y1 y2 : Int) (hg : (W.alloc (.cells #[.int .i64 y1, .int .i64 y2] 113)).grownBy W2 (some r)) (hr : r < W.heap.size) :
  (W2.cell? ⟨W.heap.size, 0, none⟩ = some (.int .i64 y1) ∧ W2.cell? ⟨W.heap.size, 1, none⟩ = some (.int .i64 y2)) ∧ W.heap.size + 1 ≤ W2.heap.size := by
 have h1 := hg.block W.heap.size (by simp) (by simp; omega)
 refine ⟨⟨?_, ?_⟩, by simpa using hg.size⟩
 ·rw [World.cell?_of_block (a := ⟨W.heap.size, 0, none⟩) h1]; simp
 ·rw [World.cell?_of_block (a := ⟨W.heap.size, 1, none⟩) h1]; simp
def I29 (w : World) (pre : List ((Int × Int) × (Int × Int))) (W : World) : Prop := Boxed W w.heap.size 4 (.bool false) ∧ (∀ x ∈ pre, PrOk x) ∧ Below w.heap.size w W
def X29 (w : World) (ex : Code) (pre : List ((Int × Int) × (Int × Int))) (W : World) : Prop := Boxed W w.heap.size 4 (.bool false) ∧ (ex = .ret ∧ ∃ x ∈ pre, ¬ PrOk x) ∧ Below w.heap.size w W
theorem postM_cell {P : Program} {n : Nat} {fn : Func} {R : Ending → World → Prop} {D : Nat} {tmps : Array Value} {w : World} {v : Value} (hK : w.heap[D]? = some (.deferred (some []))) (hr : (results fn tmps).run P (w.putObj D (.deferred none)) = .ok v (w.putObj D (.deferred none))) (h : R (.returned v) (w.putObj D (.deferred none))) :
  bodyPostM Fence.wide n P fn R .ret { tmps, defers := [{ target := .collected D, args := #[] }] } w := ⟨by simp, .inl ⟨_, _, rfl, run_takeDeferred hK, _, hr, h⟩⟩
set_option maxHeartbeats 8000000 in
theorem areright_fix (v : Value) (ys : List (Int × Int)) (q : Bool) (hq : q = true ↔ ∀ i, i < ys.length → PrOk (prE ys i)) (w : World) (hE : El w v ys) (hl : ys.length ≤ 3000) :
  Calls Tryz.prog 122 #[v] w fun e w' => e = .returned (.bool q) ∧ Below w.heap.size w w' := by
 obtain ⟨a, c, rfl⟩ := hE.1.form
 obtain ⟨W1, hW1⟩ : ∃ W1, W1 = w.alloc (.cells #[.bool false] 4) := ⟨_, rfl⟩
 have hb1 : Below w.heap.size w W1 := by rw [hW1]; exact (Below.refl _ w).alloc (Nat.le_refl _) _
 have cT := inturn25 _ ys W1 (hE.below hb1).1
 obtain ⟨W2, hW2⟩ : ∃ W2, W2 = W1.alloc (.cells #[.slice a ys.length c] 40) := ⟨_, rfl⟩
 rw [← hW2] at cT
 have hs1 : W1.heap.size = w.heap.size + 1 := by rw [hW1]; simp
 have hs2 : W2.heap.size = w.heap.size + 2 := by rw [hW2]; simp [hs1]
 have bR : Boxed W2 w.heap.size 4 (.bool false) := by rw [hW2, hW1]; exact (Boxed.new w 4 _).alloc _
 have bL : Boxed W2 (w.heap.size + 1) 40 (.slice a ys.length c) := by rw [hW2, ← hs1]; exact Boxed.new W1 40 _
 have hb2 : Below w.heap.size w W2 := by rw [hW2]; exact hb1.alloc (by omega) _
 have SQ := iter36 4 w W2 (w.heap.size + 1) a c ys hE hb2 hl bL.cell
 refine callsIn_wide.1 (callsIn_of_wp_marks (n := 5) Tryz.func122 rfl trivial ?_ rfl)
 simp only [Tryz.ntmps122, List.size_toArray, List.length_cons, List.length_nil, Nat.reduceAdd, Nat.reduceSub, Array.replicate_succ, Array.replicate_zero, List.push_toArray, List.append_toArray, List.nil_append, List.cons_append]
 gi_wp2_with fail
 rw [← hW1]
 rw [hs1] at cT
 refine wideC' (cT.mono ?_)
 rintro e V2 ⟨rfl, rfl⟩
 clear cT hW1 hW2
 gi_wp2_with fail
 refine wpIn_rangeFuncV rfl (by decide) (gf := 123) (lb := #[.pointer (some ⟨w.heap.size + 1, 0, none⟩)]) rfl trivial (enters_of Tryz.func123 (by kernel_rfl) rfl) SQ (Below.refl _ _) (fun _ => rfl)
  (w.heap.size + 2) (w.heap.size + 2 + 2 + 2) hs2 rfl (by omega) (by omega) (by omega)
  (I29 w) (X29 w)
  (abK_and (abK_boxed (by omega) _) (abK_and (abK_pure _) (abK_below (by omega) (Nat.le_refl _))))
  (fun ex => abK_and (abK_boxed (by omega) _) (abK_and (abK_pure _) (abK_below (by omega) (Nat.le_refl _))))
  ⟨bR, fun x h => (by cases h), hb2⟩ ?round ?done ?stop
 case round =>
  rintro l pre ⟨⟨x1, x2⟩, y1, y2⟩ W hI hsz hpre
  have HQ := Lib.hid (And.intro hI (And.intro hsz hpre))
  clear hE hb1 bR bL hb2 SQ hI hpre
  simp [encE]
  gi_wp2_with fail
  refine ⟨(Keep.alloc _ _ _ _).trans (Keep.alloc _ _ _ _), ((Below.refl _ W).alloc (by omega) _).alloc (by simp; omega) _, fun V hg => ?_⟩
  obtain ⟨⟨a0, a1⟩, ⟨e0, e1⟩, hs⟩ := two_new x1 x2 y1 y2 hg (by omega)
  have hbx : Boxed V w.heap.size 4 (.bool false) := ((HQ.out.1.1.alloc _).alloc _).kept hg (by simp; omega)
  have hbw : Below w.heap.size w V := ((HQ.out.1.2.2.alloc (by omega) _).alloc (by simp; omega) _).grown hg (by simp; omega) (fun k e => by cases e; omega)
  obtain ⟨q2, hq2⟩ : ∃ q2 : Bool, q2 = true ↔ EpOk y2 := ⟨decide (EpOk y2), decide_eq_true_iff⟩
  have cI := isep_fix y2 q2 hq2 V
  have HV := Lib.hid (And.intro hbx (And.intro hbw hg))
  have r0 := hbx.cell
  have rf := hbx.frozen
  clear hbx hbw hg
  generalize W.heap.size = g at *
  have NO : ¬ PrOk ((x1, x2), y1, y2) → Keep (w.heap.size + 1) (w.heap.size + 2 + 2 + 2) V (V.setCell ⟨w.heap.size, 0, none⟩ (.bool false)) ∧ X29 w .ret (pre ++ [((x1, x2), y1, y2)]) (V.setCell ⟨w.heap.size, 0, none⟩ (.bool false)) := fun hn =>
   ⟨Keep.setCell V _ _ _ (.inl (Nat.lt_succ_self _)), HV.out.1.set _, ⟨rfl, _, List.mem_append_right _ (List.mem_singleton.2 rfl), hn⟩, HV.out.2.1.setCell (p := ⟨w.heap.size, 0, none⟩) (Nat.le_refl _) _⟩
  have HNO := Lib.hid NO
  clear NO
  by_cases c1 : y1 ≤ x1
  ·have hn : Hid (¬ PrOk ((x1, x2), y1, y2)) := fun h => by have := h.1; simp only at this; omega
   gi_wp2_with (refine ⟨trivial, ?_⟩)
   exact HNO.out hn.out
  ·by_cases c2 : 64 ≤ y1
   ·have hn : Hid (¬ PrOk ((x1, x2), y1, y2)) := fun h => by have := h.2.1; simp only at this; omega
    gi_wp2_with (refine ⟨trivial, ?_⟩)
    exact HNO.out hn.out
   ·have hp : Hid (PrOk ((x1, x2), y1, y2) ↔ EpOk y2) := ⟨fun h => h.2.2, fun h => ⟨by show x1 < y1; omega, by show y1 < 64; omega, h⟩⟩
    have HQ2 := Lib.hid hq2
    clear hq2
    cases q2 with
    | false =>
     gi_wp2_with (refine wideR' (cI.mono ?_); rintro e V' ⟨rfl, rfl⟩)
     exact HNO.out fun h => by cases HQ2.out.2 (hp.out.1 h)
    | true =>
     gi_wp2_with (refine wideR' (cI.mono ?_); rintro e V' ⟨rfl, rfl⟩)
     refine ⟨Keep.refl _ _ _, Below.refl _ _, HV.out.1, fun x hx => ?_, HV.out.2.1⟩
     rcases List.mem_append.1 hx with hx | hx
     ·exact HQ.out.1.2.1 x hx
     ·rw [List.mem_singleton.1 hx]; exact hp.out.2 (by have := HQ2.out; simpa using this)
 case done =>
  rintro W ⟨hB, hP, hbel⟩ hK
  have hc := hB.cell
  have hf := hB.frozen
  gi_wp2_with fail
  have hK2 := (KeepsOthers.setCell W ⟨w.heap.size, 0, none⟩ (.bool true)).same _ _ hK rfl
  have h2 := ((hB.set (.bool true)).kept (grownBy_putObj' _ (w.heap.size + 2) (.deferred none)) (by simp)).cell
  have h3 : Below w.heap.size w ((W.setCell ⟨w.heap.size, 0, none⟩ (.bool true)).putObj (w.heap.size + 2) (.deferred none)) := (hbel.setCell (p := ⟨w.heap.size, 0, none⟩) (Nat.le_refl _) _).grown (grownBy_putObj' _ _ _) (by simp; exact hbel.size) (fun k e => by cases e; omega)
  obtain rfl : q = true := hq.2 fun i hi => hP _ (List.mem_map.2 ⟨i, List.mem_range.2 hi, rfl⟩)
  refine postM_cell hK2 (v := .bool true) ?_ ⟨rfl, h3⟩
  generalize ((W.setCell ⟨w.heap.size, 0, none⟩ (.bool true)).putObj (w.heap.size + 2) (.deferred none)) = W5 at *
  simp [results, Tryz.results122, go_sem, h2]
 case stop =>
  rintro ex pre W hpre ⟨hB, ⟨rfl, hP⟩, hbel⟩ hK
  have h2 := (hB.kept (grownBy_putObj' _ (w.heap.size + 2) (.deferred none)) (by simp)).cell
  have h3 : Below w.heap.size w (W.putObj (w.heap.size + 2) (.deferred none)) := hbel.grown (grownBy_putObj' _ _ _) hbel.size (fun k e => by cases e; omega)
  obtain rfl : q = false := by
   cases q with
   | false => rfl
   | true =>
    obtain ⟨x, hx, hn⟩ := hP
    obtain ⟨i, hi, rfl⟩ := List.mem_map.1 (hpre.subset hx)
    exact absurd (hq.1 rfl i (List.mem_range.1 hi)) hn
  gi_wp2_with fail
  refine postM_cell hK (v := .bool false) ?_ ⟨rfl, h3⟩
  generalize (W.putObj (w.heap.size + 2) (.deferred none)) = W5 at *
  simp [results, Tryz.results122, go_sem, h2]
theorem check_fix6 (M : Int) (v : Value) (ys : List (Int × Int)) (Q : Bool) (hQ : Q = true ↔ BeOk M ys) (w : World) (hE : El w v ys) (hl : ys.length ≤ 3000) :
  Calls Tryz.prog 100 #[.agg #[.int .i64 M, v]] w fun e w' => e = .returned (.int .i64 (if Q then 0 else 1)) ∧ Below w.heap.size w w' := by
 obtain ⟨a, c, rfl⟩ := hE.1.form
 have hb : Below w.heap.size w (w.alloc (.cells #[.int .i64 M, .slice a ys.length c] 42)) := (Below.refl _ w).alloc (Nat.le_refl _) _
 obtain ⟨q1, hq1⟩ : ∃ q1 : Bool, q1 = true ↔ EpOk M := ⟨decide (EpOk M), decide_eq_true_iff⟩
 obtain ⟨q2, hq2⟩ : ∃ q2 : Bool, q2 = true ↔ ∀ i, i < ys.length → PrOk (prE ys i) := by
  by_cases h : ∀ i, i < ys.length → PrOk (prE ys i)
  ·exact ⟨true, ⟨fun _ => h, fun _ => rfl⟩⟩
  ·exact ⟨false, ⟨fun h' => (by cases h'), fun h' => absurd h' h⟩⟩
 have CI := Lib.hid (isep_fix M q1 hq1 (w.alloc (.cells #[.int .i64 M, .slice a ys.length c] 42)))
 have CA := Lib.hid (areright_fix _ ys q2 hq2 (w.alloc (.cells #[.int .i64 M, .slice a ys.length c] 42)) (hE.below hb) hl)
 have hQ2 : Q = (q1 && q2) := by
  have h3 : Q = true ↔ (q1 && q2) = true := by
   rw [hQ, Bool.and_eq_true, hq1, hq2, prok_iff]
   exact and_comm
  cases Q <;> cases h : (q1 && q2) <;> simp_all
 have HB := Lib.hid hb
 clear hq1 hq2 hQ hE hb
 subst hQ2
 cases q1 with
 | false =>
  go_enter Tryz.func100, Tryz.ntmps100
  go_wp2_with (refine CI.out.mono ?_; rintro e w1 ⟨rfl, rfl⟩)
  go_ret
  exact ⟨rfl, HB.out⟩
 | true =>
  cases q2 with
  | false =>
   go_enter Tryz.func100, Tryz.ntmps100
   go_wp2_with fail
   refine CI.out.mono ?_
   rintro e w1 ⟨rfl, rfl⟩
   go_wp2_with fail
   refine CA.out.mono ?_
   rintro e w1 ⟨rfl, hb⟩
   have HB2 := Lib.hid (HB.out.trans (hb.mono HB.out.size))
   clear hb
   go_wp2_with fail
   go_ret
   exact ⟨rfl, HB2.out⟩
  | true =>
   go_enter Tryz.func100, Tryz.ntmps100
   go_wp2_with fail
   refine CI.out.mono ?_
   rintro e w1 ⟨rfl, rfl⟩
   go_wp2_with fail
   refine CA.out.mono ?_
   rintro e w1 ⟨rfl, hb⟩
   have HB2 := Lib.hid (HB.out.trans (hb.mono HB.out.size))
   clear hb
   go_wp2_with fail
   go_ret
   exact ⟨rfl, HB2.out⟩
end Go.Proofs.YtjghebcnmoojmaaGreat

namespace Go.Proofs.YtjghebcnmoojmaaGreat
set_option maxRecDepth 100000
open Go.RowKit
attribute [local go_sem] Oper.semAt_some

theorem app_in {F : Fence} {n : Nat} {P : Program} {ops : Array Oper} {rest : List Oper} {o : Oper} {a : Act} {Q : Exit → Act → World → Prop} {w : World} (hg : o.guard = none) (s x : Operand) (t : TypeId)
  (hop : o.op = Op.call { callee := Callee.builtin Builtin.append, args := #[s, x], argTypes := #[t, t] }) (v u r : Value) (w' : World) (hs : a.eval s = v) (hx : a.eval x = u)
  (hr : (Builtin.append_ #[t, t] o.type #[v, u]).run P w = .ok r w') (h : wpListIn F n P ops Q rest (a.put o.dst r) w') : wpListIn F n P ops Q (o :: rest) a w := by
 refine wpListIn_plain hg fun K hK' => ?_
 unfold Oper.wpIn
 refine ⟨?_, ?_⟩
 ·simp [Oper.about, hop, resolve, Target.leads, Sem.run_pure]
 ·rw [Oper.semAt_plain F _ _ (by rw [hop]; intro c hc'; cases hc')]
  simp [execOp, hop, resolve, invoke, builtin, hs, hx, hr, Result.andThen]
  exact hK' _ _ h
section
variable (R : RowT)
theorem run_gapp2 (w : World) (ty : TypeId) (S : Nat) (v : Value) (xs : List R.α) (hown : w.ownsRow S R.T R.K v xs.length (gflat R xs)) (b : Nat) (y : R.α) (hy : GC R w b 0 y) (hl : xs.length ≤ 3000) (hS : S ≤ w.heap.size) :
  ∃ g cap w', (Builtin.append_ #[R.SL, R.SL] ty #[v, .slice (some ⟨b, 0, none⟩) 1 1]).run Tryz.prog w = .ok (.slice (some ⟨g, 0, none⟩) (xs.length + 1) cap) w' ∧ w'.ownsRow S R.T R.K (.slice (some ⟨g, 0, none⟩) (xs.length + 1) cap) (xs ++ [y]).length (gflat R (xs ++ [y])) ∧ w.grownBy w' v.ownBlock ∧ (v.ownBlock = some g ∨ w.heap.size ≤ g) := by
 obtain ⟨i0, hi, hz0, hz1, hz2⟩ := info_parts R.hinfo
 have hzs := R.hz
 have hbb := R.hb
 have hpos := R.hK
 have e : gflat R (xs ++ [y]) = gflat R xs ++ R.cl y := by rw [gflat_app, gflat_one]
 have e2 : (xs ++ [y]).length = xs.length + 1 := by simp
 have hnews : ∀ j u, (R.cl y)[j]? = some u → w.cell? ((⟨b, 0, none⟩ : Addr).add j) = some u := fun j u hj => by
  have := (List.getElem?_eq_some_iff.1 hj).1
  rw [R.hcl] at this
  rw [add_spot', hy j this]; exact hj
 have hone : ∀ u ∈ R.cl y, u.oneCell' = true := R.hone y
 have hfl := gflat_len R xs
 have hcl1 : (R.cl y).length = 1 * R.K := by rw [R.hcl, Nat.one_mul]
 have hby : (xs.length + 1) * R.bytes ≤ 140737488355328 := Nat.le_trans (Nat.mul_le_mul (show xs.length + 1 ≤ 3001 by omega) hbb) (by decide)
 have new : ∀ {w' : World} {v' : Value} {n : Nat} {zs : List Value}, w'.ownsRow w.heap.size R.T R.K v' (n + 1) zs → ∃ g cap, v' = .slice (some ⟨g, 0, none⟩) (n + 1) cap ∧ w.heap.size ≤ g := fun h => by
  rcases h.2 with ⟨_, h0⟩ | ⟨g, cap, _, rfl, hg, _⟩
  ·omega
  ·exact ⟨g, cap, rfl, hg⟩
 rw [e, e2]
 rcases hown.2 with ⟨rfl, h0⟩ | ⟨g, cap, cur, rfl, hg1, hg2, _⟩
 ·obtain ⟨v', w', hr, h2, h3, _, _⟩ := run_append_own_at (P := Tryz.prog) w w.heap.size R.SL ty R.T i0 R.zero R.K R.bytes R.hSL hi hz0 hz1 hz2 hzs hpos (.slice none 0 0) xs.length (gflat R xs) ⟨hown.1, .inl ⟨rfl, h0⟩⟩ ⟨b, 0, none⟩ 1 1 (R.cl y) hcl1 hnews hone (by unfold maxLen; omega) hby (Nat.le_refl _)
  obtain ⟨g, cap, rfl, hg⟩ := new h2
  exact ⟨g, cap, w', hr, gown_mono h2 hS, h3, .inr hg⟩
 ·by_cases hroom : xs.length + 1 ≤ cap
  ·obtain ⟨w', hr, h2, h3⟩ := run_append_fits (P := Tryz.prog) w S R.SL ty R.T i0 R.K R.hSL hi hz1 g xs.length cap (gflat R xs) hown ⟨b, 0, none⟩ 1 1 (R.cl y) hcl1 hnews hone hroom
   exact ⟨g, cap, w', hr, h2, h3, .inl rfl⟩
  ·obtain ⟨v', w', hr, h2, h3⟩ := run_append_arg_grows (P := Tryz.prog) w R.SL ty R.T i0 R.zero R.K R.bytes R.hSL hi hz0 hz1 hz2 hzs hpos ⟨g, 0, none⟩ xs.length cap (gflat R xs) hfl (hown.cells rfl) ⟨b, 0, none⟩ 1 1 (R.cl y) hcl1 hnews (by omega) (by unfold maxLen; omega) hby
   obtain ⟨g', cap', rfl, hg⟩ := new h2
   exact ⟨g', cap', w', hr, gown_mono h2 hS, ⟨h3.os, h3.tape, h3.output, h3.size, fun k hk _ => h3.block k hk (by simp)⟩, .inr hg⟩
end

def seconds (pre : List ((Int × Int) × (Int × Int))) : List (Int × Int) := pre.map Prod.snd
theorem seconds_upto (ys : List (Int × Int)) : seconds (uptoE ys ys.length) = ys := by
 refine List.ext_getElem (by simp [seconds, uptoE]) fun i h1 h2 => ?_
 simp [seconds, uptoE, prE, List.getD, h2]
theorem seconds_snoc (pre : List ((Int × Int) × (Int × Int))) (x : (Int × Int) × (Int × Int)) : seconds (pre ++ [x]) = seconds pre ++ [x.2] := by simp [seconds]
end Go.Proofs.YtjghebcnmoojmaaGreat
