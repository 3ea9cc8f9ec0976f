/- Texts Are, Pq3, Pq11 of this proof, in one. No conditions but on lengths. -/
import Derived.Test.YtdigjklhfimnbaaGreatU51
import Derived.Test.YtdigjklhfimnbaaGreatRows
import Derived.Test.YtdigjklhfimnbaaGreatU10
import Derived.Test.YtdigjklhfimnbaaGreatU29
import Derived.Test.YtdigjklhfimnbaaGreatU31
import Derived.ArgAppend
import Derived.Below
import Derived.BigQuiet
import Derived.Calls
import Derived.ChangeArms
import Derived.ChangeMade
import Derived.ChangeOld
import Derived.Deep.Cut
import Derived.Deep.CutBlock
import Derived.Deep.QuietTactic
import Derived.Deep.RegionHeld
import Derived.Deep.RegionLaw
import Derived.Deep.RegionWith
import Derived.Deep.Slices
import Derived.Laws.AppendOwnNone
import Derived.Laws.BitsLemmas
import Derived.Laws.BytesArg
import Derived.Laws.LoneSync
import Derived.Laws.OwnMore
import Derived.Laws.StructEq
import Derived.Lib.Hide
import Derived.Lib.QuietBelow
import Derived.Lib.SliceRun
import Derived.LoopIn
import Derived.LoopTactic
import Derived.Maps.AppendAt
import Derived.OpenShut
import Derived.Orders
import Derived.Outline
import Derived.OwnWalkIn
import Derived.ProofKit
import Derived.RangeFuncBox
import Derived.RangeFuncCalls
import Derived.RangeFuncLeaves
import Derived.RangeFuncNested
import Derived.Shelf.RegionOpen
import Derived.Shelf.RegionOpenPlain
import Derived.ShutString
import Derived.StillTail
import Derived.TacticsInMore
import Derived.WalkKit
import Derived.WalkLawsBesides
import Derived.WalkSpells
import Derived.WideShapes
namespace Go.Proofs.YtdigjklhfimnbaaGreat
set_option maxRecDepth 100000
open Go.RowKit
attribute [local go_sem] Oper.semAt_some

theorem wideC' {P : Program} {m : Nat} {f : FuncId} {args : Array Value} {w : World} {R : Ending → World → Prop} (h : Calls P f args w R) :
    Fence.wide.fn f ∧ CallsIn Fence.wide m P f args w R := ⟨trivial, callsIn_wide.2 h⟩
theorem wideR' {P : Program} {m l : Nat} {f : FuncId} {args : Array Value} {w : World} {R : Ending → World → Prop} (h : Calls P f args w R) :
    (Fence.wide.inRound l).fn f ∧ CallsIn (Fence.wide.inRound l) m P f args w R := ⟨trivial, CallsIn.inRound l (callsIn_wide.2 h)⟩
theorem abK_and {β : Type} {D E : Nat} {I I' : β → World → Prop} (h : AbK D E I) (h' : AbK D E I') : AbK D E (fun s W => I s W ∧ I' s W) :=
  fun s W W' row hs hg hr => ⟨h s W W' row hs.1 hg hr, h' s W W' row hs.2 hg hr⟩
theorem abK_pure {β : Type} {D E : Nat} (p : β → Prop) : AbK D E (fun s (_ : World) => p s) := fun _ _ _ _ hs _ _ => hs
theorem abK_boxed {β : Type} {D E B : Nat} {t : TypeId} (hB : B < D) (f : β → Value) : AbK D E (fun s W => Boxed W B t (f s)) :=
  fun _ _ _ _ hs hg hr => hs.kept hg (fun e => by have := hr B e.symm; omega)
theorem abK_below {β : Type} {D E n : Nat} {w : World} (hn : n ≤ D) (hw : n ≤ w.heap.size) : AbK D E (fun (_ : β) W => Below n w W) :=
  fun _ _ _ _ hs hg hr => hs.grown hg (Nat.le_trans hw hs.size) (fun k e => by have := hr k e; omega)
def PrOk (x : (Int × Int) × (Int × Int)) : Prop := x.1.1 < x.2.1 ∧ x.2.1 < 64 ∧ EpOk x.2.2
theorem prok_iff (ys : List (Int × Int)) : (∀ i, i < ys.length → PrOk (prE ys i)) ↔ ∀ i, i < ys.length → EcAt ys i := by
  constructor
  · intro h i
    induction i with
    | zero => intro hi; have := h 0 hi; have h3 : (-1 : Int) < (ys.getD 0 (0, 0)).1 := this.1; exact ⟨⟨by omega, this.2.1⟩, fun h0 => absurd h0 (by decide), this.2.2⟩
    | succ i ih =>
      intro hi
      have h1 := ih (by omega)
      have h2 := h (i + 1) hi
      unfold PrOk prE prevE at h2
      simp only at h2
      exact ⟨⟨by have := h1.1.1; omega, h2.2.1⟩, fun _ => by rw [Nat.add_sub_cancel]; exact h2.1, h2.2.2⟩
  · intro h i hi
    have h1 := h i hi
    unfold PrOk prE
    cases i with
    | zero => exact ⟨by have h3 : (0 : Int) ≤ (ys.getD 0 (0, 0)).1 := h1.1.1; show (-1 : Int) < (ys.getD 0 (0, 0)).1; omega, h1.1.2, h1.2.2⟩
    | succ i => exact ⟨by have := h1.2.1 (by omega); rw [Nat.add_sub_cancel] at this; exact this, h1.1.2, h1.2.2⟩
theorem isep_fix (n : Int) (q : Bool) (hq : q = true ↔ EpOk n) (w : World) : Calls Tryz.prog 118 #[.int .i64 n] w fun e w' => e = .returned (.bool q) ∧ w = w' := by
  unfold EpOk at hq
  by_cases h1 : 0 ≤ n
  · by_cases h2 : n ≤ 4294967295
    · obtain rfl : q = true := hq.2 ⟨h1, h2⟩
      clear hq
      go_enter Tryz.func118, Tryz.ntmps118
      go_wp2
      go_ret
      exact ⟨rfl, rfl⟩
    · obtain rfl : q = false := by cases q with
        | false => rfl
        | true => exact absurd (hq.1 rfl).2 h2
      clear hq
      go_enter Tryz.func118, Tryz.ntmps118
      go_wp2
      go_ret
      exact ⟨rfl, rfl⟩
  · obtain rfl : q = false := by cases q with
      | false => rfl
      | true => exact absurd (hq.1 rfl).1 h1
    clear hq
    go_enter Tryz.func118, Tryz.ntmps118
    go_wp2
    go_ret
    exact ⟨rfl, rfl⟩
/-- What a round's assignments have laid: two new echoes; the record has turned. -/
theorem two_new {W W2 : World} {r : Nat} (x1 x2 y1 y2 : Int) (hg : ((W.alloc (.cells #[.int .i64 x1, .int .i64 x2] 23)).alloc (.cells #[.int .i64 y1, .int .i64 y2] 23)).grownBy W2 (some r)) (hr : r < W.heap.size) :
    (W2.cell? ⟨W.heap.size, 0, none⟩ = some (.int .i64 x1) ∧ W2.cell? ⟨W.heap.size, 1, none⟩ = some (.int .i64 x2)) ∧ (W2.cell? ⟨W.heap.size + 1, 0, none⟩ = some (.int .i64 y1) ∧ W2.cell? ⟨W.heap.size + 1, 1, none⟩ = some (.int .i64 y2)) ∧ W.heap.size + 2 ≤ W2.heap.size := by
  have h1 := hg.block W.heap.size (by simp; omega) (by simp; omega)
  have h2 := hg.block (W.heap.size + 1) (by simp) (by simp; omega)
  refine ⟨⟨?_, ?_⟩, ⟨?_, ?_⟩, by simpa using hg.size⟩
  · rw [World.cell?_of_block (a := ⟨W.heap.size, 0, none⟩) h1]; simp
  · rw [World.cell?_of_block (a := ⟨W.heap.size, 1, none⟩) h1]; simp
  · rw [World.cell?_of_block (a := ⟨W.heap.size + 1, 0, none⟩) h2]; simp
  · rw [World.cell?_of_block (a := ⟨W.heap.size + 1, 1, none⟩) h2]; simp
/-- Between two rounds of areRight; where a round has left. -/
def I29 (w : World) (pre : List ((Int × Int) × (Int × Int))) (W : World) : Prop := Boxed W w.heap.size 4 (.bool false) ∧ (∀ x ∈ pre, PrOk x) ∧ Below w.heap.size w W
def X29 (w : World) (ex : Code) (pre : List ((Int × Int) × (Int × Int))) (W : World) : Prop := Boxed W w.heap.size 4 (.bool false) ∧ (ex = .ret ∧ ∃ x ∈ pre, ¬ PrOk x) ∧ Below w.heap.size w W
theorem postM_cell {P : Program} {n : Nat} {fn : Func} {R : Ending → World → Prop} {D : Nat} {tmps : Array Value} {w : World} {v : Value} (hK : w.heap[D]? = some (.deferred (some []))) (hr : (results fn tmps).run P (w.putObj D (.deferred none)) = .ok v (w.putObj D (.deferred none))) (h : R (.returned v) (w.putObj D (.deferred none))) :
    bodyPostM Fence.wide n P fn R .ret { tmps, defers := [{ target := .collected D, args := #[] }] } w := ⟨by simp, .inl ⟨_, _, rfl, run_takeDeferred hK, _, hr, h⟩⟩
set_option maxHeartbeats 8000000 in
theorem areright_fix (v : Value) (ys : List (Int × Int)) (q : Bool) (hq : q = true ↔ ∀ i, i < ys.length → PrOk (prE ys i)) (w : World) (hE : El w v ys) (hl : ys.length ≤ 3000) :
    Calls Tryz.prog 119 #[v] w fun e w' => e = .returned (.bool q) ∧ Below w.heap.size w w' := by
  obtain ⟨a, c, rfl⟩ := hE.1.form
  obtain ⟨W1, hW1⟩ : ∃ W1, W1 = w.alloc (.cells #[.bool false] 4) := ⟨_, rfl⟩
  have hb1 : Below w.heap.size w W1 := by rw [hW1]; exact (Below.refl _ w).alloc (Nat.le_refl _) _
  have cT := inturn25 _ ys W1 (hE.below hb1).1
  obtain ⟨W2, hW2⟩ : ∃ W2, W2 = W1.alloc (.cells #[.slice a ys.length c] 78) := ⟨_, rfl⟩
  rw [← hW2] at cT
  have hs1 : W1.heap.size = w.heap.size + 1 := by rw [hW1]; simp
  have hs2 : W2.heap.size = w.heap.size + 2 := by rw [hW2]; simp [hs1]
  have bR : Boxed W2 w.heap.size 4 (.bool false) := by rw [hW2, hW1]; exact (Boxed.new w 4 _).alloc _
  have bL : Boxed W2 (w.heap.size + 1) 78 (.slice a ys.length c) := by rw [hW2, ← hs1]; exact Boxed.new W1 78 _
  have hb2 : Below w.heap.size w W2 := by rw [hW2]; exact hb1.alloc (by omega) _
  have SQ := iter36 4 w W2 (w.heap.size + 1) a c ys hE hb2 hl bL.cell
  refine callsIn_wide.1 (callsIn_of_wp_marks (n := 5) Tryz.func119 rfl trivial ?_ rfl)
  simp only [Tryz.ntmps119, List.size_toArray, List.length_cons, List.length_nil, Nat.reduceAdd, Nat.reduceSub, Array.replicate_succ, Array.replicate_zero, List.push_toArray, List.append_toArray, List.nil_append, List.cons_append]
  gi_wp2_with fail
  rw [← hW1]
  rw [hs1] at cT
  refine wideC' (cT.mono ?_)
  rintro e V2 ⟨rfl, rfl⟩
  clear cT hW1 hW2
  gi_wp2_with fail
  refine wpIn_rangeFuncV rfl (by decide) (gf := 199) (lb := #[.pointer (some ⟨w.heap.size + 1, 0, none⟩)]) rfl trivial (enters_of Tryz.func199 (by kernel_rfl) rfl) SQ (Below.refl _ _) (fun _ => rfl)
    (w.heap.size + 2) (w.heap.size + 2 + 2 + 2) hs2 rfl (by omega) (by omega) (by omega)
    (I29 w) (X29 w)
    (abK_and (abK_boxed (by omega) _) (abK_and (abK_pure _) (abK_below (by omega) (Nat.le_refl _))))
    (fun ex => abK_and (abK_boxed (by omega) _) (abK_and (abK_pure _) (abK_below (by omega) (Nat.le_refl _))))
    ⟨bR, fun x h => (by cases h), hb2⟩ ?round ?done ?stop
  case round =>
    rintro l pre ⟨⟨x1, x2⟩, y1, y2⟩ W hI hsz hpre
    have HQ := Lib.hid (And.intro hI (And.intro hsz hpre))
    clear hE hb1 bR bL hb2 SQ hI hpre
    simp [encE]
    gi_wp2_with fail
    refine ⟨(Keep.alloc _ _ _ _).trans (Keep.alloc _ _ _ _), ((Below.refl _ W).alloc (by omega) _).alloc (by simp; omega) _, fun V hg => ?_⟩
    obtain ⟨⟨a0, a1⟩, ⟨e0, e1⟩, hs⟩ := two_new x1 x2 y1 y2 hg (by omega)
    have hbx : Boxed V w.heap.size 4 (.bool false) := ((HQ.out.1.1.alloc _).alloc _).kept hg (by simp; omega)
    have hbw : Below w.heap.size w V := ((HQ.out.1.2.2.alloc (by omega) _).alloc (by simp; omega) _).grown hg (by simp; omega) (fun k e => by cases e; omega)
    obtain ⟨q2, hq2⟩ : ∃ q2 : Bool, q2 = true ↔ EpOk y2 := ⟨decide (EpOk y2), decide_eq_true_iff⟩
    have cI := isep_fix y2 q2 hq2 V
    have HV := Lib.hid (And.intro hbx (And.intro hbw hg))
    have r0 := hbx.cell
    have rf := hbx.frozen
    clear hbx hbw hg
    generalize W.heap.size = g at *
    have NO : ¬ PrOk ((x1, x2), y1, y2) → Keep (w.heap.size + 1) (w.heap.size + 2 + 2 + 2) V (V.setCell ⟨w.heap.size, 0, none⟩ (.bool false)) ∧ X29 w .ret (pre ++ [((x1, x2), y1, y2)]) (V.setCell ⟨w.heap.size, 0, none⟩ (.bool false)) := fun hn =>
      ⟨Keep.setCell V _ _ _ (.inl (Nat.lt_succ_self _)), HV.out.1.set _, ⟨rfl, _, List.mem_append_right _ (List.mem_singleton.2 rfl), hn⟩, HV.out.2.1.setCell (p := ⟨w.heap.size, 0, none⟩) (Nat.le_refl _) _⟩
    have HNO := Lib.hid NO
    clear NO
    by_cases c1 : y1 ≤ x1
    · have hn : Hid (¬ PrOk ((x1, x2), y1, y2)) := fun h => by have := h.1; simp only at this; omega
      gi_wp2_with (refine ⟨trivial, ?_⟩)
      exact HNO.out hn.out
    · by_cases c2 : 64 ≤ y1
      · have hn : Hid (¬ PrOk ((x1, x2), y1, y2)) := fun h => by have := h.2.1; simp only at this; omega
        gi_wp2_with (refine ⟨trivial, ?_⟩)
        exact HNO.out hn.out
      · have hp : Hid (PrOk ((x1, x2), y1, y2) ↔ EpOk y2) := ⟨fun h => h.2.2, fun h => ⟨by show x1 < y1; omega, by show y1 < 64; omega, h⟩⟩
        have HQ2 := Lib.hid hq2
        clear hq2
        cases q2 with
        | false =>
          gi_wp2_with (refine wideR' (cI.mono ?_); rintro e V' ⟨rfl, rfl⟩)
          exact HNO.out fun h => by cases HQ2.out.2 (hp.out.1 h)
        | true =>
          gi_wp2_with (refine wideR' (cI.mono ?_); rintro e V' ⟨rfl, rfl⟩)
          refine ⟨Keep.refl _ _ _, Below.refl _ _, HV.out.1, fun x hx => ?_, HV.out.2.1⟩
          rcases List.mem_append.1 hx with hx | hx
          · exact HQ.out.1.2.1 x hx
          · rw [List.mem_singleton.1 hx]; exact hp.out.2 (by have := HQ2.out; simpa using this)
  case done =>
    rintro W ⟨hB, hP, hbel⟩ hK
    have hc := hB.cell
    have hf := hB.frozen
    gi_wp2_with fail
    have hK2 := (KeepsOthers.setCell W ⟨w.heap.size, 0, none⟩ (.bool true)).same _ _ hK rfl
    have h2 := ((hB.set (.bool true)).kept (grownBy_putObj' _ (w.heap.size + 2) (.deferred none)) (by simp)).cell
    have h3 : Below w.heap.size w ((W.setCell ⟨w.heap.size, 0, none⟩ (.bool true)).putObj (w.heap.size + 2) (.deferred none)) := (hbel.setCell (p := ⟨w.heap.size, 0, none⟩) (Nat.le_refl _) _).grown (grownBy_putObj' _ _ _) (by simp; exact hbel.size) (fun k e => by cases e; omega)
    obtain rfl : q = true := hq.2 fun i hi => hP _ (List.mem_map.2 ⟨i, List.mem_range.2 hi, rfl⟩)
    refine postM_cell hK2 (v := .bool true) ?_ ⟨rfl, h3⟩
    generalize ((W.setCell ⟨w.heap.size, 0, none⟩ (.bool true)).putObj (w.heap.size + 2) (.deferred none)) = W5 at *
    simp [results, Tryz.results119, go_sem, h2]
  case stop =>
    rintro ex pre W hpre ⟨hB, ⟨rfl, hP⟩, hbel⟩ hK
    have h2 := (hB.kept (grownBy_putObj' _ (w.heap.size + 2) (.deferred none)) (by simp)).cell
    have h3 : Below w.heap.size w (W.putObj (w.heap.size + 2) (.deferred none)) := hbel.grown (grownBy_putObj' _ _ _) hbel.size (fun k e => by cases e; omega)
    obtain rfl : q = false := by
      cases q with
      | false => rfl
      | true =>
        obtain ⟨x, hx, hn⟩ := hP
        obtain ⟨i, hi, rfl⟩ := List.mem_map.1 (hpre.subset hx)
        exact absurd (hq.1 rfl i (List.mem_range.1 hi)) hn
    gi_wp2_with fail
    refine postM_cell hK (v := .bool false) ?_ ⟨rfl, h3⟩
    generalize (W.putObj (w.heap.size + 2) (.deferred none)) = W5 at *
    simp [results, Tryz.results119, go_sem, h2]
theorem check_fix6 (M : Int) (v : Value) (ys : List (Int × Int)) (Q : Bool) (hQ : Q = true ↔ BeOk M ys) (w : World) (hE : El w v ys) (hl : ys.length ≤ 3000) :
    Calls Tryz.prog 76 #[.agg #[.int .i64 M, v]] w fun e w' => e = .returned (.int .i64 (if Q then 0 else 1)) ∧ Below w.heap.size w w' := by
  obtain ⟨a, c, rfl⟩ := hE.1.form
  have hb : Below w.heap.size w (w.alloc (.cells #[.int .i64 M, .slice a ys.length c] 141)) := (Below.refl _ w).alloc (Nat.le_refl _) _
  obtain ⟨q1, hq1⟩ : ∃ q1 : Bool, q1 = true ↔ EpOk M := ⟨decide (EpOk M), decide_eq_true_iff⟩
  obtain ⟨q2, hq2⟩ : ∃ q2 : Bool, q2 = true ↔ ∀ i, i < ys.length → PrOk (prE ys i) := by
    by_cases h : ∀ i, i < ys.length → PrOk (prE ys i)
    · exact ⟨true, ⟨fun _ => h, fun _ => rfl⟩⟩
    · exact ⟨false, ⟨fun h' => (by cases h'), fun h' => absurd h' h⟩⟩
  have CI := Lib.hid (isep_fix M q1 hq1 (w.alloc (.cells #[.int .i64 M, .slice a ys.length c] 141)))
  have CA := Lib.hid (areright_fix _ ys q2 hq2 (w.alloc (.cells #[.int .i64 M, .slice a ys.length c] 141)) (hE.below hb) hl)
  have hQ2 : Q = (q1 && q2) := by
    have h3 : Q = true ↔ (q1 && q2) = true := by
      rw [hQ, Bool.and_eq_true, hq1, hq2, prok_iff]
      exact and_comm
    cases Q <;> cases h : (q1 && q2) <;> simp_all
  have HB := Lib.hid hb
  clear hq1 hq2 hQ hE hb
  subst hQ2
  cases q1 with
  | false =>
    go_enter Tryz.func76, Tryz.ntmps76
    go_wp2_with (refine CI.out.mono ?_; rintro e w1 ⟨rfl, rfl⟩)
    go_ret
    exact ⟨rfl, HB.out⟩
  | true =>
    cases q2 with
    | false =>
      go_enter Tryz.func76, Tryz.ntmps76
      go_wp2_with fail
      refine CI.out.mono ?_
      rintro e w1 ⟨rfl, rfl⟩
      go_wp2_with fail
      refine CA.out.mono ?_
      rintro e w1 ⟨rfl, hb⟩
      have HB2 := Lib.hid (HB.out.trans (hb.mono HB.out.size))
      clear hb
      go_wp2_with fail
      go_ret
      exact ⟨rfl, HB2.out⟩
    | true =>
      go_enter Tryz.func76, Tryz.ntmps76
      go_wp2_with fail
      refine CI.out.mono ?_
      rintro e w1 ⟨rfl, rfl⟩
      go_wp2_with fail
      refine CA.out.mono ?_
      rintro e w1 ⟨rfl, hb⟩
      have HB2 := Lib.hid (HB.out.trans (hb.mono HB.out.size))
      clear hb
      go_wp2_with fail
      go_ret
      exact ⟨rfl, HB2.out⟩
end Go.Proofs.YtdigjklhfimnbaaGreat
namespace Go.Proofs.YtdigjklhfimnbaaGreat
set_option maxRecDepth 100000
set_option linter.unusedVariables false
open Go.RowKit

set_option maxHeartbeats 8000000 in
theorem ppush_any {w : World} {F : Nat → Prop} {b : Nat} {s : Sd} {Z : Zs1} {vW vO : Value} (y : Ob) (h : PZ w F b s Z vW vO) (hl : s.W.length ≤ 1024) :
    Calls Tryz.prog 48 #[.pointer (some ⟨b, 0, none⟩), .agg #[.int .i64 y.k, .int .i64 y.x, .bool y.n, .int .i64 y.t, .int .i64 y.o, .int .i64 y.r, .int .i64 y.d, .int .i64 y.i, .int .i64 y.p, .int .i64 y.q, .int .i64 y.s, .int .i64 y.m]] w fun e w' => e = .returned (.int .i64 (pushR s y).1) ∧ Chg F w w' ∧ ∃ F' vW', PZ w' F' b (pushR s y).2 Z vW' vO ∧ ∀ k, F' k → F k ∨ w.heap.size ≤ k := by
  obtain ⟨W1, hW1⟩ : ∃ W1, w.alloc (.cells #[.int .i64 y.k, .int .i64 y.x, .bool y.n, .int .i64 y.t, .int .i64 y.o, .int .i64 y.r, .int .i64 y.d, .int .i64 y.i, .int .i64 y.p, .int .i64 y.q, .int .i64 y.s, .int .i64 y.m] 41) = W1 := ⟨_, rfl⟩
  have hb1 : Below w.heap.size w W1 := hW1 ▸ (Below.refl _ w).alloc (Nat.le_refl _) _
  obtain ⟨g0, hg0⟩ : ∃ g0, w.heap.size = g0 := ⟨_, rfl⟩
  have hs1 : W1.heap.size = g0 + 1 := by rw [← hg0, ← hW1]; simp
  have hy1 : Cells12 W1 g0 y.k y.x y.n y.t y.o y.r y.d y.i y.p y.q y.s y.m := by rw [← hW1, ← hg0]; exact cells12_alloc w _ _ _ _ _ _ _ _ _ _ _ _ _
  have HFL : Hid (∀ k, F k → k < g0) := fun k hk => hg0 ▸ h.lt k hk
  obtain ⟨a, c, rfl⟩ := h.wform
  have H1 := Lib.hid (h.below hb1)
  have HB1 := Lib.hid hb1
  have HW1 := Lib.hid hW1
  have HG0 := Lib.hid hg0
  have HS1 := Lib.hid hs1
  have HY1 := Lib.hid hy1
  have HL := Lib.hid hl
  have C1 := Lib.hid (ocheck_any y.k y.x y.n y.t y.o y.r y.d y.i y.p y.q y.s y.m W1)
  clear h hb1 hW1 hg0 hs1 hy1 hl
  go_enter Tryz.func48, Tryz.ntmps48
  go_upto_region 1 with (fail)
  rw [HW1.out]
  simp only [HG0.out]
  obtain ⟨u0, u1, u2, u3, u4, u5, u6, u7, u8, u9, u10, u11⟩ := HY1.out
  go_wp2_with fail
  refine C1.out.mono ?_
  rintro e W2 ⟨rfl, hb⟩
  clear u0 u1 u2 u3 u4 u5 u6 u7 u8 u9 u10 u11
  have HY2 := Lib.hid (HY1.out.below hb)
  have H2 := Lib.hid (H1.out.below hb)
  have HB2 := Lib.hid (HB1.out.trans (hb.mono HB1.out.size))
  have HS2 : Hid (g0 + 1 ≤ W2.heap.size) := HS1.out ▸ hb.size
  clear hb C1
  by_cases hok : y.Ok
  · have e0 : obc y.k y.x y.n y.t y.o y.r y.d y.i y.p y.q y.s y.m = 0 := obc_ok hok
    obtain ⟨c0, c1, c2, c3, c4, cf⟩ := H2.out.cells
    rw [e0]
    by_cases hf : s.W.length = 1024
    · have e1 : Hid (pushR s y = (8, s)) := pushR_full hok (by omega)
      have hd : ((s.W.length : Int) == 1024) = true := by rw [hf]; rfl
      clear hok hf e0
      go_wp2_with fail
      go_ret
      rw [e1.out]
      exact ⟨rfl, chg0 HB2.out, F, _, H2.out, fun k hk => .inl hk⟩
    · have e1 : Hid (pushR s y = (0, { s with W := s.W ++ [y] })) := pushR_ok hok (by have := HL.out; omega)
      have hd : ((s.W.length : Int) == 1024) = false := beq_false_of_ne (by omega)
      clear hok hf e0
      clear c0 c1 c2 c4 cf
      go_upto_region 8 with (fail)
      clear c3
      have kc : ∀ w', Chg (fun k => (Value.slice a s.W.length c).ownBlock = some k) W2 w' → (w'.cell? ⟨b, 3, none⟩ = some (.slice a s.W.length c)) ∧ w'.cell? ⟨g0, 0, none⟩ = some (.int .i64 y.k) ∧ w'.cell? ⟨g0, 1, none⟩ = some (.int .i64 y.x) ∧ w'.cell? ⟨g0, 2, none⟩ = some (.bool y.n) ∧ w'.cell? ⟨g0, 3, none⟩ = some (.int .i64 y.t) ∧ w'.cell? ⟨g0, 4, none⟩ = some (.int .i64 y.o) ∧ w'.cell? ⟨g0, 5, none⟩ = some (.int .i64 y.r) ∧ w'.cell? ⟨g0, 6, none⟩ = some (.int .i64 y.d) ∧ w'.cell? ⟨g0, 7, none⟩ = some (.int .i64 y.i) ∧ w'.cell? ⟨g0, 8, none⟩ = some (.int .i64 y.p) ∧ w'.cell? ⟨g0, 9, none⟩ = some (.int .i64 y.q) ∧ w'.cell? ⟨g0, 10, none⟩ = some (.int .i64 y.s) ∧ w'.cell? ⟨g0, 11, none⟩ = some (.int .i64 y.m) := by
        intro w' hc
        have n1 : ¬ (Value.slice a s.W.length c).ownBlock = some b := fun e => (own_blk H2.out.wt e).ne H2.out.bt (by decide) rfl
        have n2 : ¬ (Value.slice a s.W.length c).ownBlock = some g0 := fun e => by have := HFL.out _ (H2.out.wf _ e); omega
        have f : ∀ {j : Nat} {v : Value}, W2.cell? ⟨g0, j, none⟩ = some v → w'.cell? ⟨g0, j, none⟩ = some v := fun h => (hc.cell (by have := HS2.out; omega) n2).trans h
        obtain ⟨h0, h1, h2, h3, h4, h5, h6, h7, h8, h9, h10, h11⟩ := HY2.out
        exact ⟨(hc.cell (H2.out.lt b H2.out.fb) n1).trans H2.out.cells.2.2.2.1, f h0, f h1, f h2, f h3, f h4, f h5, f h6, f h7, f h8, f h9, f h10, f h11⟩
      have HXL : Hid (s.W.length ≤ 3000) := Nat.le_trans HL.out (by decide)
      have HSW : Hid (0 ≤ W2.heap.size) := Nat.zero_le _
      have OW : Hid (W2.ownsRow 0 (ROB).T (ROB).K (Value.slice a s.W.length c) s.W.length (gflat ROB s.W)) := H2.out.wt
      have HROW : ∀ k, (Value.slice a s.W.length c).ownBlock = some k → k < W2.heap.size := fun k hk => H2.out.lt k (H2.out.wf k hk)
      refine T3.wp_region_tail (C := fun w' => Chg (fun k => (Value.slice a s.W.length c).ownBlock = some k) W2 w' ∧ w'.ownsRow 0 (ROB).T (ROB).K (Value.slice a s.W.length c) (s.W).length (gflat ROB (s.W))) (X := GX (Value.ownBlock (Value.slice a s.W.length c)) 7) (n := 29) 10 (by kernel_rfl) (by kernel_rfl) (by kernel_rfl) (by kernel_rfl) rfl (GX_refl _ 7) ⟨(Chg.refl _ _).drew, OW.out.drew⟩ ?_
      simp only [List.take_succ_cons, List.take_zero, List.drop_succ_cons, List.drop_zero]
      refine T3.w_is (GX_refl _ 7) rfl _ (.inl rfl) (fun ρ w hC hc hfn hf => by have e0 : ρ (.tmp 0) = _ := hf 0 (by decide); (conv => lhs; simp [execOp, go_sem, hc, e0])) ?_
      refine T3.w_is (GX_refl _ 7) rfl _ (.inl rfl) (fun ρ w hC hc hfn hf => by have e0 : ρ (.tmp 0) = _ := hf 0 (by decide); (conv => lhs; simp [execOp, go_sem, hc, e0])) ?_
      refine T3.w_is (GX_refl _ 7) rfl _ (.inl rfl) (fun ρ w hC hc hfn hf => by have e20 : ρ (.tmp 20) = _ := hf 20 (by decide); (conv => lhs; simp [execOp, go_sem, hc, e20])) ?_
      refine T3.w_is (GX_refl _ 7) rfl _ (.inl rfl) (fun ρ w hC hc hfn hf => by have e21 : ρ (.tmp 21) = _ := hf 21 (by decide); (conv => lhs; simp [execOp, go_sem, hc, e21])) ?_
      refine T3.w_is (GX_refl _ 7) rfl _ (.inl rfl) (fun ρ w hC hc hfn hf => by have e22 : ρ (.tmp 22) = _ := hf 22 (by decide); (conv => lhs; simp [execOp, go_sem, hc, e22, kc w hC.1])) ?_
      refine T3.w_is (GX_refl _ 7) rfl _ (.inl rfl) (fun ρ w hC hc hfn hf => by have e3 : ρ (.tmp 3) = _ := hf 3 (by decide); (conv => lhs; simp [execOp, go_sem, hc, e3, kc w hC.1])) ?_
      refine T3.w_make rfl (NewG (R := ROB) W2 (y)) (NewG.keeps HROW 7 6) (.inl rfl) (fun ρ w hC hc hfn hf => by have e24 : ρ (.tmp 24) = _ := hf 24 (by decide); exact ⟨_, _, by (conv => lhs; simp [execOp, go_sem, hc, e24]); rfl, ⟨hC.1.alloc _, gown_below hC.2 ((Below.refl _ w).alloc (Nat.le_refl _) _)⟩, GX_of (by decide) ((Below.refl _ w).alloc (Nat.le_refl _) _), ⟨_, rfl, hC.1.size, gc_alloc (ROB) w (y) _ rfl 41⟩⟩) ?_
      refine T3.w_make rfl (NewR (ROB) W2 0 (Value.slice a s.W.length c) ((s.W) ++ [y]) ((s.W).length + 1)) (NewR.keeps 7) (.inl rfl) (fun ρ w hC hc hfn hf => by have e23 : ρ (.tmp 23) = _ := hf 23 (by decide); obtain ⟨bq, e25, hb1, hb2⟩ := (show NewG (R := ROB) W2 (y) (ρ (.tmp 25)) w from hf 25 (by decide)); obtain ⟨gq, cq, wq, hr, hq1, hq2, hq4, hq3⟩ := run_gappr (ROB) w 0 _ (s.W) hC.2 bq (y) hb2 HXL.out (Nat.le_trans HSW.out hC.1.size); exact ⟨_, wq, gexec_append rfl e23 e25 hr, ⟨hC.1.grown hq2 (fun k hk => .inl hk), hq4⟩, GX_at rfl hq2, ⟨gq, cq, rfl, hq1, hq3.imp (fun h => h) (fun h => Nat.le_trans hC.1.size h)⟩⟩) ?_
      refine T3.w_is (GX_refl _ 7) rfl _ (.inl rfl) (fun ρ w hC hc hfn hf => by have e19 : ρ (.tmp 19) = _ := hf 19 (by decide); (conv => lhs; simp [execOp, go_sem, hc, e19])) ?_
      refine T3.w_is (GX_refl _ 7) rfl _ (.inl rfl) (fun ρ w hC hc hfn hf => by have e27 : ρ (.tmp 27) = _ := hf 27 (by decide); (conv => lhs; simp [execOp, go_sem, hc, e27])) ?_
      intro A V5 hC hn hd hf
      obtain ⟨bq, y25, -, -⟩ := (show NewG (R := ROB) W2 (y) (A.eval (.tmp 25)) V5 from hf 25)
      obtain ⟨gq, cq, y26, OQ, HQ9⟩ := (show NewR (ROB) W2 0 (Value.slice a s.W.length c) ((s.W) ++ [y]) ((s.W).length + 1) (A.eval (.tmp 26)) V5 from hf 26)
      rw [y26] at OQ
      have y0 : A.eval (.tmp 0) = _ := Eq.trans (hf 0) (by conv => lhs; simp [go_sem])
      have y1 : A.eval (.tmp 1) = _ := Eq.trans (hf 1) (by conv => lhs; simp [go_sem])
      have y2 : A.eval (.tmp 2) = _ := Eq.trans (hf 2) (by conv => lhs; simp [go_sem])
      have y3 : A.eval (.tmp 3) = _ := Eq.trans (hf 3) (by conv => lhs; simp [go_sem])
      have y4 : A.eval (.tmp 4) = _ := Eq.trans (hf 4) (by conv => lhs; simp [go_sem])
      have y5 : A.eval (.tmp 5) = _ := Eq.trans (hf 5) (by conv => lhs; simp [go_sem])
      have y6 : A.eval (.tmp 6) = _ := Eq.trans (hf 6) (by conv => lhs; simp [go_sem])
      have y7 : A.eval (.tmp 7) = _ := Eq.trans (hf 7) (by conv => lhs; simp [go_sem])
      have y8 : A.eval (.tmp 8) = _ := Eq.trans (hf 8) (by conv => lhs; simp [go_sem])
      have y9 : A.eval (.tmp 9) = _ := Eq.trans (hf 9) (by conv => lhs; simp [go_sem])
      have y10 : A.eval (.tmp 10) = _ := Eq.trans (hf 10) (by conv => lhs; simp [go_sem])
      have y11 : A.eval (.tmp 11) = _ := Eq.trans (hf 11) (by conv => lhs; simp [go_sem])
      have y12 : A.eval (.tmp 12) = _ := Eq.trans (hf 12) (by conv => lhs; simp [go_sem])
      have y13 : A.eval (.tmp 13) = _ := Eq.trans (hf 13) (by conv => lhs; simp [go_sem])
      have y14 : A.eval (.tmp 14) = _ := Eq.trans (hf 14) (by conv => lhs; simp [go_sem])
      have y15 : A.eval (.tmp 15) = _ := Eq.trans (hf 15) (by conv => lhs; simp [go_sem])
      have y16 : A.eval (.tmp 16) = _ := Eq.trans (hf 16) (by conv => lhs; simp [go_sem])
      have y17 : A.eval (.tmp 17) = _ := Eq.trans (hf 17) (by conv => lhs; simp [go_sem])
      have y18 : A.eval (.tmp 18) = _ := Eq.trans (hf 18) (by conv => lhs; simp [go_sem])
      have y19 : A.eval (.tmp 19) = _ := hf 19
      have y20 : A.eval (.tmp 20) = _ := hf 20
      have y21 : A.eval (.tmp 21) = _ := hf 21
      have y22 : A.eval (.tmp 22) = _ := hf 22
      have y23 : A.eval (.tmp 23) = _ := hf 23
      have y24 : A.eval (.tmp 24) = _ := hf 24
      have y27 : A.eval (.tmp 27) = _ := hf 27
      have y28 : A.eval (.tmp 28) = _ := hf 28
      clear hf
      have hA := frame_eq hn
      rw [show List.range 29 = [0, 1, 2, 3, 4, 5, 6, 7, 8, 9, 10, 11, 12, 13, 14, 15, 16, 17, 18, 19, 20, 21, 22, 23, 24, 25, 26, 27, 28] from rfl, hd] at hA
      simp only [List.map_cons, List.map_nil, y0, y1, y2, y3, y4, y5, y6, y7, y8, y9, y10, y11, y12, y13, y14, y15, y16, y17, y18, y19, y20, y21, y22, y23, y24, y25, y26, y27, y28] at hA
      clear y0 y1 y2 y3 y4 y5 y6 y7 y8 y9 y10 y11 y12 y13 y14 y15 y16 y17 y18 y19 y20 y21 y22 y23 y24 y25 y26 y27 y28
      clear hn hd
      subst hA
      obtain ⟨hC1, hC2⟩ := hC
      have hfin := H2.out.wset hC1 (vW' := .slice (some ⟨gq, 0, none⟩) (s.W.length + 1) cq) (W' := s.W ++ [y]) OQ (fun g hg => by cases hg; exact HQ9)
      have n1 : ¬ (Value.slice a s.W.length c).ownBlock = some b := fun e => (own_blk H2.out.wt e).ne H2.out.bt (by decide) rfl
      have hp5 : V5.heap[b]? = some (.cells #[.int .i64 s.win, .int .i64 s.tries, .int .i64 s.nx, .slice a s.W.length c, vO] 154) := (hC1.block b (H2.out.lt b H2.out.fb) n1).trans H2.out.hp
      have c3 : V5.cell? ⟨b, 3, none⟩ = some (.slice a s.W.length c) := by simp [World.cell?, hp5]
      have cf : ∀ j, V5.frozen? ⟨b, j, none⟩ = false := fun j => by simp [World.frozen?, hp5]
      have hcg : Chg F w (V5.setCell ⟨b, 3, none⟩ (.slice (some ⟨gq, 0, none⟩) (s.W.length + 1) cq)) := ((chg0 HB2.out).trans (hC1.mono (fun x _ hx => H2.out.wf x hx)) (fun _ _ hx => hx)).setCell (.inl H2.out.fb) _
      have HFIN := Lib.hid hfin
      have HCG := Lib.hid hcg
      have HSZ : Hid (w.heap.size ≤ W2.heap.size) := HB2.out.size
      clear hC1 hC2 hfin hp5 hcg n1 kc HROW HQ9 OQ
      go_wp2_with fail
      go_ret
      rw [e1.out]
      exact ⟨rfl, HCG.out, _, _, HFIN.out, fun k hk => hk.imp (fun h => h) (fun h => Nat.le_trans HSZ.out h.1)⟩
  · have e0 : obc y.k y.x y.n y.t y.o y.r y.d y.i y.p y.q y.s y.m = 1 := obc_no hok
    have e1 : Hid (pushR s y = (1, s)) := pushR_no hok
    rw [e0]
    clear hok e0
    go_wp2_with fail
    go_ret
    rw [e1.out]
    exact ⟨rfl, chg0 HB2.out, F, _, H2.out, fun k hk => .inl hk⟩
end Go.Proofs.YtdigjklhfimnbaaGreat
namespace Go.Proofs.YtdigjklhfimnbaaGreat
set_option maxRecDepth 100000
set_option linter.unusedVariables false
open Go.RowKit

def hitA (a : Ak) (z : Nat × Bt × Int) : Bool := decide (AkOne a) && hasN a.2.2.1 a.2.2.2 z.2.1.1
theorem got_nilL {s : Sd} (a : Ak) (h : s.L = []) : gtS s a = s ∧ gtN s a = 0 := by
  have e : gtS s a = s := by
    unfold gtS
    split
    · rw [h]
      show ({ s with L := [] } : Sd) = s
      rw [← h]
    · rfl
  exact ⟨e, by unfold gtN; rw [e]; omega⟩
theorem got_far {s : Sd} {a : Ak} (h : ¬ far (fstN s) a.2.2.1 ≤ far (fstN s) s.nx) : gtS s a = s ∧ gtN s a = 0 := by
  have e : gtS s a = s := gtS_no (fun g => h g.2)
  exact ⟨e, by unfold gtN; rw [e]; omega⟩
theorem got_near {s : Sd} {a : Ak} {Z : Zs1} (hz : s.L = Z.map Prod.snd) (h : far (fstN s) a.2.2.1 ≤ far (fstN s) s.nx) : gtS s a = { s with L := (Z.filter fun z => !hitA a z).map Prod.snd } ∧ gtN s a = Z.length - (Z.filter fun z => !hitA a z).length := by
  have e : gtS s a = { s with L := (Z.filter fun z => !hitA a z).map Prod.snd } := by
    by_cases ha : AkOne a
    · rw [gtS_yes ⟨ha, h⟩, hz, List.filter_map]
      congr 2
      refine List.filter_congr fun z _ => ?_
      show kpt a z.2 = _
      unfold kpt hitA
      rw [decide_eq_true ha, Bool.true_and]
    · rw [gtS_no (fun g => ha g.1)]
      have e2 : (Z.filter fun z => !hitA a z) = Z := by
        rw [List.filter_eq_self]
        intro z _
        unfold hitA
        rw [decide_eq_false ha]
        rfl
      rw [e2, ← hz]
  refine ⟨e, ?_⟩
  unfold gtN
  rw [e, hz, List.length_map, List.length_map]
section
variable {w : World} {F : Nat → Prop} {b : Nat} {s : Sd} {Z : Zs1} {vW vO : Value}
theorem PZ.first (h : PZ w F b s Z vW vO) {z : Nat × Bt × Int} (hz : Z[0]? = some z) : fstN s = z.2.1.1 := by
  obtain ⟨hk, rfl⟩ := List.getElem?_eq_some_iff.1 hz
  unfold fstN
  rw [h.zl]
  cases Z with
  | nil => exact absurd hk (Nat.not_lt_zero 0)
  | cons z Z => rfl
set_option maxHeartbeats 8000000 in
theorem pgot_any (a1 a2 a3 a4 : Int) (h : PZ w F b s Z vW vO) (hok : SdOk s) : Calls Tryz.prog 117 #[.pointer (some ⟨b, 0, none⟩), .agg #[.int .i64 a1, .int .i64 a2, .int .i64 a3, .int .i64 a4]] w fun e w' => e = .returned (.int .i64 (gtN s (a1, a2, a3, a4))) ∧ Chg F w w' ∧ ∃ F' Z' vO', PZ w' F' b (gtS s (a1, a2, a3, a4)) Z' vW vO' ∧ ∀ k, F' k → F k ∨ w.heap.size ≤ k := by
  obtain ⟨aO, cO, rfl⟩ := h.oform
  have hzl : Z.length ≤ 16 := (h.olen hok).1
  obtain ⟨g0, hg0⟩ : ∃ g0, w.heap.size = g0 := ⟨_, rfl⟩
  obtain ⟨W1, hW1⟩ : ∃ W1, w.alloc (.cells #[.int .i64 a1, .int .i64 a2, .int .i64 a3, .int .i64 a4] 212) = W1 := ⟨_, rfl⟩
  have hb1 : Below w.heap.size w W1 := hW1 ▸ (Below.refl _ w).alloc (Nat.le_refl _) _
  have ha1 : Cells4a W1 g0 0 (a1, a2, a3, a4) := by rw [← hW1, ← hg0]; refine ⟨?_, ?_, ?_, ?_⟩ <;> simp
  have hFp : ∀ k, F k → k < g0 := fun k hk => hg0 ▸ h.lt k hk
  have H1 := Lib.hid (h.below hb1)
  have HW1 := Lib.hid hW1
  have HB1 := Lib.hid hb1
  have HG0 := Lib.hid hg0
  have HA1 := Lib.hid ha1
  have HFP := Lib.hid hFp
  have HSZ : Hid (w.heap.size ≤ W1.heap.size) := hb1.size
  clear hW1 hb1 hg0 ha1 hFp h
  by_cases hnil : Z = []
  · subst hnil
    obtain ⟨e1, e2⟩ := got_nilL (a1, a2, a3, a4) (s := s) H1.out.zl
    have HE1 := Lib.hid e1
    have HE2 := Lib.hid e2
    obtain ⟨c0, c1, c2, c3, c4, cf⟩ := H1.out.cells
    clear e1 e2 c0 c1 c2 c3 cf
    go_enter Tryz.func117, Tryz.ntmps117
    go_upto_region 1 with (fail)
    rw [HW1.out]
    try simp only [HG0.out]
    go_wp2_with fail
    go_ret
    rw [HE1.out, HE2.out]
    exact ⟨rfl, chg0 HB1.out, F, [], _, H1.out, fun k hk => .inl hk⟩
  · obtain ⟨z0, hz0⟩ : ∃ z0, Z[0]? = some z0 := by
      cases Z with
      | nil => exact absurd rfl hnil
      | cons z Z => exact ⟨z, rfl⟩
    have hpos : 0 < Z.length := (List.getElem?_eq_some_iff.1 hz0).1
    obtain ⟨g, cap, hgo⟩ : ∃ g cap, Value.slice aO Z.length cO = .slice (some ⟨g, 0, none⟩) Z.length cap := by
      rcases H1.out.ot.2 with ⟨_, h2⟩ | ⟨g, cap, cur, h2, _⟩
      · rw [List.length_map] at h2; omega
      · rw [List.length_map] at h2; exact ⟨g, cap, h2⟩
    simp only [Value.slice.injEq, true_and] at hgo
    obtain ⟨rfl, rfl⟩ := hgo
    obtain ⟨p0, pf⟩ := row_pt H1.out.ot (k := 0) (p := z0.1) (by rw [List.getElem?_map, hz0]; rfl)
    obtain ⟨x1, x2, hx, -, hs0, -, -, pn⟩ := H1.out.pt rfl hz0
    have hZ0 := hz0
    clear hx x1 x2
    have hf := H1.out.first hz0
    obtain ⟨n0, hn0⟩ : ∃ n0, fstN s = n0 := ⟨_, rfl⟩
    rw [← hf, hn0] at pn
    obtain ⟨q, hq⟩ : ∃ q, z0.1 = q := ⟨_, rfl⟩
    rw [hq] at p0 pn
    obtain ⟨c0, c1, c2, c3, c4, cf⟩ := H1.out.cells
    have HN0 := Lib.hid hn0
    have hb0 : ((Z.length : Int) == 0) = false := beq_false_of_ne (by omega)
    have hltz : (0 : Int) < Z.length := by omega
    obtain ⟨W2, hW2⟩ : ∃ W2, W2 = W1 := ⟨_, rfl⟩
    subst hW2
    have hbl := H1.out.lt b H1.out.fb
    have kc : ∀ w', Below W2.heap.size W2 w' → w'.cell? ⟨g0, 2, none⟩ = some (.int .i64 a3) ∧ w'.cell? ⟨b, 2, none⟩ = some (.int .i64 s.nx) := fun w' h => by
      have h4 := HA1.out.below h
      simp only [Cells4a, Nat.zero_add] at h4
      exact ⟨h4.2.2.1, (h.cell (p := ⟨b, 2, none⟩) hbl).trans c2⟩
    clear c0 c1 c2 c3 cf hnil pf hs0 hf hn0 hq hz0 hZ0 hbl
    go_enter Tryz.func117, Tryz.ntmps117
    go_upto_region 1 with (fail)
    rw [HW1.out]
    try simp only [HG0.out]
    go_upto_region 4 with (fail)
    clear p0 pn c4
    refine T3.wp_region_tail (C := fun w' => Below W2.heap.size W2 w') (X := fun _ w w' => Below w.heap.size w w') (n := 59) 10 (by kernel_rfl) (by kernel_rfl) (by kernel_rfl) (by kernel_rfl) rfl (fun _ w => Below.refl _ w) (Below.refl _ _).drew ?_
    simp only [List.take_succ_cons, List.take_zero, List.drop_succ_cons, List.drop_zero]
    refine T3.w_is (fun _ w => Below.refl _ w) rfl _ (.inl rfl) (fun ρ w hC hc hfn hf => by have e5 : ρ (.tmp 5) = _ := hf 5 (by decide); (conv => lhs; simp [execOp, go_sem, hc, e5])) ?_
    refine T3.w_is (fun _ w => Below.refl _ w) rfl _ (.inl rfl) (fun ρ w hC hc hfn hf => by have e3 : ρ (.tmp 3) = _ := hf 3 (by decide); (conv => lhs; simp [execOp, go_sem, hc, e3])) ?_
    refine T3.w_is (fun _ w => Below.refl _ w) rfl _ (.inl rfl) (fun ρ w hC hc hfn hf => by have e28 : ρ (.tmp 28) = _ := hf 28 (by decide); (conv => lhs; simp [execOp, go_sem, hc, e28, kc w hC])) ?_
    refine T3.w_call rfl (Is _) (fun _ _ _ _ _ h _ => h) 125 (.inl rfl) (fun ρ w hC hc hfn hf => by have e27 : ρ (.tmp 27) = _ := hf 27 (by decide); have e29 : ρ (.tmp 29) = _ := hf 29 (by decide); exact ⟨_, by (conv => lhs; simp [execOp, resolve, invoke, go_sem, hc, hfn, e27, e29]), (far_any n0 a3 w).mono fun e w' h => ⟨_, h.1, hC.trans (h.2.mono hC.size), h.2, rfl⟩⟩) ?_
    refine T3.w_is (fun _ w => Below.refl _ w) rfl _ (.inl rfl) (fun ρ w hC hc hfn hf => by have e5 : ρ (.tmp 5) = _ := hf 5 (by decide); (conv => lhs; simp [execOp, go_sem, hc, e5])) ?_
    refine T3.w_is (fun _ w => Below.refl _ w) rfl _ (.inl rfl) (fun ρ w hC hc hfn hf => by have e0 : ρ (.tmp 0) = _ := hf 0 (by decide); (conv => lhs; simp [execOp, go_sem, hc, e0])) ?_
    refine T3.w_is (fun _ w => Below.refl _ w) rfl _ (.inl rfl) (fun ρ w hC hc hfn hf => by have e32 : ρ (.tmp 32) = _ := hf 32 (by decide); (conv => lhs; simp [execOp, go_sem, hc, e32])) ?_
    refine T3.w_is (fun _ w => Below.refl _ w) rfl _ (.inl rfl) (fun ρ w hC hc hfn hf => by have e33 : ρ (.tmp 33) = _ := hf 33 (by decide); (conv => lhs; simp [execOp, go_sem, hc, e33])) ?_
    refine T3.w_is (fun _ w => Below.refl _ w) rfl _ (.inl rfl) (fun ρ w hC hc hfn hf => by have e34 : ρ (.tmp 34) = _ := hf 34 (by decide); (conv => lhs; simp [execOp, go_sem, hc, e34, kc w hC])) ?_
    refine T3.w_call rfl (Is _) (fun _ _ _ _ _ h _ => h) 125 (.inl rfl) (fun ρ w hC hc hfn hf => by have e31 : ρ (.tmp 31) = _ := hf 31 (by decide); have e35 : ρ (.tmp 35) = _ := hf 35 (by decide); exact ⟨_, by (conv => lhs; simp [execOp, resolve, invoke, go_sem, hc, hfn, e31, e35]), (far_any n0 s.nx w).mono fun e w' h => ⟨_, h.1, hC.trans (h.2.mono hC.size), h.2, rfl⟩⟩) ?_
    intro A V5 hC hn hd hf
    have y0 : A.eval (.tmp 0) = _ := Eq.trans (hf 0) (by conv => lhs; simp [go_sem])
    have y1 : A.eval (.tmp 1) = _ := Eq.trans (hf 1) (by conv => lhs; simp [go_sem])
    have y2 : A.eval (.tmp 2) = _ := Eq.trans (hf 2) (by conv => lhs; simp [go_sem])
    have y3 : A.eval (.tmp 3) = _ := Eq.trans (hf 3) (by conv => lhs; simp [go_sem])
    have y4 : A.eval (.tmp 4) = _ := Eq.trans (hf 4) (by conv => lhs; simp [go_sem])
    have y5 : A.eval (.tmp 5) = _ := Eq.trans (hf 5) (by conv => lhs; simp [go_sem])
    have y6 : A.eval (.tmp 6) = _ := Eq.trans (hf 6) (by conv => lhs; simp [go_sem])
    have y7 : A.eval (.tmp 7) = _ := Eq.trans (hf 7) (by conv => lhs; simp [go_sem])
    have y8 : A.eval (.tmp 8) = _ := Eq.trans (hf 8) (by conv => lhs; simp [go_sem])
    have y9 : A.eval (.tmp 9) = _ := Eq.trans (hf 9) (by conv => lhs; simp [go_sem])
    have y10 : A.eval (.tmp 10) = _ := Eq.trans (hf 10) (by conv => lhs; simp [go_sem])
    have y11 : A.eval (.tmp 11) = _ := Eq.trans (hf 11) (by conv => lhs; simp [go_sem])
    have y12 : A.eval (.tmp 12) = _ := Eq.trans (hf 12) (by conv => lhs; simp [go_sem])
    have y13 : A.eval (.tmp 13) = _ := Eq.trans (hf 13) (by conv => lhs; simp [go_sem])
    have y14 : A.eval (.tmp 14) = _ := Eq.trans (hf 14) (by conv => lhs; simp [go_sem])
    have y15 : A.eval (.tmp 15) = _ := Eq.trans (hf 15) (by conv => lhs; simp [go_sem])
    have y16 : A.eval (.tmp 16) = _ := Eq.trans (hf 16) (by conv => lhs; simp [go_sem])
    have y17 : A.eval (.tmp 17) = _ := Eq.trans (hf 17) (by conv => lhs; simp [go_sem])
    have y18 : A.eval (.tmp 18) = _ := Eq.trans (hf 18) (by conv => lhs; simp [go_sem])
    have y19 : A.eval (.tmp 19) = _ := Eq.trans (hf 19) (by conv => lhs; simp [go_sem])
    have y20 : A.eval (.tmp 20) = _ := Eq.trans (hf 20) (by conv => lhs; simp [go_sem])
    have y21 : A.eval (.tmp 21) = _ := Eq.trans (hf 21) (by conv => lhs; simp [go_sem])
    have y22 : A.eval (.tmp 22) = _ := Eq.trans (hf 22) (by conv => lhs; simp [go_sem])
    have y23 : A.eval (.tmp 23) = _ := Eq.trans (hf 23) (by conv => lhs; simp [go_sem])
    have y24 : A.eval (.tmp 24) = _ := Eq.trans (hf 24) (by conv => lhs; simp [go_sem])
    have y25 : A.eval (.tmp 25) = _ := Eq.trans (hf 25) (by conv => lhs; simp [go_sem])
    have y26 : A.eval (.tmp 26) = _ := Eq.trans (hf 26) (by conv => lhs; simp [go_sem])
    have y27 : A.eval (.tmp 27) = _ := hf 27
    have y28 : A.eval (.tmp 28) = _ := hf 28
    have y29 : A.eval (.tmp 29) = _ := hf 29
    have y30 : A.eval (.tmp 30) = _ := hf 30
    have y31 : A.eval (.tmp 31) = _ := hf 31
    have y32 : A.eval (.tmp 32) = _ := hf 32
    have y33 : A.eval (.tmp 33) = _ := hf 33
    have y34 : A.eval (.tmp 34) = _ := hf 34
    have y35 : A.eval (.tmp 35) = _ := hf 35
    have y36 : A.eval (.tmp 36) = _ := hf 36
    have y37 : A.eval (.tmp 37) = _ := Eq.trans (hf 37) (by conv => lhs; simp [go_sem])
    have y38 : A.eval (.tmp 38) = _ := Eq.trans (hf 38) (by conv => lhs; simp [go_sem])
    have y39 : A.eval (.tmp 39) = _ := Eq.trans (hf 39) (by conv => lhs; simp [go_sem])
    have y40 : A.eval (.tmp 40) = _ := Eq.trans (hf 40) (by conv => lhs; simp [go_sem])
    have y41 : A.eval (.tmp 41) = _ := Eq.trans (hf 41) (by conv => lhs; simp [go_sem])
    have y42 : A.eval (.tmp 42) = _ := Eq.trans (hf 42) (by conv => lhs; simp [go_sem])
    have y43 : A.eval (.tmp 43) = _ := Eq.trans (hf 43) (by conv => lhs; simp [go_sem])
    have y44 : A.eval (.tmp 44) = _ := Eq.trans (hf 44) (by conv => lhs; simp [go_sem])
    have y45 : A.eval (.tmp 45) = _ := Eq.trans (hf 45) (by conv => lhs; simp [go_sem])
    have y46 : A.eval (.tmp 46) = _ := Eq.trans (hf 46) (by conv => lhs; simp [go_sem])
    have y47 : A.eval (.tmp 47) = _ := Eq.trans (hf 47) (by conv => lhs; simp [go_sem])
    have y48 : A.eval (.tmp 48) = _ := Eq.trans (hf 48) (by conv => lhs; simp [go_sem])
    have y49 : A.eval (.tmp 49) = _ := Eq.trans (hf 49) (by conv => lhs; simp [go_sem])
    have y50 : A.eval (.tmp 50) = _ := Eq.trans (hf 50) (by conv => lhs; simp [go_sem])
    have y51 : A.eval (.tmp 51) = _ := Eq.trans (hf 51) (by conv => lhs; simp [go_sem])
    have y52 : A.eval (.tmp 52) = _ := Eq.trans (hf 52) (by conv => lhs; simp [go_sem])
    have y53 : A.eval (.tmp 53) = _ := Eq.trans (hf 53) (by conv => lhs; simp [go_sem])
    have y54 : A.eval (.tmp 54) = _ := Eq.trans (hf 54) (by conv => lhs; simp [go_sem])
    have y55 : A.eval (.tmp 55) = _ := Eq.trans (hf 55) (by conv => lhs; simp [go_sem])
    have y56 : A.eval (.tmp 56) = _ := Eq.trans (hf 56) (by conv => lhs; simp [go_sem])
    have y57 : A.eval (.tmp 57) = _ := Eq.trans (hf 57) (by conv => lhs; simp [go_sem])
    have y58 : A.eval (.tmp 58) = _ := Eq.trans (hf 58) (by conv => lhs; simp [go_sem])
    clear hf
    have hA := frame_eq hn
    rw [show List.range 59 = [0, 1, 2, 3, 4, 5, 6, 7, 8, 9, 10, 11, 12, 13, 14, 15, 16, 17, 18, 19, 20, 21, 22, 23, 24, 25, 26, 27, 28, 29, 30, 31, 32, 33, 34, 35, 36, 37, 38, 39, 40, 41, 42, 43, 44, 45, 46, 47, 48, 49, 50, 51, 52, 53, 54, 55, 56, 57, 58] from rfl, hd] at hA
    simp only [List.map_cons, List.map_nil, y0, y1, y2, y3, y4, y5, y6, y7, y8, y9, y10, y11, y12, y13, y14, y15, y16, y17, y18, y19, y20, y21, y22, y23, y24, y25, y26, y27, y28, y29, y30, y31, y32, y33, y34, y35, y36, y37, y38, y39, y40, y41, y42, y43, y44, y45, y46, y47, y48, y49, y50, y51, y52, y53, y54, y55, y56, y57, y58] at hA
    clear y0 y1 y2 y3 y4 y5 y6 y7 y8 y9 y10 y11 y12 y13 y14 y15 y16 y17 y18 y19 y20 y21 y22 y23 y24 y25 y26 y27 y28 y29 y30 y31 y32 y33 y34 y35 y36 y37 y38 y39 y40 y41 y42 y43 y44 y45 y46 y47 y48 y49 y50 y51 y52 y53 y54 y55 y56 y57 y58
    clear hn hd
    subst hA
    have HC5 := Lib.hid hC
    clear kc hC
    by_cases hgt : far n0 s.nx < far n0 a3
    · obtain ⟨e1, e2⟩ := got_far (s := s) (a := (a1, a2, a3, a4)) (by rw [HN0.out]; show ¬ far n0 a3 ≤ far n0 s.nx; omega)
      have HE1 := Lib.hid e1
      have HE2 := Lib.hid e2
      have hd : decide (far n0 s.nx < far n0 a3) = true := decide_eq_true hgt
      clear e1 e2
      go_wp2_with fail
      go_ret
      rw [HE1.out, HE2.out]
      exact ⟨rfl, chg0 (HB1.out.trans (HC5.out.mono HSZ.out)), F, Z, _, H1.out.below HC5.out, fun k hk => .inl hk⟩
    · obtain ⟨e1, e2⟩ := got_near (s := s) (a := (a1, a2, a3, a4)) H1.out.zl (by rw [HN0.out]; show far n0 a3 ≤ far n0 s.nx; omega)
      have HE1 := Lib.hid e1
      have HE2 := Lib.hid e2
      have hd : decide (far n0 s.nx < far n0 a3) = false := decide_eq_false hgt
      have h5 := H1.out.below HC5.out
      have ha5 := HA1.out.below HC5.out
      obtain ⟨c0, c1, c2, c3, c4, cf⟩ := h5.cells
      have H5 := Lib.hid h5
      have hgF : F g := h5.of g rfl
      have hgb : g ≠ b := (own_blk h5.ot rfl).ne h5.bt (by decide)
      have hT : Tells g0 g (hitA (a1, a2, a3, a4)) Z V5 := fun z hz W hc => by
        have hs := h5.snd z hz
        obtain ⟨u, h6, h7⟩ := hs.cell
        have hne : z.1 ≠ g := hs.blk.ne (own_blk h5.ot rfl) (by decide)
        have h8 : W.cell? ⟨z.1, 0, none⟩ = some (.int .i64 z.2.1.1) := by
          rw [World.cell?_of_block (hc.block z.1 (some_lt h6) hne)]
          simp [World.cell?, h6]
        have hg9 : g0 < V5.heap.size := World.block_lt_of_cell? V5 _ ha5.1
        have h9 : Cells4a W g0 0 (a1, a2, a3, a4) := by
          have f : ∀ {j : Nat} {v : Value}, V5.cell? ⟨g0, j, none⟩ = some v → W.cell? ⟨g0, j, none⟩ = some v := fun h => (hc.cell hg9 (fun e => by have := HFP.out g hgF; have e' : g0 = g := e; omega)).trans h
          obtain ⟨x0, x1, x2, x3⟩ := ha5
          exact ⟨f x0, f x1, f x2, f x3⟩
        exact gotc_any g0 z.1 a1 a2 a3 a4 z.2.1.1 W h9 h8
      have C7 := Lib.hid (delf_any g0 g cO (hitA (a1, a2, a3, a4)) Z V5 hT h5.ot (by omega))
      have hzl2 : (Z.filter fun z => !hitA (a1, a2, a3, a4) z).length ≤ Z.length := List.length_filter_le _ _
      have HGB := Lib.hid hgb
      have HGF := Lib.hid hgF
      clear e1 e2 c0 c1 c2 c3 h5 ha5 hT hgF hgb hgt
      go_wp2_with fail
      refine C7.out.mono ?_
      rintro e W7 ⟨⟨n, hn, rfl, ho⟩, hc⟩
      have hc7 : Chg (fun k => (Value.slice (some ⟨g, 0, none⟩) Z.length cO).ownBlock = some k) V5 W7 := hc.mono (fun x _ e => by rw [e]; rfl)
      have hp7 : W7.heap[b]? = some (.cells #[.int .i64 s.win, .int .i64 s.tries, .int .i64 s.nx, vW, .slice (some ⟨g, 0, none⟩) Z.length cO] 154) := (hc.block b (H5.out.lt b H5.out.fb) (fun e => HGB.out e.symm)).trans H5.out.hp
      have h8 := H5.out.oset hc7 (vO' := .slice (some ⟨g, 0, none⟩) n cO) (Z' := Z.filter fun z => !hitA (a1, a2, a3, a4) z) ho (fun g2 hg2 => .inl hg2) (H5.out.nd.sublist (List.filter_sublist.map _)) (fun z hz => H5.out.snd z (List.mem_filter.1 hz).1)
      have hcg : Chg F w (W7.setCell ⟨b, 4, none⟩ (.slice (some ⟨g, 0, none⟩) n cO)) := ((chg0 (HB1.out.trans (HC5.out.mono HSZ.out)) : Chg F w V5).trans (hc7.mono (fun x _ e => by cases e; exact HGF.out)) (fun _ _ e => e)).setCell (.inl H5.out.fb) _
      have c4' : W7.cell? ⟨b, 4, none⟩ = some (.slice (some ⟨g, 0, none⟩) Z.length cO) := by simp [World.cell?, hp7]
      have cf' : ∀ j, W7.frozen? ⟨b, j, none⟩ = false := fun j => by simp [World.frozen?, hp7]
      have HS8 : Hid (w.heap.size ≤ V5.heap.size) := (HB1.out.trans (HC5.out.mono HSZ.out)).size
      rw [← hn] at hzl2 HE2
      have HGN : Hid (((Z.length - n : Nat) : Int) = (Z.length : Int) - n) := by show _ = _; omega
      have H8 := Lib.hid h8
      have HCG := Lib.hid hcg
      have HNN := Lib.hid hn
      have hnn : n ≤ 16 := by omega
      clear c4 cf hc hc7 hp7 h8 hcg hn ho
      go_wp2_with fail
      go_ret
      rw [HE1.out, HE2.out, HGN.out]
      refine ⟨by go_num, HCG.out, _, _, _, H8.out, fun k hk => hk.imp (fun h => h) (fun h => Nat.le_trans HS8.out h.1)⟩
end
end Go.Proofs.YtdigjklhfimnbaaGreat
