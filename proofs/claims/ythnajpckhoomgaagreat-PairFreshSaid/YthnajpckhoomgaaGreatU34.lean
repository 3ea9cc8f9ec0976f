/- Texts Are, Aq4, Pq3, Tp0 of this proof, in one. No conditions but on lengths. -/
import Derived.Test.YthnajpckhoomgaaGreatRows
import Derived.Test.YthnajpckhoomgaaGreatU55
import Derived.Test.YthnajpckhoomgaaGreatU11
import Derived.Test.YthnajpckhoomgaaGreatU29
import Derived.Test.YthnajpckhoomgaaGreatU33
import Derived.ArgAppend
import Derived.Below
import Derived.BigQuiet
import Derived.Calls
import Derived.ChangeAlike
import Derived.ChangeArms
import Derived.ChangeMade
import Derived.ChangeOld
import Derived.Deep.Cut
import Derived.Deep.CutBlock
import Derived.Deep.QuietTactic
import Derived.Deep.RegionHeld
import Derived.Deep.RegionLaw
import Derived.Deep.RegionWith
import Derived.Deep.Slices
import Derived.Defers
import Derived.Laws.AppendOwnNone
import Derived.Laws.BitsLemmas
import Derived.Laws.BytesArg
import Derived.Laws.LoneSync
import Derived.Laws.OwnMore
import Derived.Laws.Pointers
import Derived.Laws.StructEq
import Derived.Lib.Hide
import Derived.Lib.QuietBelow
import Derived.LoopIn
import Derived.LoopTactic
import Derived.Maps.AppendAt
import Derived.Maps.Own
import Derived.Maps.OwnOps
import Derived.Maps.OwnSet
import Derived.OpenShut
import Derived.Orders
import Derived.Outline
import Derived.OwnWalkIn
import Derived.ProofKit
import Derived.RangeFuncBox
import Derived.RangeFuncCalls
import Derived.RangeFuncLeaves
import Derived.RangeFuncNested
import Derived.RegionCalls
import Derived.RegionTactic
import Derived.Shelf.RegionOpen
import Derived.Shelf.RegionOpenPlain
import Derived.ShutString
import Derived.StillTail
import Derived.TacticsInMore
import Derived.WalkKit
import Derived.WalkLawsBesides
import Derived.WalkSpells
import Derived.WideShapes
namespace Go.Proofs.YthnajpckhoomgaaGreat
set_option maxRecDepth 100000
open Go.RowKit
attribute [local go_sem] Oper.semAt_some

theorem wideC' {P : Program} {m : Nat} {f : FuncId} {args : Array Value} {w : World} {R : Ending → World → Prop} (h : Calls P f args w R) :
    Fence.wide.fn f ∧ CallsIn Fence.wide m P f args w R := ⟨trivial, callsIn_wide.2 h⟩
theorem wideR' {P : Program} {m l : Nat} {f : FuncId} {args : Array Value} {w : World} {R : Ending → World → Prop} (h : Calls P f args w R) :
    (Fence.wide.inRound l).fn f ∧ CallsIn (Fence.wide.inRound l) m P f args w R := ⟨trivial, CallsIn.inRound l (callsIn_wide.2 h)⟩
theorem abK_and {β : Type} {D E : Nat} {I I' : β → World → Prop} (h : AbK D E I) (h' : AbK D E I') : AbK D E (fun s W => I s W ∧ I' s W) :=
  fun s W W' row hs hg hr => ⟨h s W W' row hs.1 hg hr, h' s W W' row hs.2 hg hr⟩
theorem abK_pure {β : Type} {D E : Nat} (p : β → Prop) : AbK D E (fun s (_ : World) => p s) := fun _ _ _ _ hs _ _ => hs
theorem abK_boxed {β : Type} {D E B : Nat} {t : TypeId} (hB : B < D) (f : β → Value) : AbK D E (fun s W => Boxed W B t (f s)) :=
  fun _ _ _ _ hs hg hr => hs.kept hg (fun e => by have := hr B e.symm; omega)
theorem abK_below {β : Type} {D E n : Nat} {w : World} (hn : n ≤ D) (hw : n ≤ w.heap.size) : AbK D E (fun (_ : β) W => Below n w W) :=
  fun _ _ _ _ hs hg hr => hs.grown hg (Nat.le_trans hw hs.size) (fun k e => by have := hr k e; omega)
def PrOk (x : (Int × Int) × (Int × Int)) : Prop := x.1.1 < x.2.1 ∧ x.2.1 < 64 ∧ EpOk x.2.2
theorem prok_iff (ys : List (Int × Int)) : (∀ i, i < ys.length → PrOk (prE ys i)) ↔ ∀ i, i < ys.length → EcAt ys i := by
  constructor
  · intro h i
    induction i with
    | zero => intro hi; have := h 0 hi; have h3 : (-1 : Int) < (ys.getD 0 (0, 0)).1 := this.1; exact ⟨⟨by omega, this.2.1⟩, fun h0 => absurd h0 (by decide), this.2.2⟩
    | succ i ih =>
      intro hi
      have h1 := ih (by omega)
      have h2 := h (i + 1) hi
      unfold PrOk prE prevE at h2
      simp only at h2
      exact ⟨⟨by have := h1.1.1; omega, h2.2.1⟩, fun _ => by rw [Nat.add_sub_cancel]; exact h2.1, h2.2.2⟩
  · intro h i hi
    have h1 := h i hi
    unfold PrOk prE
    cases i with
    | zero => exact ⟨by have h3 : (0 : Int) ≤ (ys.getD 0 (0, 0)).1 := h1.1.1; show (-1 : Int) < (ys.getD 0 (0, 0)).1; omega, h1.1.2, h1.2.2⟩
    | succ i => exact ⟨by have := h1.2.1 (by omega); rw [Nat.add_sub_cancel] at this; exact this, h1.1.2, h1.2.2⟩
theorem isep_fix (n : Int) (q : Bool) (hq : q = true ↔ EpOk n) (w : World) : Calls Tryz.prog 92 #[.int .i64 n] w fun e w' => e = .returned (.bool q) ∧ w = w' := by
  unfold EpOk at hq
  by_cases h1 : 0 ≤ n
  · by_cases h2 : n ≤ 4294967295
    · obtain rfl : q = true := hq.2 ⟨h1, h2⟩
      clear hq
      go_enter Tryz.func92, Tryz.ntmps92
      go_wp2
      go_ret
      exact ⟨rfl, rfl⟩
    · obtain rfl : q = false := by cases q with
        | false => rfl
        | true => exact absurd (hq.1 rfl).2 h2
      clear hq
      go_enter Tryz.func92, Tryz.ntmps92
      go_wp2
      go_ret
      exact ⟨rfl, rfl⟩
  · obtain rfl : q = false := by cases q with
      | false => rfl
      | true => exact absurd (hq.1 rfl).1 h1
    clear hq
    go_enter Tryz.func92, Tryz.ntmps92
    go_wp2
    go_ret
    exact ⟨rfl, rfl⟩
/-- What a round's assignments have laid: two new echoes; the record has turned. -/
theorem two_new {W W2 : World} {r : Nat} (x1 x2 y1 y2 : Int) (hg : ((W.alloc (.cells #[.int .i64 x1, .int .i64 x2] 23)).alloc (.cells #[.int .i64 y1, .int .i64 y2] 23)).grownBy W2 (some r)) (hr : r < W.heap.size) :
    (W2.cell? ⟨W.heap.size, 0, none⟩ = some (.int .i64 x1) ∧ W2.cell? ⟨W.heap.size, 1, none⟩ = some (.int .i64 x2)) ∧ (W2.cell? ⟨W.heap.size + 1, 0, none⟩ = some (.int .i64 y1) ∧ W2.cell? ⟨W.heap.size + 1, 1, none⟩ = some (.int .i64 y2)) ∧ W.heap.size + 2 ≤ W2.heap.size := by
  have h1 := hg.block W.heap.size (by simp; omega) (by simp; omega)
  have h2 := hg.block (W.heap.size + 1) (by simp) (by simp; omega)
  refine ⟨⟨?_, ?_⟩, ⟨?_, ?_⟩, by simpa using hg.size⟩
  · rw [World.cell?_of_block (a := ⟨W.heap.size, 0, none⟩) h1]; simp
  · rw [World.cell?_of_block (a := ⟨W.heap.size, 1, none⟩) h1]; simp
  · rw [World.cell?_of_block (a := ⟨W.heap.size + 1, 0, none⟩) h2]; simp
  · rw [World.cell?_of_block (a := ⟨W.heap.size + 1, 1, none⟩) h2]; simp
/-- Between two rounds of areRight; where a round has left. -/
def I29 (w : World) (pre : List ((Int × Int) × (Int × Int))) (W : World) : Prop := Boxed W w.heap.size 4 (.bool false) ∧ (∀ x ∈ pre, PrOk x) ∧ Below w.heap.size w W
def X29 (w : World) (ex : Code) (pre : List ((Int × Int) × (Int × Int))) (W : World) : Prop := Boxed W w.heap.size 4 (.bool false) ∧ (ex = .ret ∧ ∃ x ∈ pre, ¬ PrOk x) ∧ Below w.heap.size w W
theorem postM_cell {P : Program} {n : Nat} {fn : Func} {R : Ending → World → Prop} {D : Nat} {tmps : Array Value} {w : World} {v : Value} (hK : w.heap[D]? = some (.deferred (some []))) (hr : (results fn tmps).run P (w.putObj D (.deferred none)) = .ok v (w.putObj D (.deferred none))) (h : R (.returned v) (w.putObj D (.deferred none))) :
    bodyPostM Fence.wide n P fn R .ret { tmps, defers := [{ target := .collected D, args := #[] }] } w := ⟨by simp, .inl ⟨_, _, rfl, run_takeDeferred hK, _, hr, h⟩⟩
set_option maxHeartbeats 8000000 in
theorem areright_fix (v : Value) (ys : List (Int × Int)) (q : Bool) (hq : q = true ↔ ∀ i, i < ys.length → PrOk (prE ys i)) (w : World) (hE : El w v ys) (hl : ys.length ≤ 3000) :
    Calls Tryz.prog 93 #[v] w fun e w' => e = .returned (.bool q) ∧ Below w.heap.size w w' := by
  obtain ⟨a, c, rfl⟩ := hE.1.form
  obtain ⟨W1, hW1⟩ : ∃ W1, W1 = w.alloc (.cells #[.bool false] 4) := ⟨_, rfl⟩
  have hb1 : Below w.heap.size w W1 := by rw [hW1]; exact (Below.refl _ w).alloc (Nat.le_refl _) _
  have cT := inturn25 _ ys W1 (hE.below hb1).1
  obtain ⟨W2, hW2⟩ : ∃ W2, W2 = W1.alloc (.cells #[.slice a ys.length c] 70) := ⟨_, rfl⟩
  rw [← hW2] at cT
  have hs1 : W1.heap.size = w.heap.size + 1 := by rw [hW1]; simp
  have hs2 : W2.heap.size = w.heap.size + 2 := by rw [hW2]; simp [hs1]
  have bR : Boxed W2 w.heap.size 4 (.bool false) := by rw [hW2, hW1]; exact (Boxed.new w 4 _).alloc _
  have bL : Boxed W2 (w.heap.size + 1) 70 (.slice a ys.length c) := by rw [hW2, ← hs1]; exact Boxed.new W1 70 _
  have hb2 : Below w.heap.size w W2 := by rw [hW2]; exact hb1.alloc (by omega) _
  have SQ := iter36 4 w W2 (w.heap.size + 1) a c ys hE hb2 hl bL.cell
  refine callsIn_wide.1 (callsIn_of_wp_marks (n := 5) Tryz.func93 rfl trivial ?_ rfl)
  simp only [Tryz.ntmps93, List.size_toArray, List.length_cons, List.length_nil, Nat.reduceAdd, Nat.reduceSub, Array.replicate_succ, Array.replicate_zero, List.push_toArray, List.append_toArray, List.nil_append, List.cons_append]
  gi_wp2_with fail
  rw [← hW1]
  rw [hs1] at cT
  refine wideC' (cT.mono ?_)
  rintro e V2 ⟨rfl, rfl⟩
  clear cT hW1 hW2
  gi_wp2_with fail
  refine wpIn_rangeFuncV rfl (by decide) (gf := 168) (lb := #[.pointer (some ⟨w.heap.size + 1, 0, none⟩)]) rfl trivial (enters_of Tryz.func168 (by kernel_rfl) rfl) SQ (Below.refl _ _) (fun _ => rfl)
    (w.heap.size + 2) (w.heap.size + 2 + 2 + 2) hs2 rfl (by omega) (by omega) (by omega)
    (I29 w) (X29 w)
    (abK_and (abK_boxed (by omega) _) (abK_and (abK_pure _) (abK_below (by omega) (Nat.le_refl _))))
    (fun ex => abK_and (abK_boxed (by omega) _) (abK_and (abK_pure _) (abK_below (by omega) (Nat.le_refl _))))
    ⟨bR, fun x h => (by cases h), hb2⟩ ?round ?done ?stop
  case round =>
    rintro l pre ⟨⟨x1, x2⟩, y1, y2⟩ W hI hsz hpre
    have HQ := Lib.hid (And.intro hI (And.intro hsz hpre))
    clear hE hb1 bR bL hb2 SQ hI hpre
    simp [encE]
    gi_wp2_with fail
    refine ⟨(Keep.alloc _ _ _ _).trans (Keep.alloc _ _ _ _), ((Below.refl _ W).alloc (by omega) _).alloc (by simp; omega) _, fun V hg => ?_⟩
    obtain ⟨⟨a0, a1⟩, ⟨e0, e1⟩, hs⟩ := two_new x1 x2 y1 y2 hg (by omega)
    have hbx : Boxed V w.heap.size 4 (.bool false) := ((HQ.out.1.1.alloc _).alloc _).kept hg (by simp; omega)
    have hbw : Below w.heap.size w V := ((HQ.out.1.2.2.alloc (by omega) _).alloc (by simp; omega) _).grown hg (by simp; omega) (fun k e => by cases e; omega)
    obtain ⟨q2, hq2⟩ : ∃ q2 : Bool, q2 = true ↔ EpOk y2 := ⟨decide (EpOk y2), decide_eq_true_iff⟩
    have cI := isep_fix y2 q2 hq2 V
    have HV := Lib.hid (And.intro hbx (And.intro hbw hg))
    have r0 := hbx.cell
    have rf := hbx.frozen
    clear hbx hbw hg
    generalize W.heap.size = g at *
    have NO : ¬ PrOk ((x1, x2), y1, y2) → Keep (w.heap.size + 1) (w.heap.size + 2 + 2 + 2) V (V.setCell ⟨w.heap.size, 0, none⟩ (.bool false)) ∧ X29 w .ret (pre ++ [((x1, x2), y1, y2)]) (V.setCell ⟨w.heap.size, 0, none⟩ (.bool false)) := fun hn =>
      ⟨Keep.setCell V _ _ _ (.inl (Nat.lt_succ_self _)), HV.out.1.set _, ⟨rfl, _, List.mem_append_right _ (List.mem_singleton.2 rfl), hn⟩, HV.out.2.1.setCell (p := ⟨w.heap.size, 0, none⟩) (Nat.le_refl _) _⟩
    have HNO := Lib.hid NO
    clear NO
    by_cases c1 : y1 ≤ x1
    · have hn : Hid (¬ PrOk ((x1, x2), y1, y2)) := fun h => by have := h.1; simp only at this; omega
      gi_wp2_with (refine ⟨trivial, ?_⟩)
      exact HNO.out hn.out
    · by_cases c2 : 64 ≤ y1
      · have hn : Hid (¬ PrOk ((x1, x2), y1, y2)) := fun h => by have := h.2.1; simp only at this; omega
        gi_wp2_with (refine ⟨trivial, ?_⟩)
        exact HNO.out hn.out
      · have hp : Hid (PrOk ((x1, x2), y1, y2) ↔ EpOk y2) := ⟨fun h => h.2.2, fun h => ⟨by show x1 < y1; omega, by show y1 < 64; omega, h⟩⟩
        have HQ2 := Lib.hid hq2
        clear hq2
        cases q2 with
        | false =>
          gi_wp2_with (refine wideR' (cI.mono ?_); rintro e V' ⟨rfl, rfl⟩)
          exact HNO.out fun h => by cases HQ2.out.2 (hp.out.1 h)
        | true =>
          gi_wp2_with (refine wideR' (cI.mono ?_); rintro e V' ⟨rfl, rfl⟩)
          refine ⟨Keep.refl _ _ _, Below.refl _ _, HV.out.1, fun x hx => ?_, HV.out.2.1⟩
          rcases List.mem_append.1 hx with hx | hx
          · exact HQ.out.1.2.1 x hx
          · rw [List.mem_singleton.1 hx]; exact hp.out.2 (by have := HQ2.out; simpa using this)
  case done =>
    rintro W ⟨hB, hP, hbel⟩ hK
    have hc := hB.cell
    have hf := hB.frozen
    gi_wp2_with fail
    have hK2 := (KeepsOthers.setCell W ⟨w.heap.size, 0, none⟩ (.bool true)).same _ _ hK rfl
    have h2 := ((hB.set (.bool true)).kept (grownBy_putObj' _ (w.heap.size + 2) (.deferred none)) (by simp)).cell
    have h3 : Below w.heap.size w ((W.setCell ⟨w.heap.size, 0, none⟩ (.bool true)).putObj (w.heap.size + 2) (.deferred none)) := (hbel.setCell (p := ⟨w.heap.size, 0, none⟩) (Nat.le_refl _) _).grown (grownBy_putObj' _ _ _) (by simp; exact hbel.size) (fun k e => by cases e; omega)
    obtain rfl : q = true := hq.2 fun i hi => hP _ (List.mem_map.2 ⟨i, List.mem_range.2 hi, rfl⟩)
    refine postM_cell hK2 (v := .bool true) ?_ ⟨rfl, h3⟩
    generalize ((W.setCell ⟨w.heap.size, 0, none⟩ (.bool true)).putObj (w.heap.size + 2) (.deferred none)) = W5 at *
    simp [results, Tryz.results93, go_sem, h2]
  case stop =>
    rintro ex pre W hpre ⟨hB, ⟨rfl, hP⟩, hbel⟩ hK
    have h2 := (hB.kept (grownBy_putObj' _ (w.heap.size + 2) (.deferred none)) (by simp)).cell
    have h3 : Below w.heap.size w (W.putObj (w.heap.size + 2) (.deferred none)) := hbel.grown (grownBy_putObj' _ _ _) hbel.size (fun k e => by cases e; omega)
    obtain rfl : q = false := by
      cases q with
      | false => rfl
      | true =>
        obtain ⟨x, hx, hn⟩ := hP
        obtain ⟨i, hi, rfl⟩ := List.mem_map.1 (hpre.subset hx)
        exact absurd (hq.1 rfl i (List.mem_range.1 hi)) hn
    gi_wp2_with fail
    refine postM_cell hK (v := .bool false) ?_ ⟨rfl, h3⟩
    generalize (W.putObj (w.heap.size + 2) (.deferred none)) = W5 at *
    simp [results, Tryz.results93, go_sem, h2]
theorem check_fix6 (M : Int) (v : Value) (ys : List (Int × Int)) (Q : Bool) (hQ : Q = true ↔ BeOk M ys) (w : World) (hE : El w v ys) (hl : ys.length ≤ 3000) :
    Calls Tryz.prog 52 #[.agg #[.int .i64 M, v]] w fun e w' => e = .returned (.int .i64 (if Q then 0 else 1)) ∧ Below w.heap.size w w' := by
  obtain ⟨a, c, rfl⟩ := hE.1.form
  have hb : Below w.heap.size w (w.alloc (.cells #[.int .i64 M, .slice a ys.length c] 72)) := (Below.refl _ w).alloc (Nat.le_refl _) _
  obtain ⟨q1, hq1⟩ : ∃ q1 : Bool, q1 = true ↔ EpOk M := ⟨decide (EpOk M), decide_eq_true_iff⟩
  obtain ⟨q2, hq2⟩ : ∃ q2 : Bool, q2 = true ↔ ∀ i, i < ys.length → PrOk (prE ys i) := by
    by_cases h : ∀ i, i < ys.length → PrOk (prE ys i)
    · exact ⟨true, ⟨fun _ => h, fun _ => rfl⟩⟩
    · exact ⟨false, ⟨fun h' => (by cases h'), fun h' => absurd h' h⟩⟩
  have CI := Lib.hid (isep_fix M q1 hq1 (w.alloc (.cells #[.int .i64 M, .slice a ys.length c] 72)))
  have CA := Lib.hid (areright_fix _ ys q2 hq2 (w.alloc (.cells #[.int .i64 M, .slice a ys.length c] 72)) (hE.below hb) hl)
  have hQ2 : Q = (q1 && q2) := by
    have h3 : Q = true ↔ (q1 && q2) = true := by
      rw [hQ, Bool.and_eq_true, hq1, hq2, prok_iff]
      exact and_comm
    cases Q <;> cases h : (q1 && q2) <;> simp_all
  have HB := Lib.hid hb
  clear hq1 hq2 hQ hE hb
  subst hQ2
  cases q1 with
  | false =>
    go_enter Tryz.func52, Tryz.ntmps52
    go_wp2_with (refine CI.out.mono ?_; rintro e w1 ⟨rfl, rfl⟩)
    go_ret
    exact ⟨rfl, HB.out⟩
  | true =>
    cases q2 with
    | false =>
      go_enter Tryz.func52, Tryz.ntmps52
      go_wp2_with fail
      refine CI.out.mono ?_
      rintro e w1 ⟨rfl, rfl⟩
      go_wp2_with fail
      refine CA.out.mono ?_
      rintro e w1 ⟨rfl, hb⟩
      have HB2 := Lib.hid (HB.out.trans (hb.mono HB.out.size))
      clear hb
      go_wp2_with fail
      go_ret
      exact ⟨rfl, HB2.out⟩
    | true =>
      go_enter Tryz.func52, Tryz.ntmps52
      go_wp2_with fail
      refine CI.out.mono ?_
      rintro e w1 ⟨rfl, rfl⟩
      go_wp2_with fail
      refine CA.out.mono ?_
      rintro e w1 ⟨rfl, hb⟩
      have HB2 := Lib.hid (HB.out.trans (hb.mono HB.out.size))
      clear hb
      go_wp2_with fail
      go_ret
      exact ⟨rfl, HB2.out⟩
end Go.Proofs.YthnajpckhoomgaaGreat
namespace Go.Proofs.YthnajpckhoomgaaGreat
set_option maxRecDepth 100000
open Go.RowKit

theorem mk_tb (x : Int) (cs : List Int) (i : Nat) : (mk x cs 16).toNat.testBit i = (decide (i < 16) && hit x cs i) := by
  have hb := mk_bd x cs 16
  rw [pow2_16] at hb
  rcases Nat.lt_or_ge i 16 with h | h
  · have h1 := mk_bit x cs 16 i h
    rw [pow2_eq] at h1
    obtain ⟨a, ha⟩ := Int.eq_ofNat_of_zero_le hb.1
    rw [ha] at h1 ⊢
    rw [Int.toNat_natCast, Nat.testBit_eq_decide_div_mod_eq, decide_eq_true h, Bool.true_and]
    have h2 : a / 2 ^ i % 2 = 1 ↔ hit x cs i = true := by rw [← h1]; exact ⟨fun e => by exact_mod_cast e, fun e => by exact_mod_cast e⟩
    cases hq : hit x cs i with
    | true => exact decide_eq_true (h2.2 hq)
    | false => exact decide_eq_false fun e => by rw [h2.1 e] at hq; cases hq
  · rw [decide_eq_false (by omega), Bool.false_and]
    refine Nat.testBit_lt_two_pow ?_
    have : (2 : Nat) ^ 16 ≤ 2 ^ i := Nat.pow_le_pow_right (by decide) h
    have h3 : (2 : Nat) ^ 16 = 65536 := by decide
    omega
theorem bitF_tb (k : Int) (i : Nat) : (bitF k).toNat.testBit i = (decide (i < 16) && decide (k = (i : Int) + 1)) := by
  unfold bitF
  split
  · rename_i h
    rw [pow2_eq, Int.toNat_natCast, Nat.testBit_two_pow]
    by_cases h1 : k = (i : Int) + 1
    · rw [decide_eq_true (show (k - 1).toNat = i by omega), decide_eq_true h1, decide_eq_true (show i < 16 by omega)]; rfl
    · rw [decide_eq_false (show ¬ (k - 1).toNat = i by omega), decide_eq_false h1, Bool.and_false]
  · rename_i h
    rw [Int.toNat_zero, Nat.zero_testBit]
    by_cases h1 : k = (i : Int) + 1
    · rw [decide_eq_false (show ¬ i < 16 by omega), Bool.false_and]
    · rw [decide_eq_false h1, Bool.and_false]
theorem bitF_bd (k : Int) : 0 ≤ bitF k ∧ bitF k ≤ 65536 := by
  unfold bitF
  split
  · have := pow2_pos (k - 1).toNat; have := pow2_small (n := (k - 1).toNat) (by omega); omega
  · omega
/-- One more that came. -/
theorem or_mk (x c : Int) (cs : List Int) : bits .or .i64 (mk x cs 16) (bitF (far x c)) = mk x (cs ++ [c]) 16 := by
  have h1 := mk_bd x cs 16
  have h2 := bitF_bd (far x c)
  have h3 := mk_bd x (cs ++ [c]) 16
  rw [pow2_16] at h1 h3
  have e1 : mk x cs 16 = ((mk x cs 16).toNat : Int) := by omega
  have e2 : bitF (far x c) = ((bitF (far x c)).toNat : Int) := by omega
  have h62 : (2 : Nat) ^ 62 = 4611686018427387904 := by decide
  rw [e1, e2, (bits_nat .i64 62 (by decide) wr62 _ _ (by omega) (by omega)).2]
  have e3 : mk x (cs ++ [c]) 16 = ((mk x (cs ++ [c]) 16).toNat : Int) := by omega
  rw [e3]
  congr 1
  apply Nat.eq_of_testBit_eq
  intro i
  rw [Nat.testBit_or, mk_tb, bitF_tb, mk_tb, ← Bool.and_or_distrib_left]
  congr 1
  unfold hit
  rw [List.any_append]
  congr 1
  rw [Bool.eq_iff_iff]; simp
set_option maxHeartbeats 32000000 in
theorem akof_ok (x : Int) (v : Value) (cs : List Int) (w : World) (hx : 0 ≤ x ∧ x ≤ 65535) (hv : Zs w v cs) (hl : cs.length ≤ 1000) :
    Calls Tryz.prog 176 #[.int .i64 x, v] w fun e w' => e = .returned (.tuple #[.agg #[.int .i64 0, .int .i64 0, .int .i64 x, .int .i64 (mk x cs 16)], .int .i64 0]) ∧ Below w.heap.size w w' := by
  have HV := Lib.hid hv
  obtain ⟨a, c, rfl, -, -, -⟩ := Zs_open hv
  clear hv
  have HS := Lib.hid ((shB_iff x).2 hx)
  go_enter Tryz.func176, Tryz.ntmps176
  go_wp2_with fail
  refine (akshort_any x _).mono ?_
  rintro e w1 ⟨rfl, hw⟩
  subst hw
  rw [HS.out]
  go_wp2_with fail
  obtain ⟨V, hVe⟩ : ∃ V, (w.alloc (.cells #[.int .i64 0, .int .i64 0, .int .i64 0, .int .i64 0] 112)).alloc (.cells #[.int .i64 0, .int .i64 0, .int .i64 x, .int .i64 0] 112) = V := ⟨_, rfl⟩
  have hs1 : (w.alloc (.cells #[.int .i64 0, .int .i64 0, .int .i64 0, .int .i64 0] 112)).heap.size = w.heap.size + 1 := by simp
  have hb1 : Below w.heap.size w (w.alloc (.cells #[.int .i64 0, .int .i64 0, .int .i64 0, .int .i64 0] 112)) := (Below.refl _ w).alloc (Nat.le_refl _) _
  have OA := owna_alloc (w.alloc (.cells #[.int .i64 0, .int .i64 0, .int .i64 0, .int .i64 0] 112)) 0 0 x 0 112 (w.heap.size + 1) hs1.symm
  have OR := (owna_alloc w 0 0 0 0 112 w.heap.size rfl).below ((Below.refl _ _).alloc (Nat.le_refl _) (.cells #[.int .i64 0, .int .i64 0, .int .i64 x, .int .i64 0] 112))
  have HB : Below w.heap.size w ((w.alloc (.cells #[.int .i64 0, .int .i64 0, .int .i64 0, .int .i64 0] 112)).alloc (.cells #[.int .i64 0, .int .i64 0, .int .i64 x, .int .i64 0] 112)) := hb1.alloc (by omega) _
  rw [hVe] at OA OR HB
  rw [hVe]
  clear hVe hs1 hb1
  have OA0 := Lib.hid OA
  have OR0 := Lib.hid OR
  have HB0 := Lib.hid HB
  clear OA OR HB
  go_loopw [20] (fun i wr => ∃ j : Nat, j ≤ cs.length ∧ i = .int .i64 (j : Int) ∧ OwnA wr (w.heap.size + 1) (0, 0, x, mk x (cs.take j) 16) ∧ OwnA wr w.heap.size (0, 0, 0, 0) ∧ Below w.heap.size w wr) (fun i _ => cs.length - (intOf i).toNat)
  case atStart => exact ⟨0, Nat.zero_le _, rfl, OA0.out, OR0.out, HB0.out⟩
  case round =>
    obtain ⟨j, hj, rfl, oa, or, hbel⟩ := hrel
    have OA := Lib.hid oa
    have OR := Lib.hid or
    have HW := Lib.hid hbel
    clear oa or hbel OA0 OR0 HB0
    by_cases hlj : j < cs.length
    · have HZ := Lib.hid (Zs_below HV.out HW.out)
      obtain ⟨a', c', hv1, -, -, hcs⟩ := Zs_open HZ.out
      simp only [Value.slice.injEq] at hv1
      obtain ⟨rfl, -, rfl⟩ := hv1
      obtain ⟨b, off, rfl, p0⟩ := hcs j hlj
      clear hcs
      obtain ⟨y, hy⟩ : ∃ y, cs.getD j 0 = y := ⟨_, rfl⟩
      rw [hy] at p0
      have HT : Hid (mk x (cs.take (j + 1)) 16 = bits .or .i64 (mk x (cs.take j) 16) (bitF (far x y))) := by
        show _ = _
        rw [or_mk, List.take_succ_eq_append_getElem hlj, ← hy]
        simp [List.getD, hlj]
      have cB := fun W => akbit_any x y W
      obtain ⟨m, hm⟩ : ∃ m, mk x (cs.take j) 16 = m := ⟨_, rfl⟩
      rw [hm] at HT OA
      generalize bitF (far x y) = B at *
      obtain ⟨M, hM⟩ : ∃ M, bits .or .i64 m B = M := ⟨_, rfl⟩
      rw [hM] at HT
      clear hy hm
      go_wp2_with fail
      clear p0
      have kc : ∀ w', Below wr.heap.size wr w' → w'.cell? ⟨w.heap.size + 1, 3, none⟩ = some (.int .i64 m) := fun w' h => (OA.out.below h).1.2.2.2
      refine T3.wp_region_tail (C := fun w' => Below wr.heap.size wr w') (X := fun _ w w' => Below w.heap.size w w') (n := 33) 7 (by kernel_rfl) (by kernel_rfl) (by kernel_rfl) (by kernel_rfl) rfl (fun _ w => Below.refl _ w) (Below.refl _ _).drew ?_
      simp only [List.take_succ_cons, List.take_zero, List.drop_succ_cons, List.drop_zero]
      refine T3.w_is (fun _ w => Below.refl _ w) rfl _ (.inl rfl) (fun ρ w hC hc hfn hf => by have e6 : ρ (.tmp 6) = _ := hf 6 (by decide); (conv => lhs; simp [execOp, go_sem, hc, e6])) ?_
      refine T3.w_is (fun _ w => Below.refl _ w) rfl _ (.inl rfl) (fun ρ w hC hc hfn hf => by have e24 : ρ (.tmp 24) = _ := hf 24 (by decide); (conv => lhs; simp [execOp, go_sem, hc, e24, kc w hC])) ?_
      refine T3.w_is (fun _ w => Below.refl _ w) rfl _ (.inl rfl) (fun ρ w hC hc hfn hf => by have e7 : ρ (.tmp 7) = _ := hf 7 (by decide); (conv => lhs; simp [execOp, go_sem, hc, e7])) ?_
      refine T3.w_is (fun _ w => Below.refl _ w) rfl _ (.inl rfl) (fun ρ w hC hc hfn hf => by have e9 : ρ (.tmp 9) = _ := hf 9 (by decide); (conv => lhs; simp [execOp, go_sem, hc, e9])) ?_
      refine T3.w_call rfl (Is _) (fun _ _ _ _ _ h _ => h) 156 (.inl rfl) (fun ρ w hC hc hfn hf => by have e26 : ρ (.tmp 26) = _ := hf 26 (by decide); have e27 : ρ (.tmp 27) = _ := hf 27 (by decide); exact ⟨_, by (conv => lhs; simp [execOp, resolve, invoke, go_sem, hc, hfn, e26, e27]), (cB w).mono fun e w' h => ⟨_, h.1, hC.trans (h.2.mono hC.size), h.2, rfl⟩⟩) ?_
      refine T3.w_is (fun _ w => Below.refl _ w) rfl _ (.inl rfl) (fun ρ w hC hc hfn hf => by have e25 : ρ (.tmp 25) = _ := hf 25 (by decide); have e28 : ρ (.tmp 28) = _ := hf 28 (by decide); (conv => lhs; simp [execOp, go_sem, hc, e25, e28, hM])) ?_
      refine T3.w_is (fun _ w => Below.refl _ w) rfl _ (.inl rfl) (fun ρ w hC hc hfn hf => by have e6 : ρ (.tmp 6) = _ := hf 6 (by decide); (conv => lhs; simp [execOp, go_sem, hc, e6])) ?_
      intro A V5 hC hn hd hf
      have y0 : A.eval (.tmp 0) = _ := Eq.trans (hf 0) (by conv => lhs; simp [go_sem])
      have y1 : A.eval (.tmp 1) = _ := Eq.trans (hf 1) (by conv => lhs; simp [go_sem])
      have y2 : A.eval (.tmp 2) = _ := Eq.trans (hf 2) (by conv => lhs; simp [go_sem])
      have y3 : A.eval (.tmp 3) = _ := Eq.trans (hf 3) (by conv => lhs; simp [go_sem])
      have y4 : A.eval (.tmp 4) = _ := Eq.trans (hf 4) (by conv => lhs; simp [go_sem])
      have y5 : A.eval (.tmp 5) = _ := Eq.trans (hf 5) (by conv => lhs; simp [go_sem])
      have y6 : A.eval (.tmp 6) = _ := Eq.trans (hf 6) (by conv => lhs; simp [go_sem])
      have y7 : A.eval (.tmp 7) = _ := Eq.trans (hf 7) (by conv => lhs; simp [go_sem])
      have y8 : A.eval (.tmp 8) = _ := Eq.trans (hf 8) (by conv => lhs; simp [go_sem])
      have y9 : A.eval (.tmp 9) = _ := Eq.trans (hf 9) (by conv => lhs; simp [go_sem])
      have y10 : A.eval (.tmp 10) = _ := Eq.trans (hf 10) (by conv => lhs; simp [go_sem])
      have y11 : A.eval (.tmp 11) = _ := Eq.trans (hf 11) (by conv => lhs; simp [go_sem])
      have y12 : A.eval (.tmp 12) = _ := Eq.trans (hf 12) (by conv => lhs; simp [go_sem])
      have y13 : A.eval (.tmp 13) = _ := Eq.trans (hf 13) (by conv => lhs; simp [go_sem])
      have y14 : A.eval (.tmp 14) = _ := Eq.trans (hf 14) (by conv => lhs; simp [go_sem])
      have y15 : A.eval (.tmp 15) = _ := Eq.trans (hf 15) (by conv => lhs; simp [go_sem])
      have y16 : A.eval (.tmp 16) = _ := Eq.trans (hf 16) (by conv => lhs; simp [go_sem])
      have y17 : A.eval (.tmp 17) = _ := Eq.trans (hf 17) (by conv => lhs; simp [go_sem])
      have y18 : A.eval (.tmp 18) = _ := Eq.trans (hf 18) (by conv => lhs; simp [go_sem])
      have y19 : A.eval (.tmp 19) = _ := Eq.trans (hf 19) (by conv => lhs; simp [go_sem])
      have y20 : A.eval (.tmp 20) = _ := Eq.trans (hf 20) (by conv => lhs; simp [go_sem])
      have y21 : A.eval (.tmp 21) = _ := Eq.trans (hf 21) (by conv => lhs; simp [go_sem])
      have y22 : A.eval (.tmp 22) = _ := Eq.trans (hf 22) (by conv => lhs; simp [go_sem])
      have y23 : A.eval (.tmp 23) = _ := Eq.trans (hf 23) (by conv => lhs; simp [go_sem])
      have y24 : A.eval (.tmp 24) = _ := hf 24
      have y25 : A.eval (.tmp 25) = _ := hf 25
      have y26 : A.eval (.tmp 26) = _ := hf 26
      have y27 : A.eval (.tmp 27) = _ := hf 27
      have y28 : A.eval (.tmp 28) = _ := hf 28
      have y29 : A.eval (.tmp 29) = _ := hf 29
      have y30 : A.eval (.tmp 30) = _ := hf 30
      have y31 : A.eval (.tmp 31) = _ := Eq.trans (hf 31) (by conv => lhs; simp [go_sem])
      have y32 : A.eval (.tmp 32) = _ := Eq.trans (hf 32) (by conv => lhs; simp [go_sem])
      clear hf
      have hA := frame_eq hn
      rw [show List.range 33 = [0, 1, 2, 3, 4, 5, 6, 7, 8, 9, 10, 11, 12, 13, 14, 15, 16, 17, 18, 19, 20, 21, 22, 23, 24, 25, 26, 27, 28, 29, 30, 31, 32] from rfl, hd] at hA
      simp only [List.map_cons, List.map_nil, y0, y1, y2, y3, y4, y5, y6, y7, y8, y9, y10, y11, y12, y13, y14, y15, y16, y17, y18, y19, y20, y21, y22, y23, y24, y25, y26, y27, y28, y29, y30, y31, y32] at hA
      clear y0 y1 y2 y3 y4 y5 y6 y7 y8 y9 y10 y11 y12 y13 y14 y15 y16 y17 y18 y19 y20 y21 y22 y23 y24 y25 y26 y27 y28 y29 y30 y31 y32
      clear hn hd
      subst hA
      have OA1 := Lib.hid (OA.out.below hC)
      have OR1 := Lib.hid (OR.out.below hC)
      have HW1 : Hid (Below w.heap.size w V5) := HW.out.trans (hC.mono HW.out.size)
      obtain ⟨⟨z0, z1, z2, z3⟩, zf⟩ := OA1.out
      go_wp2_with fail
      go_roundw
      case rel => exact ⟨j + 1, by omega, by go_num, by rw [HT.out]; exact OA1.out.set3 _, OR1.out.apart (by omega) 3, HW1.out.setCell (p := ⟨_, _, _⟩) (by simp) _⟩
      case measure => simp [intOf]; omega
    · obtain rfl : j = cs.length := by omega
      rw [List.take_length] at OA
      obtain ⟨⟨z0, z1, z2, z3⟩, zf⟩ := OR.out
      obtain ⟨⟨y0, y1, y2, y3⟩, yf⟩ := OA.out
      go_wp2_with fail
      have hs := (OR.out.set 0 0 x (mk x cs 16)).1
      have hbs := bel_put4 (b := w.heap.size) HW.out (Nat.le_refl _) 0 0 x (mk x cs 16)
      simp only [put4] at hs hbs
      generalize (((wr.setCell ⟨w.heap.size, 0, none⟩ (.int .i64 0)).setCell ⟨w.heap.size, 1, none⟩ (.int .i64 0)).setCell ⟨w.heap.size, 2, none⟩ (.int .i64 x)).setCell ⟨w.heap.size, 3, none⟩ (.int .i64 (mk x cs 16)) = W5 at *
      obtain ⟨s0_, s1_, s2_, s3_⟩ := hs
      exact bodyPost_ret (v := .tuple #[.agg #[.int .i64 0, .int .i64 0, .int .i64 x, .int .i64 (mk x cs 16)], .int .i64 0]) (by simp [results, Tryz.results176, go_sem, s0_, s1_, s2_, s3_]) rfl ⟨rfl, hbs⟩
end Go.Proofs.YthnajpckhoomgaaGreat
namespace Go.Proofs.YthnajpckhoomgaaGreat
set_option maxRecDepth 100000
set_option linter.unusedVariables false
open Go.RowKit

set_option maxHeartbeats 8000000 in
theorem ppush_any {w : World} {F : Nat → Prop} {b : Nat} {s : Sd} {Z : Zs1} {vW vO : Value} (y : Ob) (h : PZ w F b s Z vW vO) (hl : s.W.length ≤ 1024) :
    Calls Tryz.prog 32 #[.pointer (some ⟨b, 0, none⟩), .agg #[.int .i64 y.k, .int .i64 y.x, .bool y.n, .int .i64 y.t, .int .i64 y.o, .int .i64 y.r, .int .i64 y.d, .int .i64 y.i, .int .i64 y.p, .int .i64 y.q, .int .i64 y.s, .int .i64 y.m]] w fun e w' => e = .returned (.int .i64 (pushR s y).1) ∧ Chg F w w' ∧ ∃ F' vW', PZ w' F' b (pushR s y).2 Z vW' vO ∧ ∀ k, F' k → F k ∨ w.heap.size ≤ k := by
  obtain ⟨W1, hW1⟩ : ∃ W1, w.alloc (.cells #[.int .i64 y.k, .int .i64 y.x, .bool y.n, .int .i64 y.t, .int .i64 y.o, .int .i64 y.r, .int .i64 y.d, .int .i64 y.i, .int .i64 y.p, .int .i64 y.q, .int .i64 y.s, .int .i64 y.m] 39) = W1 := ⟨_, rfl⟩
  have hb1 : Below w.heap.size w W1 := hW1 ▸ (Below.refl _ w).alloc (Nat.le_refl _) _
  obtain ⟨g0, hg0⟩ : ∃ g0, w.heap.size = g0 := ⟨_, rfl⟩
  have hs1 : W1.heap.size = g0 + 1 := by rw [← hg0, ← hW1]; simp
  have hy1 : Cells12 W1 g0 y.k y.x y.n y.t y.o y.r y.d y.i y.p y.q y.s y.m := by rw [← hW1, ← hg0]; exact cells12_alloc w _ _ _ _ _ _ _ _ _ _ _ _ _
  have HFL : Hid (∀ k, F k → k < g0) := fun k hk => hg0 ▸ h.lt k hk
  obtain ⟨a, c, rfl⟩ := h.wform
  have H1 := Lib.hid (h.below hb1)
  have HB1 := Lib.hid hb1
  have HW1 := Lib.hid hW1
  have HG0 := Lib.hid hg0
  have HS1 := Lib.hid hs1
  have HY1 := Lib.hid hy1
  have HL := Lib.hid hl
  have C1 := Lib.hid (ocheck_any y.k y.x y.n y.t y.o y.r y.d y.i y.p y.q y.s y.m W1)
  clear h hb1 hW1 hg0 hs1 hy1 hl
  go_enter Tryz.func32, Tryz.ntmps32
  go_upto_region 1 with (fail)
  rw [HW1.out]
  simp only [HG0.out]
  obtain ⟨u0, u1, u2, u3, u4, u5, u6, u7, u8, u9, u10, u11⟩ := HY1.out
  go_wp2_with fail
  refine C1.out.mono ?_
  rintro e W2 ⟨rfl, hb⟩
  clear u0 u1 u2 u3 u4 u5 u6 u7 u8 u9 u10 u11
  have HY2 := Lib.hid (HY1.out.below hb)
  have H2 := Lib.hid (H1.out.below hb)
  have HB2 := Lib.hid (HB1.out.trans (hb.mono HB1.out.size))
  have HS2 : Hid (g0 + 1 ≤ W2.heap.size) := HS1.out ▸ hb.size
  clear hb C1
  by_cases hok : y.Ok
  · have e0 : obc y.k y.x y.n y.t y.o y.r y.d y.i y.p y.q y.s y.m = 0 := obc_ok hok
    obtain ⟨c0, c1, c2, c3, c4, cf⟩ := H2.out.cells
    rw [e0]
    by_cases hf : s.W.length = 1024
    · have e1 : Hid (pushR s y = (8, s)) := pushR_full hok (by omega)
      have hd : ((s.W.length : Int) == 1024) = true := by rw [hf]; rfl
      clear hok hf e0
      go_wp2_with fail
      go_ret
      rw [e1.out]
      exact ⟨rfl, chg0 HB2.out, F, _, H2.out, fun k hk => .inl hk⟩
    · have e1 : Hid (pushR s y = (0, { s with W := s.W ++ [y] })) := pushR_ok hok (by have := HL.out; omega)
      have hd : ((s.W.length : Int) == 1024) = false := beq_false_of_ne (by omega)
      clear hok hf e0
      clear c0 c1 c2 c4 cf
      go_upto_region 8 with (fail)
      clear c3
      have kc : ∀ w', Chg (fun k => (Value.slice a s.W.length c).ownBlock = some k) W2 w' → (w'.cell? ⟨b, 3, none⟩ = some (.slice a s.W.length c)) ∧ w'.cell? ⟨g0, 0, none⟩ = some (.int .i64 y.k) ∧ w'.cell? ⟨g0, 1, none⟩ = some (.int .i64 y.x) ∧ w'.cell? ⟨g0, 2, none⟩ = some (.bool y.n) ∧ w'.cell? ⟨g0, 3, none⟩ = some (.int .i64 y.t) ∧ w'.cell? ⟨g0, 4, none⟩ = some (.int .i64 y.o) ∧ w'.cell? ⟨g0, 5, none⟩ = some (.int .i64 y.r) ∧ w'.cell? ⟨g0, 6, none⟩ = some (.int .i64 y.d) ∧ w'.cell? ⟨g0, 7, none⟩ = some (.int .i64 y.i) ∧ w'.cell? ⟨g0, 8, none⟩ = some (.int .i64 y.p) ∧ w'.cell? ⟨g0, 9, none⟩ = some (.int .i64 y.q) ∧ w'.cell? ⟨g0, 10, none⟩ = some (.int .i64 y.s) ∧ w'.cell? ⟨g0, 11, none⟩ = some (.int .i64 y.m) := by
        intro w' hc
        have n1 : ¬ (Value.slice a s.W.length c).ownBlock = some b := fun e => (own_blk H2.out.wt e).ne H2.out.bt (by decide) rfl
        have n2 : ¬ (Value.slice a s.W.length c).ownBlock = some g0 := fun e => by have := HFL.out _ (H2.out.wf _ e); omega
        have f : ∀ {j : Nat} {v : Value}, W2.cell? ⟨g0, j, none⟩ = some v → w'.cell? ⟨g0, j, none⟩ = some v := fun h => (hc.cell (by have := HS2.out; omega) n2).trans h
        obtain ⟨h0, h1, h2, h3, h4, h5, h6, h7, h8, h9, h10, h11⟩ := HY2.out
        exact ⟨(hc.cell (H2.out.lt b H2.out.fb) n1).trans H2.out.cells.2.2.2.1, f h0, f h1, f h2, f h3, f h4, f h5, f h6, f h7, f h8, f h9, f h10, f h11⟩
      have HXL : Hid (s.W.length ≤ 3000) := Nat.le_trans HL.out (by decide)
      have HSW : Hid (0 ≤ W2.heap.size) := Nat.zero_le _
      have OW : Hid (W2.ownsRow 0 (ROB).T (ROB).K (Value.slice a s.W.length c) s.W.length (gflat ROB s.W)) := H2.out.wt
      have HROW : ∀ k, (Value.slice a s.W.length c).ownBlock = some k → k < W2.heap.size := fun k hk => H2.out.lt k (H2.out.wf k hk)
      refine T3.wp_region_tail (C := fun w' => Chg (fun k => (Value.slice a s.W.length c).ownBlock = some k) W2 w' ∧ w'.ownsRow 0 (ROB).T (ROB).K (Value.slice a s.W.length c) (s.W).length (gflat ROB (s.W))) (X := GX (Value.ownBlock (Value.slice a s.W.length c)) 7) (n := 29) 10 (by kernel_rfl) (by kernel_rfl) (by kernel_rfl) (by kernel_rfl) rfl (GX_refl _ 7) ⟨(Chg.refl _ _).drew, OW.out.drew⟩ ?_
      simp only [List.take_succ_cons, List.take_zero, List.drop_succ_cons, List.drop_zero]
      refine T3.w_is (GX_refl _ 7) rfl _ (.inl rfl) (fun ρ w hC hc hfn hf => by have e0 : ρ (.tmp 0) = _ := hf 0 (by decide); (conv => lhs; simp [execOp, go_sem, hc, e0])) ?_
      refine T3.w_is (GX_refl _ 7) rfl _ (.inl rfl) (fun ρ w hC hc hfn hf => by have e0 : ρ (.tmp 0) = _ := hf 0 (by decide); (conv => lhs; simp [execOp, go_sem, hc, e0])) ?_
      refine T3.w_is (GX_refl _ 7) rfl _ (.inl rfl) (fun ρ w hC hc hfn hf => by have e20 : ρ (.tmp 20) = _ := hf 20 (by decide); (conv => lhs; simp [execOp, go_sem, hc, e20])) ?_
      refine T3.w_is (GX_refl _ 7) rfl _ (.inl rfl) (fun ρ w hC hc hfn hf => by have e21 : ρ (.tmp 21) = _ := hf 21 (by decide); (conv => lhs; simp [execOp, go_sem, hc, e21])) ?_
      refine T3.w_is (GX_refl _ 7) rfl _ (.inl rfl) (fun ρ w hC hc hfn hf => by have e22 : ρ (.tmp 22) = _ := hf 22 (by decide); (conv => lhs; simp [execOp, go_sem, hc, e22, kc w hC.1])) ?_
      refine T3.w_is (GX_refl _ 7) rfl _ (.inl rfl) (fun ρ w hC hc hfn hf => by have e3 : ρ (.tmp 3) = _ := hf 3 (by decide); (conv => lhs; simp [execOp, go_sem, hc, e3, kc w hC.1])) ?_
      refine T3.w_make rfl (NewG (R := ROB) W2 (y)) (NewG.keeps HROW 7 6) (.inl rfl) (fun ρ w hC hc hfn hf => by have e24 : ρ (.tmp 24) = _ := hf 24 (by decide); exact ⟨_, _, by (conv => lhs; simp [execOp, go_sem, hc, e24]); rfl, ⟨hC.1.alloc _, gown_below hC.2 ((Below.refl _ w).alloc (Nat.le_refl _) _)⟩, GX_of (by decide) ((Below.refl _ w).alloc (Nat.le_refl _) _), ⟨_, rfl, hC.1.size, gc_alloc (ROB) w (y) _ rfl 39⟩⟩) ?_
      refine T3.w_make rfl (NewR (ROB) W2 0 (Value.slice a s.W.length c) ((s.W) ++ [y]) ((s.W).length + 1)) (NewR.keeps 7) (.inl rfl) (fun ρ w hC hc hfn hf => by have e23 : ρ (.tmp 23) = _ := hf 23 (by decide); obtain ⟨bq, e25, hb1, hb2⟩ := (show NewG (R := ROB) W2 (y) (ρ (.tmp 25)) w from hf 25 (by decide)); obtain ⟨gq, cq, wq, hr, hq1, hq2, hq4, hq3⟩ := run_gappr (ROB) w 0 _ (s.W) hC.2 bq (y) hb2 HXL.out (Nat.le_trans HSW.out hC.1.size); exact ⟨_, wq, gexec_append rfl e23 e25 hr, ⟨hC.1.grown hq2 (fun k hk => .inl hk), hq4⟩, GX_at rfl hq2, ⟨gq, cq, rfl, hq1, hq3.imp (fun h => h) (fun h => Nat.le_trans hC.1.size h)⟩⟩) ?_
      refine T3.w_is (GX_refl _ 7) rfl _ (.inl rfl) (fun ρ w hC hc hfn hf => by have e19 : ρ (.tmp 19) = _ := hf 19 (by decide); (conv => lhs; simp [execOp, go_sem, hc, e19])) ?_
      refine T3.w_is (GX_refl _ 7) rfl _ (.inl rfl) (fun ρ w hC hc hfn hf => by have e27 : ρ (.tmp 27) = _ := hf 27 (by decide); (conv => lhs; simp [execOp, go_sem, hc, e27])) ?_
      intro A V5 hC hn hd hf
      obtain ⟨bq, y25, -, -⟩ := (show NewG (R := ROB) W2 (y) (A.eval (.tmp 25)) V5 from hf 25)
      obtain ⟨gq, cq, y26, OQ, HQ9⟩ := (show NewR (ROB) W2 0 (Value.slice a s.W.length c) ((s.W) ++ [y]) ((s.W).length + 1) (A.eval (.tmp 26)) V5 from hf 26)
      rw [y26] at OQ
      have y0 : A.eval (.tmp 0) = _ := Eq.trans (hf 0) (by conv => lhs; simp [go_sem])
      have y1 : A.eval (.tmp 1) = _ := Eq.trans (hf 1) (by conv => lhs; simp [go_sem])
      have y2 : A.eval (.tmp 2) = _ := Eq.trans (hf 2) (by conv => lhs; simp [go_sem])
      have y3 : A.eval (.tmp 3) = _ := Eq.trans (hf 3) (by conv => lhs; simp [go_sem])
      have y4 : A.eval (.tmp 4) = _ := Eq.trans (hf 4) (by conv => lhs; simp [go_sem])
      have y5 : A.eval (.tmp 5) = _ := Eq.trans (hf 5) (by conv => lhs; simp [go_sem])
      have y6 : A.eval (.tmp 6) = _ := Eq.trans (hf 6) (by conv => lhs; simp [go_sem])
      have y7 : A.eval (.tmp 7) = _ := Eq.trans (hf 7) (by conv => lhs; simp [go_sem])
      have y8 : A.eval (.tmp 8) = _ := Eq.trans (hf 8) (by conv => lhs; simp [go_sem])
      have y9 : A.eval (.tmp 9) = _ := Eq.trans (hf 9) (by conv => lhs; simp [go_sem])
      have y10 : A.eval (.tmp 10) = _ := Eq.trans (hf 10) (by conv => lhs; simp [go_sem])
      have y11 : A.eval (.tmp 11) = _ := Eq.trans (hf 11) (by conv => lhs; simp [go_sem])
      have y12 : A.eval (.tmp 12) = _ := Eq.trans (hf 12) (by conv => lhs; simp [go_sem])
      have y13 : A.eval (.tmp 13) = _ := Eq.trans (hf 13) (by conv => lhs; simp [go_sem])
      have y14 : A.eval (.tmp 14) = _ := Eq.trans (hf 14) (by conv => lhs; simp [go_sem])
      have y15 : A.eval (.tmp 15) = _ := Eq.trans (hf 15) (by conv => lhs; simp [go_sem])
      have y16 : A.eval (.tmp 16) = _ := Eq.trans (hf 16) (by conv => lhs; simp [go_sem])
      have y17 : A.eval (.tmp 17) = _ := Eq.trans (hf 17) (by conv => lhs; simp [go_sem])
      have y18 : A.eval (.tmp 18) = _ := Eq.trans (hf 18) (by conv => lhs; simp [go_sem])
      have y19 : A.eval (.tmp 19) = _ := hf 19
      have y20 : A.eval (.tmp 20) = _ := hf 20
      have y21 : A.eval (.tmp 21) = _ := hf 21
      have y22 : A.eval (.tmp 22) = _ := hf 22
      have y23 : A.eval (.tmp 23) = _ := hf 23
      have y24 : A.eval (.tmp 24) = _ := hf 24
      have y27 : A.eval (.tmp 27) = _ := hf 27
      have y28 : A.eval (.tmp 28) = _ := hf 28
      clear hf
      have hA := frame_eq hn
      rw [show List.range 29 = [0, 1, 2, 3, 4, 5, 6, 7, 8, 9, 10, 11, 12, 13, 14, 15, 16, 17, 18, 19, 20, 21, 22, 23, 24, 25, 26, 27, 28] from rfl, hd] at hA
      simp only [List.map_cons, List.map_nil, y0, y1, y2, y3, y4, y5, y6, y7, y8, y9, y10, y11, y12, y13, y14, y15, y16, y17, y18, y19, y20, y21, y22, y23, y24, y25, y26, y27, y28] at hA
      clear y0 y1 y2 y3 y4 y5 y6 y7 y8 y9 y10 y11 y12 y13 y14 y15 y16 y17 y18 y19 y20 y21 y22 y23 y24 y25 y26 y27 y28
      clear hn hd
      subst hA
      obtain ⟨hC1, hC2⟩ := hC
      have hfin := H2.out.wset hC1 (vW' := .slice (some ⟨gq, 0, none⟩) (s.W.length + 1) cq) (W' := s.W ++ [y]) OQ (fun g hg => by cases hg; exact HQ9)
      have n1 : ¬ (Value.slice a s.W.length c).ownBlock = some b := fun e => (own_blk H2.out.wt e).ne H2.out.bt (by decide) rfl
      have hp5 : V5.heap[b]? = some (.cells #[.int .i64 s.win, .int .i64 s.tries, .int .i64 s.nx, .slice a s.W.length c, vO] 123) := (hC1.block b (H2.out.lt b H2.out.fb) n1).trans H2.out.hp
      have c3 : V5.cell? ⟨b, 3, none⟩ = some (.slice a s.W.length c) := by simp [World.cell?, hp5]
      have cf : ∀ j, V5.frozen? ⟨b, j, none⟩ = false := fun j => by simp [World.frozen?, hp5]
      have hcg : Chg F w (V5.setCell ⟨b, 3, none⟩ (.slice (some ⟨gq, 0, none⟩) (s.W.length + 1) cq)) := ((chg0 HB2.out).trans (hC1.mono (fun x _ hx => H2.out.wf x hx)) (fun _ _ hx => hx)).setCell (.inl H2.out.fb) _
      have HFIN := Lib.hid hfin
      have HCG := Lib.hid hcg
      have HSZ : Hid (w.heap.size ≤ W2.heap.size) := HB2.out.size
      clear hC1 hC2 hfin hp5 hcg n1 kc HROW HQ9 OQ
      go_wp2_with fail
      go_ret
      rw [e1.out]
      exact ⟨rfl, HCG.out, _, _, HFIN.out, fun k hk => hk.imp (fun h => h) (fun h => Nat.le_trans HSZ.out h.1)⟩
  · have e0 : obc y.k y.x y.n y.t y.o y.r y.d y.i y.p y.q y.s y.m = 1 := obc_no hok
    have e1 : Hid (pushR s y = (1, s)) := pushR_no hok
    rw [e0]
    clear hok e0
    go_wp2_with fail
    go_ret
    rw [e1.out]
    exact ⟨rfl, chg0 HB2.out, F, _, H2.out, fun k hk => .inl hk⟩
end Go.Proofs.YthnajpckhoomgaaGreat
namespace Go.Proofs.YthnajpckhoomgaaGreat
set_option maxRecDepth 100000
open Go.RowKit Go.Maps

/-- The taker's own cells at block b: the next number, its Once, the map's block where it has been made. -/
structure WQ (w : World) (b : Nat) (nx : Int) (o : Option Nat) : Prop where
  cN : w.cell? ⟨b, 0, none⟩ = some (.int .i64 nx)
  c0 : w.cell? ⟨b, 1, none⟩ = some (.int .u32 (if o.isSome then 1 else 0))
  c1 : w.cell? ⟨b, 2, none⟩ = some (.int .i32 0)
  c3 : w.cell? ⟨b, 4, none⟩ = some (.map o)
  fz : ∀ j, w.frozen? ⟨b, j, none⟩ = false
theorem WQ.lt {w : World} {b : Nat} {nx : Int} {o : Option Nat} (h : WQ w b nx o) : b < w.heap.size := World.block_lt_of_cell? w _ h.c0
theorem WQ.chg {F : Nat → Prop} {w w' : World} {b : Nat} {nx : Int} {o : Option Nat} (h : WQ w b nx o) (hc : Chg F w w') (hn : ¬ F b) : WQ w' b nx o :=
  ⟨(hc.cell h.lt hn).trans h.cN, (hc.cell h.lt hn).trans h.c0, (hc.cell h.lt hn).trans h.c1, (hc.cell h.lt hn).trans h.c3, fun j => (hc.frozen h.lt hn).trans (h.fz j)⟩
theorem WQ.next {w : World} {b : Nat} {nx : Int} {o : Option Nat} (h : WQ w b nx o) (n : Int) : WQ (w.setCell ⟨b, 0, none⟩ (.int .i64 n)) b n o :=
  ⟨World.cell?_setCell_same _ _ _ h.cN, (World.cell?_setCell_other _ _ _ _ (by simp)).trans h.c0, (World.cell?_setCell_other _ _ _ _ (by simp)).trans h.c1, (World.cell?_setCell_other _ _ _ _ (by simp)).trans h.c3, fun j => by rw [World.frozen?_setCell]; exact h.fz j⟩
/-- How a slice of objects reads as a map's value: by where it lies. -/
def sdat (g n c : Nat) : DataW Unit := .agg [.lit (.int .i64 g), .lit (.int .i64 n), .lit (.int .i64 c)]
def sliceElem (v : Value) : Option (DataW Unit × List MemPlace) :=
  match v with
  | .slice none 0 0 => some (.nil, [])
  | .slice (some ⟨g, 0, none⟩) n c => some (sdat g n c, [])
  | _ => none
theorem sliceElem_inv {v : Value} {g n c : Nat} {ps : List MemPlace} (h : sliceElem v = some (sdat g n c, ps)) : v = .slice (some ⟨g, 0, none⟩) n c := by
  unfold sliceElem at h
  split at h
  · simp [sdat] at h
  · rename_i g' n' c'
    simp only [Option.some.injEq, Prod.mk.injEq, sdat, DataW.agg.injEq, List.cons.injEq, DataW.lit.injEq, Lit.int.injEq, and_true, true_and, Int.natCast_inj] at h
    obtain ⟨⟨rfl, rfl, rfl⟩, -⟩ := h
    rfl
  · cases h
theorem sliceElem_nil {v : Value} {ps : List MemPlace} (h : sliceElem v = some (.nil, ps)) : v = .slice none 0 0 := by
  unfold sliceElem at h
  split at h
  · rfl
  · simp [sdat] at h
  · cases h
/-- A map of the program's own: it reads as D. -/
def MapI (w : World) (bm n : Nat) (D : DataW Unit) : Prop := w.ownsMap Tryz.prog 3 sliceElem bm n D
theorem MapI.chg {F : Nat → Prop} {w w' : World} {bm n : Nat} {D : DataW Unit} (h : MapI w bm n D) (hc : Chg F w w') (hn : ¬ F bm) : MapI w' bm n D := by
  obtain ⟨es, clock, h1, h2⟩ := h
  exact ⟨es, clock, (hc.block bm (Array.getElem?_eq_some_iff.1 h1).1 hn).trans h1, h2⟩
theorem hold_old (b bm : Nat) (nx : Int) (w : World) (h : WQ w b nx (some bm)) : Calls Tryz.prog 120 #[.pointer (some ⟨b, 0, none⟩)] w fun e w' => e = .returned (.map (some bm)) ∧ Below w.heap.size w w' := by
  obtain ⟨w1, hw1⟩ : ∃ w1, w.alloc (.cells #[.pointer (some ⟨b, 0, none⟩)] 83) = w1 := ⟨_, rfl⟩
  have hb1 : Below w.heap.size w w1 := hw1 ▸ (Below.refl _ w).alloc (Nat.le_refl _) _
  have h1 := h.chg (F := fun _ => False) (chg0 hb1) (fun h => h)
  have C1 := Lib.hid (fun fv => once_done ⟨b, 1, none⟩ fv w1 h1.c0)
  have HB := Lib.hid hb1
  have c3 := h1.c3
  have p0 : w1.cell? ⟨w.heap.size, 0, none⟩ = some (.pointer (some ⟨b, 0, none⟩)) := by rw [← hw1]; simp
  have hmf : ∀ (fn : Fn) (first cap : Array Value) (w : World), (Instr.makeFunc fn first cap).run Tryz.prog w = .ok (.func fn first cap) w := fun _ _ _ _ => rfl
  clear h hb1 h1
  go_enter Tryz.func120, Tryz.ntmps120
  go_upto_region 1 with (fail)
  clear hw1
  go_wp2_with (go_at_call 153; refine (C1.out _).mono ?_; rintro e w2 ⟨rfl, rfl⟩)
  go_ret
  exact ⟨rfl, HB.out⟩
theorem cl_any (b g : Nat) (w : World) (hp : w.cell? ⟨g, 0, none⟩ = some (.pointer (some ⟨b, 0, none⟩))) (c3 : w.cell? ⟨b, 4, none⟩ = some (.map none)) (f3 : w.frozen? ⟨b, 4, none⟩ = false) :
    Calls Tryz.prog 154 #[.pointer (some ⟨g, 0, none⟩)] w fun e w' => e = .returned (.tuple #[]) ∧ w' = (w.setCell ⟨b, 4, none⟩ (.map (some w.heap.size))).alloc (.map #[] 0) := by
  have hmm := @run_makeMap Tryz.prog
  have hb : b < w.heap.size := World.block_lt_of_cell? w _ c3
  have hbel : Below w.heap.size w (w.alloc (.map #[] 0)) := (Below.refl _ w).alloc (Nat.le_refl _) _
  have c4 : (w.alloc (.map #[] 0)).cell? ⟨b, 4, none⟩ = some (.map none) := (hbel.cell (p := ⟨b, 4, none⟩) hb).trans c3
  have f4 : (w.alloc (.map #[] 0)).frozen? ⟨b, 4, none⟩ = false := (hbel.frozen (p := ⟨b, 4, none⟩) hb).trans f3
  clear hbel
  go_enter Tryz.func154, Tryz.ntmps154
  go_wp2_with fail
  go_end0
  exact ⟨rfl, rfl⟩
theorem hold_new (b : Nat) (nx : Int) (w : World) (h : WQ w b nx none) : Calls Tryz.prog 120 #[.pointer (some ⟨b, 0, none⟩)] w fun e w' => ∃ bm, e = .returned (.map (some bm)) ∧ WQ w' b nx (some bm) ∧ MapI w' bm 0 (.map []) ∧ w.heap.size ≤ bm ∧ Chg (fun k => k = b) w w' := by
  obtain ⟨w1, hw1⟩ : ∃ w1, w.alloc (.cells #[.pointer (some ⟨b, 0, none⟩)] 83) = w1 := ⟨_, rfl⟩
  have hb1 : Below w.heap.size w w1 := hw1 ▸ (Below.refl _ w).alloc (Nat.le_refl _) _
  have h1 := h.chg (F := fun _ => False) (chg0 hb1) (fun h => h)
  have p0 : w1.cell? ⟨w.heap.size, 0, none⟩ = some (.pointer (some ⟨b, 0, none⟩)) := by rw [← hw1]; simp
  have hs1 : w1.heap.size = w.heap.size + 1 := by rw [← hw1]; simp
  have hbs : b < w.heap.size := h.lt
  -- the world in which the function is called
  obtain ⟨w2, hw2⟩ : ∃ w2, w1.setCell ⟨b, 2, none⟩ (.int .i32 1) = w2 := ⟨_, rfl⟩
  have hg2 : Chg (fun k => k = b) w1 w2 := hw2 ▸ Chg.setCell (F := fun k => k = b) (p := ⟨b, 2, none⟩) (Chg.refl _ w1) (.inl rfl) _
  have hs2 : w2.heap.size = w1.heap.size := by rw [← hw2]; simp [World.setCell]
  have p2 : w2.cell? ⟨w.heap.size, 0, none⟩ = some (.pointer (some ⟨b, 0, none⟩)) := (hg2.cell (by omega) (by omega)).trans p0
  have dN : w2.cell? ⟨b, 0, none⟩ = some (.int .i64 nx) := hw2 ▸ (World.cell?_setCell_other _ _ _ _ (by simp)).trans h1.cN
  have d0 : w2.cell? ⟨b, 1, none⟩ = some (.int .u32 0) := hw2 ▸ (World.cell?_setCell_other _ _ _ _ (by simp)).trans h1.c0
  have d1 : w2.cell? ⟨b, 2, none⟩ = some (.int .i32 1) := hw2 ▸ World.cell?_setCell_same w1 _ _ h1.c1
  have d3 : w2.cell? ⟨b, 4, none⟩ = some (.map none) := hw2 ▸ (World.cell?_setCell_other _ _ _ _ (by simp)).trans h1.c3
  have e2 : ∀ j, w2.frozen? ⟨b, j, none⟩ = false := fun j => by rw [← hw2]; simp [go_sem, h1.fz]
  -- the map, and its block laid into the field
  have hlt2 : b < w2.heap.size := by omega
  obtain ⟨u, hu⟩ : ∃ u, w2.setCell ⟨b, 4, none⟩ (.map (some w2.heap.size)) = u := ⟨_, rfl⟩
  have hus : u.heap.size = w2.heap.size := by rw [← hu]; simp [World.setCell]
  have hgu : Chg (fun k => k = b) w2 u := hu ▸ Chg.setCell (F := fun k => k = b) (p := ⟨b, 4, none⟩) (Chg.refl _ w2) (.inl rfl) _
  have hb3 : Below u.heap.size u (u.alloc (.map #[] 0)) := (Below.refl _ u).alloc (Nat.le_refl _) _
  have hltu : b < u.heap.size := by omega
  obtain ⟨w3, hw3⟩ : ∃ w3, u.alloc (.map #[] 0) = w3 := ⟨_, rfl⟩
  have hg3 : Chg (fun k => k = b) w2 w3 := hw3 ▸ hgu.alloc _
  rw [hw3] at hb3
  have xN : w3.cell? ⟨b, 0, none⟩ = some (.int .i64 nx) := (hb3.cell (p := ⟨b, 0, none⟩) hltu).trans (hu ▸ (World.cell?_setCell_other _ _ _ _ (by simp)).trans dN)
  have x0 : w3.cell? ⟨b, 1, none⟩ = some (.int .u32 0) := (hb3.cell (p := ⟨b, 1, none⟩) hltu).trans (hu ▸ (World.cell?_setCell_other _ _ _ _ (by simp)).trans d0)
  have x1 : w3.cell? ⟨b, 2, none⟩ = some (.int .i32 1) := (hb3.cell (p := ⟨b, 2, none⟩) hltu).trans (hu ▸ (World.cell?_setCell_other _ _ _ _ (by simp)).trans d1)
  have x3 : w3.cell? ⟨b, 4, none⟩ = some (.map (some w2.heap.size)) := (hb3.cell (p := ⟨b, 4, none⟩) hltu).trans (hu ▸ World.cell?_setCell_same _ _ _ d3)
  have xf : ∀ j, w3.frozen? ⟨b, j, none⟩ = false := fun j => by
    refine (hb3.frozen (p := ⟨b, j, none⟩) hltu).trans ?_
    rw [← hu, World.frozen?_setCell]
    exact e2 j
  have hm3 : MapI w3 w2.heap.size 0 (.map []) := by
    have hm : MapI (u.alloc (.map #[] 0)) u.heap.size 0 (.map []) := World.ownsMap_made u _ _ _
    rw [hw3, hus] at hm
    exact hm
  have hcl := cl_any b w.heap.size w2 p2 d3 (e2 4)
  rw [hu, hw3] at hcl
  have C1 := Lib.hid (once_first b 1 (.pointer (some ⟨w.heap.size, 0, none⟩)) w1 (fun w' => w' = w3) h1.c0 h1.c1 (h1.fz 2) (by
    rw [show (1 + 1 : Nat) = 2 from rfl, hw2]
    refine hcl.mono ?_
    rintro e w' ⟨rfl, rfl⟩
    exact ⟨rfl, ⟨x0, x1, xf 1, xf 2⟩, rfl⟩))
  -- behind it
  obtain ⟨w4, hw4⟩ : ∃ w4, onceEnd w3 b 1 = w4 := ⟨_, rfl⟩
  have hg4 : Chg (fun k => k = b) w3 w4 := hw4 ▸ Chg.setCell (F := fun k => k = b) (p := ⟨b, 2, none⟩) (Chg.setCell (F := fun k => k = b) (p := ⟨b, 1, none⟩) ((Chg.refl _ w3).drew) (.inl rfl) _) (.inl rfl) _
  have yN : w4.cell? ⟨b, 0, none⟩ = some (.int .i64 nx) := hw4 ▸ (World.cell?_setCell_other _ _ _ _ (by simp)).trans ((World.cell?_setCell_other _ _ _ _ (by simp)).trans (show w3.drew.cell? ⟨b, 0, none⟩ = some (.int .i64 nx) from xN))
  have y0 : w4.cell? ⟨b, 1, none⟩ = some (.int .u32 1) := hw4 ▸ (World.cell?_setCell_other _ _ _ _ (by simp)).trans (World.cell?_setCell_same w3.drew _ _ x0)
  have y1 : w4.cell? ⟨b, 2, none⟩ = some (.int .i32 0) := hw4 ▸ World.cell?_setCell_same _ _ _ ((World.cell?_setCell_other _ _ _ _ (by simp)).trans (show w3.drew.cell? ⟨b, 2, none⟩ = some (.int .i32 1) from x1))
  have y3 : w4.cell? ⟨b, 4, none⟩ = some (.map (some w2.heap.size)) := hw4 ▸ (World.cell?_setCell_other _ _ _ _ (by simp)).trans ((World.cell?_setCell_other _ _ _ _ (by simp)).trans (show w3.drew.cell? ⟨b, 4, none⟩ = some (.map (some w2.heap.size)) from x3))
  have yf : ∀ j, w4.frozen? ⟨b, j, none⟩ = false := fun j => by rw [← hw4]; simp [onceEnd, go_sem, xf]
  have hq4 : Hid (WQ w4 b nx (some w2.heap.size)) := ⟨yN, y0, y1, y3, yf⟩
  have hm4 : Hid (MapI w4 w2.heap.size 0 (.map [])) := hm3.chg hg4 (by omega)
  have hg : Hid (Chg (fun k => k = b) w w4) := (((chg0 hb1).trans (G := fun k => k = b) hg2 (fun _ _ h => h)).trans hg3 (fun _ _ h => h)).trans hg4 (fun _ _ h => h)
  have p4 : w4.cell? ⟨w.heap.size, 0, none⟩ = some (.pointer (some ⟨b, 0, none⟩)) := (hg4.cell (Nat.lt_of_lt_of_le (by omega) hg3.size) (by omega)).trans ((hg3.cell (by omega) (by omega)).trans p2)
  have HSZ : Hid (w.heap.size ≤ w2.heap.size) := by show _ ≤ _; omega
  have hmf : ∀ (fn : Fn) (first cap : Array Value) (w : World), (Instr.makeFunc fn first cap).run Tryz.prog w = .ok (.func fn first cap) w := fun _ _ _ _ => rfl
  clear h h1 hb1 hs1 hg2 hs2 p2 dN d0 d1 d3 e2 hb3 hg3 xN x0 x1 x3 xf hm3 hcl hg4 yN y0 y1 yf hlt2 hw2 hw3 hu hus hgu hltu
  go_enter Tryz.func120, Tryz.ntmps120
  go_upto_region 1 with (fail)
  clear hw1
  go_wp2_with (go_at_call 153; refine C1.out.mono ?_; rintro e w9 ⟨rfl, w8, -, hw8, hw9⟩; rw [hw8, hw4] at hw9; subst hw9; clear p0 hw4)
  go_ret
  exact ⟨_, rfl, hq4.out, hm4.out, HSZ.out, hg.out⟩
end Go.Proofs.YthnajpckhoomgaaGreat
