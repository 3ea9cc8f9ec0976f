/- Texts Ca7, Ca8 of this proof, in one. No conditions but on lengths. -/
import Derived.Test.YtdigjklhfimnbaaGreatRows
import Derived.Test.YtdigjklhfimnbaaGreatU46
import Derived.ArgAppend
import Derived.Below
import Derived.BigQuiet
import Derived.BigRegion
import Derived.Calls
import Derived.ChangeAlike
import Derived.ChangeArms
import Derived.ChangeKeysEq
import Derived.ChangeMade
import Derived.ChangeOld
import Derived.Deep.Cut
import Derived.Deep.CutBlock
import Derived.Deep.LoopGhost
import Derived.Deep.QuietTactic
import Derived.Deep.RegionHeld
import Derived.Deep.RegionLaw
import Derived.Deep.RegionWith
import Derived.Deep.Slices
import Derived.Defers
import Derived.Ground.GgzProg
import Derived.Ground.Names2Prog
import Derived.Laws.AppendOwnNone
import Derived.Laws.BitsLemmas
import Derived.Laws.BytesArg
import Derived.Laws.LoneSync
import Derived.Laws.OwnMore
import Derived.Laws.Pointers
import Derived.Laws.Rows
import Derived.Laws.StructEq
import Derived.Laws.Tables
import Derived.Lib.ConvBytes
import Derived.Lib.Hide
import Derived.Lib.OwnBridge
import Derived.Lib.QuietBelow
import Derived.Lib.SliceRun
import Derived.Lib.SlicesCompact
import Derived.LoopIn
import Derived.LoopTactic
import Derived.Maps.AppendAt
import Derived.Maps.Own
import Derived.Maps.OwnOps
import Derived.Maps.OwnSet
import Derived.Maps.RangeWalk
import Derived.Maps.Views
import Derived.OpenShut
import Derived.Orders
import Derived.OrdersIn
import Derived.Outline
import Derived.OwnWalkIn
import Derived.ProofKit
import Derived.RangeFuncBox
import Derived.RangeFuncCalls
import Derived.RangeFuncLeaves
import Derived.RangeFuncNested
import Derived.RegionCalls
import Derived.RegionTactic
import Derived.Shelf.RegionOpen
import Derived.Shelf.RegionOpenPlain
import Derived.Shelf.SlIterI.Nil
import Derived.Shelf.Slices.CompactI
import Derived.Shelf.Slices.In.SortNone
import Derived.Shelf.Sort.Plain
import Derived.ShutString
import Derived.Sort.Grow
import Derived.StillTail
import Derived.TacticsInMore
import Derived.WalkKit
import Derived.WalkLawsBesides
import Derived.WalkSpells
import Derived.WideShapes
/- Who is at a cast's other ends; whether it is idle (Peers, Idle). No conditions. -/
namespace Go.Proofs.YtdigjklhfimnbaaGreat
set_option maxRecDepth 100000
set_option linter.unusedVariables false
open Go.RowKit

attribute [local go_sem] Oper.semAt_some
def peL (S : Nat → Option Pr) (pre : List Nat) : List Nd := pre.flatMap (gO S fun p => [p.pe])
def OwPe (w : World) (S : Nat) (v : Value) (l : List Nd) : Prop := w.ownsRow S RE.T RE.K v l.length (gflat RE l)
section
variable {w w' : World} {F F' G : Nat → Prop} {b : Nat} {me : Nd} {win tr : Int} {M : Nat → Nat} {S : Nat → Option Pr}
def PIc (w : World) (S : Nat → Option Pr) (E : Nat) (pre : List Nat) (W : World) : Prop :=
  ∃ v, Below w.heap.size w W ∧ (W.cell? ⟨w.heap.size, 0, none⟩ = some v ∧ ∀ j, W.frozen? ⟨w.heap.size, j, none⟩ = false) ∧ OwPe W w.heap.size v (peL S pre) ∧ ∀ g, v.ownBlock = some g → E ≤ g
theorem pic_ab {w : World} {D E : Nat} (hD : w.heap.size < D) : AbK D E (PIc w S E) := by
  rintro s W W' row ⟨v, hb, ⟨q1, q2⟩, ho, hv⟩ hg hr
  have hch : Chg (fun k => D ≤ k ∧ k < E) W W' := (chg_grown hg).mono (fun k _ e => hr k e)
  have hl := World.block_lt_of_cell? W _ q1
  have hnd : ¬ (D ≤ w.heap.size ∧ w.heap.size < E) := fun h => by omega
  exact ⟨v, hb.grown hg hb.size (fun k e => by have := hr k e; omega), ⟨(hch.cell hl hnd).trans q1, fun j => (hch.frozen hl hnd).trans (q2 j)⟩, own_chg ho hch (fun g hg9 hk => by have := hv g hg9; omega), hv⟩
theorem pic_step {w V : World} {E D : Nat} {pre : List Nat} {x : Nat} {p : Pr} (h0 : w.heap.size < D) (hE : E ≤ V.heap.size) (hDE : D ≤ E) (hpl : pre.length < 64) (hSp : S x = some p) (hcc : CC w F b me win tr M S) (h : PIc w S E pre V) :
    ∃ v, V.cell? ⟨w.heap.size, 0, none⟩ = some v ∧ (V.cell? ⟨M x, 0, none⟩ = some (.int .i64 p.pe.1) ∧ V.cell? ⟨M x, 1, none⟩ = some (.int .i64 p.pe.2)) ∧ ∃ a6 c6 W6, (Builtin.append_ #[78, 78] 78 #[v, .slice (some ⟨V.heap.size, 0, none⟩) 1 1]).run Tryz.prog (V.alloc (.cells #[.int .i64 p.pe.1, .int .i64 p.pe.2] 23)).drew = .ok (.slice a6 (peL S (pre ++ [x])).length c6) W6 ∧ (V.alloc (.cells #[.int .i64 p.pe.1, .int .i64 p.pe.2] 23)).cell? ⟨w.heap.size, 0, none⟩ = some v ∧ W6.frozen? ⟨w.heap.size, 0, none⟩ = false ∧ W6.cell? ⟨w.heap.size, 0, none⟩ = some v ∧
        (Keep D E V (W6.setCell ⟨w.heap.size, 0, none⟩ (.slice a6 (peL S (pre ++ [x])).length c6)) ∧ Below 0 V (W6.setCell ⟨w.heap.size, 0, none⟩ (.slice a6 (peL S (pre ++ [x])).length c6)) ∧ PIc w S E (pre ++ [x]) (W6.setCell ⟨w.heap.size, 0, none⟩ (.slice a6 (peL S (pre ++ [x])).length c6))) := by
  obtain ⟨v, hb, ⟨q1, q2⟩, ho, hv⟩ := h
  obtain ⟨Hx, hs, _⟩ := (hcc.below hb).at hSp
  obtain ⟨q, G, ⟨d0, d1, d2⟩, hp, _, _⟩ := hs
  obtain ⟨lc, hlc⟩ : ∃ lc, w.heap.size = lc := ⟨_, rfl⟩
  rw [hlc] at h0 q1 q2 ho
  have hl := World.block_lt_of_cell? V _ q1
  refine ⟨v, by rw [hlc]; exact q1, ⟨d0, d1⟩, ?_⟩
  rw [hlc]
  have hba : Below V.heap.size V (V.alloc (.cells #[.int .i64 p.pe.1, .int .i64 p.pe.2] 23)) := (Below.refl _ V).alloc (Nat.le_refl _) _
  have hbd : Below V.heap.size V (V.alloc (.cells #[.int .i64 p.pe.1, .int .i64 p.pe.2] 23)).drew := hba.drew
  have hlen1 : (peL S pre).length ≤ 1 * pre.length := flatM_len (fun i => by
    unfold gO
    split
    · exact Nat.le_refl _
    · exact Nat.zero_le _) pre
  have e : peL S pre ++ [p.pe] = peL S (pre ++ [x]) := by unfold peL; rw [flat_snoc, gO_some hSp]
  have hov : OwPe (V.alloc (.cells #[.int .i64 p.pe.1, .int .i64 p.pe.2] 23)).drew lc v (peL S pre) := gown_below ho hbd
  obtain ⟨g, cap, W6, hrun, ho6, hg6, _, hgg⟩ := run_gappr (R := RE) _ lc v (peL S pre) hov V.heap.size p.pe (gc_alloc RE V p.pe V.heap.size rfl 23) (show (peL S pre).length ≤ 3000 by omega) (Nat.le_trans (Nat.le_of_lt hl) hbd.size) (ty := 78)
  have hlen : (peL S (pre ++ [x])).length = (peL S pre).length + 1 := by rw [← e, List.length_append]; rfl
  have hvl : v.ownBlock ≠ some lc := fun h => by have := hv lc h; omega
  have c6g := chg_grown hg6
  have cv6 : Chg (fun k => v.ownBlock = some k) V W6 := (chg0 hbd).trans c6g (fun _ _ e => e)
  have y1 : W6.cell? ⟨lc, 0, none⟩ = some v := (cv6.cell hl hvl).trans q1
  have y2 : ∀ j, W6.frozen? ⟨lc, j, none⟩ = false := fun j => (cv6.frozen hl hvl).trans (q2 j)
  have hl6 := World.block_lt_of_cell? W6 _ y1
  refine ⟨some ⟨g, 0, none⟩, cap, W6, by rw [hlen]; exact hrun, (hba.cell (p := ⟨lc, 0, none⟩) hl).trans q1, y2 0, y1, ?_⟩
  have ho6 : OwPe W6 lc (.slice (some ⟨g, 0, none⟩) ((peL S pre).length + 1) cap) (peL S pre ++ [p.pe]) := ho6
  rw [e, ← hlen] at ho6
  obtain ⟨r6, hr6⟩ : ∃ r, Value.slice (some ⟨g, 0, none⟩) (peL S (pre ++ [x])).length cap = r := ⟨_, rfl⟩
  have hob : ∀ k, r6.ownBlock = some k → k ≠ lc ∧ E ≤ k := fun k hk => by
    rw [← hr6] at hk
    have hk9 : g = k := Option.some.inj hk
    subst hk9
    rcases hgg with h1 | h1
    · have := hv g h1; omega
    · have h3 : V.heap.size ≤ g := Nat.le_trans hbd.size h1
      omega
  rw [hr6] at ho6 ⊢
  have ch7 := chg_pt W6 lc 0 r6
  have c57 : Chg (fun k => v.ownBlock = some k ∨ k = lc) V (W6.setCell ⟨lc, 0, none⟩ r6) := (cv6.mono (fun _ _ e => .inl e)).trans ch7 (fun _ _ e => .inr e)
  refine ⟨keep_chg c57 (fun k h1 h2 hh => ?_), below0 c57, r6, ?_, ⟨?_, fun j => ?_⟩, ?_, fun k hk => (hob k hk).2⟩
  · rcases hh with h | h
    · have := hv k h; omega
    · omega
  · rw [hlc] at hb ⊢
    exact hb.trans (c57.below (Nat.le_of_lt hl) (fun k hk => hk.elim (fun h => by have := hv k h; omega) (fun h => Nat.le_of_eq h.symm)))
  · rw [hlc]; exact World.cell?_setCell_same _ _ _ y1
  · rw [hlc]
    have := y2 j
    simpa [go_sem] using this
  · rw [hlc]
    exact own_chg ho6 ch7 (fun k hk e => (hob k hk).1 e)
theorem pic_end {w W : World} {D E : Nat} {pre : List Nat} (hD : w.heap.size < D) (hDE : D < E) (o : Obj) (h : PIc w S E pre W) : ∃ a c, W.cell? ⟨w.heap.size, 0, none⟩ = some (.slice a (peL S pre).length c) ∧ OwPe (W.putObj D o) w.heap.size (.slice a (peL S pre).length c) (peL S pre) ∧ Below w.heap.size w (W.putObj D o) := by
  obtain ⟨v, hb, ⟨q1, q2⟩, ho, hv⟩ := h
  have hch : Chg (fun k => D ≤ k ∧ k < E) W (W.putObj D o) := (chg_grown (grownBy_putObj' W D o)).mono (fun k _ e => by cases e; omega)
  obtain ⟨a, c, rfl⟩ := gown_form ho
  exact ⟨a, c, q1, own_chg ho hch (fun g hg hk => by have := hv g hg; omega), hb.grown (grownBy_putObj' W D o) hb.size (fun k e => by cases e; omega)⟩
set_option maxHeartbeats 8000000 in
theorem cpeers_any (h : CC w F b me win tr M S) : Calls Tryz.prog 38 #[.pointer (some ⟨b, 0, none⟩)] w fun e w' => ∃ a c, e = .returned (.slice a (peL S (ksU S 64)).length c) ∧ OwPe w' w.heap.size (.slice a (peL S (ksU S 64)).length c) (peL S (ksU S 64)) ∧ Below w.heap.size w w' := by
  obtain ⟨W1, hW1⟩ : ∃ W1, W1 = w.alloc (.cells #[.slice none 0 0] 78) := ⟨_, rfl⟩
  have hb1 : Below w.heap.size w W1 := by rw [hW1]; exact (Below.refl _ w).alloc (Nat.le_refl _) _
  have hs1 : W1.heap.size = w.heap.size + 1 := by rw [hW1]; simp
  have cT := itall W1 (some b)
  obtain ⟨W2, hW2⟩ : ∃ W2, W2 = W1.alloc (.cells #[pt (some b)] 56) := ⟨_, rfl⟩
  rw [← hW2, hs1] at cT
  have hb2 : Below w.heap.size w W2 := by rw [hW2]; exact hb1.alloc (by omega) _
  have hs2 : W2.heap.size = w.heap.size + 2 := by rw [hW2]; simp [hs1]
  have bL : W2.cell? ⟨w.heap.size + 1, 0, none⟩ = some (.pointer (some ⟨b, 0, none⟩)) := by rw [hW2, ← hs1]; simp [pt]
  have hc2 := h.below hb2
  have SQ := it_any 4 W2 (w.heap.size + 1) b (w.heap.size + 2) (fS M S) (encS M) (fun i m hi => by
    unfold fS at hi
    cases e : S i with
    | none => rw [e] at hi; cases hi
    | some p => rw [e] at hi; cases hi; rfl) bL hc2.cs
  rw [← ksU_eq] at SQ
  have bV : W2.cell? ⟨w.heap.size, 0, none⟩ = some (.slice none 0 0) ∧ ∀ j, W2.frozen? ⟨w.heap.size, j, none⟩ = false := by
    rw [hW2, hW1]
    exact ⟨by simp, fun j => by simp⟩
  have h0 : PIc w S (w.heap.size + 2 + 2 + 0) [] W2 := ⟨_, hb2, bV, gown_nil (R := RE) _ _, fun g hg => by cases hg⟩
  have HC := Lib.hid h
  clear h hc2 bV bL hb1 hb2
  simp only [pt, Option.map_some] at cT
  refine callsIn_wide.1 (callsIn_of_wp_marks (n := 5) Tryz.func38 rfl trivial ?_ rfl)
  simp only [Tryz.ntmps38, List.size_toArray, List.length_cons, List.length_nil, Nat.reduceAdd, Nat.reduceSub, Array.replicate_succ, Array.replicate_zero, List.push_toArray, List.append_toArray, List.nil_append, List.cons_append]
  gi_wp2_with fail
  rw [← hW1]
  refine wideC' (cT.mono ?_)
  rintro e V2 ⟨rfl, rfl⟩
  clear cT hW1 hW2
  gi_wp2_with fail
  refine wpIn_rangeFuncV rfl (by decide) (gf := 108) (lb := #[.pointer (some ⟨w.heap.size + 1, 0, none⟩)]) rfl trivial (enters_of Tryz.func108 (by kernel_rfl) rfl) SQ (Below.refl _ _) (fun _ => rfl)
    (w.heap.size + 2) (w.heap.size + 2 + 2 + 0) hs2 rfl (by omega) (by omega) (by omega)
    (PIc w S (w.heap.size + 2 + 2 + 0)) (fun _ _ _ => False) (pic_ab (by omega)) (fun _ _ _ _ _ h _ _ => h) h0 ?round ?done ?stop
  case round =>
    rintro l pre x W hI hsz hpre
    obtain ⟨⟨p, hp⟩, hx, hx64, hpl⟩ := ks_next hpre
    clear SQ hpre h0
    simp [encS]
    gi_wp2_with fail
    refine ⟨Keep.refl _ _ _, Below.refl _ _, fun V hg => ?_⟩
    have hV := pic_ab (D := w.heap.size + 2) (by omega) _ _ _ _ hI hg (fun r e => by cases e; omega)
    have hszV : w.heap.size + 2 + 2 + 0 ≤ V.heap.size := Nat.le_trans hsz hg.size
    obtain ⟨v, z1, ⟨z2, z3⟩, HAP⟩ := pic_step (D := w.heap.size + 2) (by omega) hszV (by omega) hpl hp HC.out hV
    obtain ⟨n6, hn6⟩ : ∃ n, (peL S (pre ++ [x])).length = n := ⟨_, rfl⟩
    simp only [hn6] at HAP
    obtain ⟨a6, c6, W6, hrun, z4, y2, y1, hfin⟩ := HAP
    clear hI hg hV
    gi_wp2_with fail
    refine region_in (by kernel_rfl) (by kernel_rfl) (fun h => by obtain ⟨_, _, h⟩ := h; exact h) ?_
    try (change wpAny _ _ _ _ _ _ _ (World.drew _))
    refine wpAny_take (i := 1) (v := ?_) rfl (by kernel_rfl) (by kernel_rfl) (by kernel_rfl) (fun _ _ _ h => h) (Or.inl ⟨by rfl, ?_⟩) ?_
    rotate_left
    · (intro w; go_simp) <;> with_reducible rfl
    refine wpAny_take (i := 2) (v := ?_) rfl (by kernel_rfl) (by kernel_rfl) (by kernel_rfl) (fun _ _ _ h => h) (Or.inl ⟨by rfl, ?_⟩) ?_
    rotate_left
    · (intro w; go_simp) <;> with_reducible rfl
    refine wpAny_take (i := 3) (v := ?_) rfl (by kernel_rfl) (by kernel_rfl) (by kernel_rfl) (fun _ _ _ h => h) (Or.inl ⟨by rfl, ?_⟩) ?_
    rotate_left
    · (intro w; go_simp) <;> with_reducible rfl
    refine wpAny_ready (rs := [0, 4]) (by kernel_rfl) (by simp) ?_
    refine AllReady.cons rfl (fun K hK => ?_) ?_
    · go_simp
      refine hK _ _ ?_
      clear hK K
      refine wpAny_ready (rs := [4]) (by kernel_rfl) (by simp) ?_
      refine AllReady.cons rfl (fun K hK => ?_) ?_
      · go_simp
        refine hK _ _ ?_
        clear hK K
        refine wpAny_ready (rs := [5]) (by kernel_rfl) (by simp) ?_
        refine AllReady.cons rfl (fun K hK => ?_) ?_
        · go_simp
          refine hK _ _ ?_
          clear hK K
          refine wpAny_ready (rs := [6]) (by kernel_rfl) (by simp) ?_
          refine AllReady.cons rfl (fun K hK => ?_) ?_
          · rw [if_pos (by rfl)]
            unfold Oper.wp
            rw [gexec_append (s := .tmp 8) (x := .tmp 13) (T := 78) rfl rfl rfl hrun]
            refine hK _ _ ?_
            clear hK K
            refine wpAny_ready (rs := [7]) (by kernel_rfl) (by simp) ?_
            refine AllReady.cons rfl (fun K hK => ?_) ?_
            · go_simp
              refine hK _ _ ?_
              clear hK K
              refine wpAny_done (by kernel_rfl) ?_ _
              gi_wp2_with fail
              exact hfin
            exact AllReady.nil
          exact AllReady.nil
        exact AllReady.nil
      exact AllReady.nil
    refine AllReady.cons rfl (fun K hK => ?_) ?_
    · go_simp
      refine hK _ _ ?_
      clear hK K
      refine wpAny_ready (rs := [0, 5]) (by kernel_rfl) (by simp) ?_
      refine AllReady.cons rfl (fun K hK => ?_) ?_
      · go_simp
        refine hK _ _ ?_
        clear hK K
        refine wpAny_ready (rs := [5]) (by kernel_rfl) (by simp) ?_
        refine AllReady.cons rfl (fun K hK => ?_) ?_
        · go_simp
          refine hK _ _ ?_
          clear hK K
          refine wpAny_ready (rs := [6]) (by kernel_rfl) (by simp) ?_
          refine AllReady.cons rfl (fun K hK => ?_) ?_
          · rw [if_pos (by rfl)]
            unfold Oper.wp
            rw [gexec_append (s := .tmp 8) (x := .tmp 13) (T := 78) rfl rfl rfl hrun]
            refine hK _ _ ?_
            clear hK K
            refine wpAny_ready (rs := [7]) (by kernel_rfl) (by simp) ?_
            refine AllReady.cons rfl (fun K hK => ?_) ?_
            · go_simp
              refine hK _ _ ?_
              clear hK K
              refine wpAny_done (by kernel_rfl) ?_ _
              gi_wp2_with fail
              exact hfin
            exact AllReady.nil
          exact AllReady.nil
        exact AllReady.nil
      refine AllReady.cons rfl (fun K hK => ?_) ?_
      · go_simp
        refine hK _ _ ?_
        clear hK K
        refine wpAny_ready (rs := [0]) (by kernel_rfl) (by simp) ?_
        refine AllReady.cons rfl (fun K hK => ?_) ?_
        · go_simp
          refine hK _ _ ?_
          clear hK K
          refine wpAny_ready (rs := [6]) (by kernel_rfl) (by simp) ?_
          refine AllReady.cons rfl (fun K hK => ?_) ?_
          · rw [if_pos (by rfl)]
            unfold Oper.wp
            rw [gexec_append (s := .tmp 8) (x := .tmp 13) (T := 78) rfl rfl rfl hrun]
            refine hK _ _ ?_
            clear hK K
            refine wpAny_ready (rs := [7]) (by kernel_rfl) (by simp) ?_
            refine AllReady.cons rfl (fun K hK => ?_) ?_
            · go_simp
              refine hK _ _ ?_
              clear hK K
              refine wpAny_done (by kernel_rfl) ?_ _
              gi_wp2_with fail
              exact hfin
            exact AllReady.nil
          exact AllReady.nil
        exact AllReady.nil
      exact AllReady.nil
    exact AllReady.nil
  case done =>
    rintro W hI hK
    obtain ⟨a, c, q1, ho, hb⟩ := pic_end (D := w.heap.size + 2) (E := w.heap.size + 2 + 2 + 0) (by omega) (by omega) (.deferred none) hI
    obtain ⟨n6, hn6⟩ : ∃ n, (peL S (ksU S 64)).length = n := ⟨_, rfl⟩
    rw [hn6] at q1 ho
    have HN := Lib.hid hn6
    have HO := Lib.hid ho
    have HB := Lib.hid hb
    clear ho hb hI h0 SQ hn6
    gi_wp2_with fail
    exact postM_cell hK (v := .slice a n6 c) (by simp [results, Tryz.results38, go_sem]) ⟨a, c, by rw [HN.out], by rw [HN.out]; exact HO.out, HB.out⟩
  case stop =>
    rintro ex pre W hpre h
    exact h.elim
def idO (S : Nat → Option Pr) (i : Nat) : Bool := match S i with
  | some p => idleB p
  | none => true
def IIc (w : World) (S : Nat → Option Pr) (pre : List Nat) (W : World) : Prop := Boxed W w.heap.size 4 (.bool false) ∧ (∀ i ∈ pre, idO S i = true) ∧ Below w.heap.size w W
def XIc (w : World) (S : Nat → Option Pr) (ex : Code) (pre : List Nat) (W : World) : Prop := Boxed W w.heap.size 4 (.bool false) ∧ (ex = .ret ∧ ∃ i ∈ pre, idO S i = false) ∧ Below w.heap.size w W
set_option maxHeartbeats 8000000 in
theorem cidle_any (q : Bool) (hq : q = true ↔ ∀ i ∈ ksU S 64, idO S i = true) (h : CC w F b me win tr M S) : Calls Tryz.prog 40 #[.pointer (some ⟨b, 0, none⟩)] w fun e w' => e = .returned (.bool q) ∧ Below w.heap.size w w' := by
  obtain ⟨W1, hW1⟩ : ∃ W1, W1 = w.alloc (.cells #[.bool false] 4) := ⟨_, rfl⟩
  have hb1 : Below w.heap.size w W1 := by rw [hW1]; exact (Below.refl _ w).alloc (Nat.le_refl _) _
  have hs1 : W1.heap.size = w.heap.size + 1 := by rw [hW1]; simp
  have cT := itall W1 (some b)
  obtain ⟨W2, hW2⟩ : ∃ W2, W2 = W1.alloc (.cells #[pt (some b)] 56) := ⟨_, rfl⟩
  rw [← hW2, hs1] at cT
  have hb2 : Below w.heap.size w W2 := by rw [hW2]; exact hb1.alloc (by omega) _
  have hs2 : W2.heap.size = w.heap.size + 2 := by rw [hW2]; simp [hs1]
  have bL : W2.cell? ⟨w.heap.size + 1, 0, none⟩ = some (.pointer (some ⟨b, 0, none⟩)) := by rw [hW2, ← hs1]; simp [pt]
  have hc2 := h.below hb2
  have SQ := it_any 4 W2 (w.heap.size + 1) b (w.heap.size + 2) (fS M S) (encS M) (fun i m hi => by
    unfold fS at hi
    cases e : S i with
    | none => rw [e] at hi; cases hi
    | some p => rw [e] at hi; cases hi; rfl) bL hc2.cs
  rw [← ksU_eq] at SQ
  have bR : Boxed W2 w.heap.size 4 (.bool false) := by rw [hW2, hW1]; exact (Boxed.new w 4 _).alloc _
  have h0 : IIc w S [] W2 := ⟨bR, fun i h => (by cases h), hb2⟩
  have HC := Lib.hid h
  have HQ := Lib.hid hq
  clear h hq hc2 bR bL hb1 hb2
  simp only [pt, Option.map_some] at cT
  refine callsIn_wide.1 (callsIn_of_wp_marks (n := 5) Tryz.func40 rfl trivial ?_ rfl)
  simp only [Tryz.ntmps40, List.size_toArray, List.length_cons, List.length_nil, Nat.reduceAdd, Nat.reduceSub, Array.replicate_succ, Array.replicate_zero, List.push_toArray, List.append_toArray, List.nil_append, List.cons_append]
  gi_wp2_with fail
  rw [← hW1]
  refine wideC' (cT.mono ?_)
  rintro e V2 ⟨rfl, rfl⟩
  clear cT hW1 hW2
  gi_wp2_with fail
  refine wpIn_rangeFuncV rfl (by decide) (gf := 108) (lb := #[.pointer (some ⟨w.heap.size + 1, 0, none⟩)]) rfl trivial (enters_of Tryz.func108 (by kernel_rfl) rfl) SQ (Below.refl _ _) (fun _ => rfl)
    (w.heap.size + 2) (w.heap.size + 2 + 2 + 0) hs2 rfl (by omega) (by omega) (by omega)
    (IIc w S) (XIc w S) (abK_and (abK_boxed (by omega) _) (abK_and (abK_pure _) (abK_below (by omega) (Nat.le_refl _)))) (fun ex => abK_and (abK_boxed (by omega) _) (abK_and (abK_pure _) (abK_below (by omega) (Nat.le_refl _)))) h0 ?round ?done ?stop
  case round =>
    rintro l pre x W hI hsz hpre
    obtain ⟨⟨p, hp⟩, hx, hx64, hpl⟩ := ks_next hpre
    clear SQ hpre h0
    simp [encS]
    gi_wp2_with fail
    refine ⟨Keep.refl _ _ _, Below.refl _ _, fun V hg => ?_⟩
    have hbx : Boxed V w.heap.size 4 (.bool false) := hI.1.kept hg (by simp <;> omega)
    have hbw : Below w.heap.size w V := hI.2.2.grown hg hI.2.2.size (fun k e => by cases e; omega)
    have hPR := hI.2.1
    obtain ⟨Hx, hs, _⟩ := (HC.out.below hbw).at hp
    obtain ⟨qb, G, z2, hpp, _⟩ := hs.at
    have CI := pridle_any hpp
    have HV := Lib.hid (And.intro hbx (And.intro hbw hPR))
    have hio : idO S x = idleB p := by unfold idO; rw [hp]
    have HIO := Lib.hid hio
    have r0 := hbx.cell
    have rf := hbx.frozen
    clear hbx hbw hPR hpp hs hI hg hio
    obtain ⟨qi, hqi⟩ : ∃ q, idleB p = q := ⟨_, rfl⟩
    rw [hqi] at CI HIO
    clear hqi
    cases qi with
    | false =>
      gi_wp2_with (refine wideR' (CI.mono ?_); rintro e V' ⟨rfl, hb⟩; have HB9 := Lib.hid hb; have BV : Boxed V' w.heap.size 4 (.bool false) := (hb.block w.heap.size (World.block_lt_of_cell? V _ r0)).trans HV.out.1; have r0 := BV.cell; have rf := BV.frozen; have HBV := Lib.hid BV; clear hb BV)
      refine ⟨(Keep.news HB9.out).trans (Keep.setCell _ _ _ _ (.inl (by omega))), HBV.out.set _, ⟨rfl, x, by simp, HIO.out⟩, ?_⟩
      exact (HV.out.2.1.trans (HB9.out.mono HV.out.2.1.size)).setCell (p := ⟨w.heap.size, 0, none⟩) (Nat.le_refl _) _
    | true =>
      gi_wp2_with (refine wideR' (CI.mono ?_); rintro e V' ⟨rfl, hb⟩; have HB9 := Lib.hid hb; have HBV : Hid (Boxed V' w.heap.size 4 (.bool false)) := (hb.block w.heap.size (World.block_lt_of_cell? V _ r0)).trans HV.out.1; clear hb)
      refine ⟨Keep.news HB9.out, HB9.out.mono (Nat.zero_le _), HBV.out, fun i hi => ?_, HV.out.2.1.trans (HB9.out.mono HV.out.2.1.size)⟩
      rcases List.mem_append.1 hi with h1 | h1
      · exact HV.out.2.2 i h1
      · rw [List.mem_singleton.1 h1]; exact HIO.out
  case done =>
    rintro W ⟨hB, hP, hbel⟩ hK
    have hc := hB.cell
    have hf := hB.frozen
    obtain rfl : q = true := HQ.out.2 hP
    clear SQ h0
    gi_wp2_with fail
    have hK2 := (KeepsOthers.setCell W ⟨w.heap.size, 0, none⟩ (.bool true)).same _ _ hK rfl
    have h2 := ((hB.set (.bool true)).kept (grownBy_putObj' _ (w.heap.size + 2) (.deferred none)) (by simp)).cell
    have h3 : Below w.heap.size w ((W.setCell ⟨w.heap.size, 0, none⟩ (.bool true)).putObj (w.heap.size + 2) (.deferred none)) := (hbel.setCell (p := ⟨w.heap.size, 0, none⟩) (Nat.le_refl _) _).grown (grownBy_putObj' _ _ _) (by simp; exact hbel.size) (fun k e => by cases e; omega)
    refine postM_cell hK2 (v := .bool true) ?_ ⟨rfl, h3⟩
    generalize ((W.setCell ⟨w.heap.size, 0, none⟩ (.bool true)).putObj (w.heap.size + 2) (.deferred none)) = W5 at *
    simp [results, Tryz.results40, go_sem, h2]
  case stop =>
    rintro ex pre W hpre ⟨hB, ⟨rfl, hP⟩, hbel⟩ hK
    have h2 := (hB.kept (grownBy_putObj' _ (w.heap.size + 2) (.deferred none)) (by simp)).cell
    have h3 : Below w.heap.size w (W.putObj (w.heap.size + 2) (.deferred none)) := hbel.grown (grownBy_putObj' _ _ _) hbel.size (fun k e => by cases e; omega)
    obtain rfl : q = false := by
      cases hq9 : q with
      | false => rfl
      | true =>
        obtain ⟨i, hi, hn⟩ := hP
        have := HQ.out.1 hq9 i (hpre.subset hi)
        rw [hn] at this
        cases this
    clear SQ h0
    gi_wp2_with fail
    refine postM_cell hK (v := .bool false) ?_ ⟨rfl, h3⟩
    generalize (W.putObj (w.heap.size + 2) (.deferred none)) = W5 at *
    simp [results, Tryz.results40, go_sem, h2]
end
end Go.Proofs.YtdigjklhfimnbaaGreat
namespace Go.Proofs.YtdigjklhfimnbaaGreat
set_option maxRecDepth 100000
set_option linter.unusedVariables false
open Go.RowKit

attribute [local go_sem] Oper.semAt_some
def pshP (y : Ob) (p : Pr) : Pr := ⟨p.me, p.pe, (pushR p.s y).2, p.t, p.o⟩
def okP (y : Ob) (S : Nat → Option Pr) (i : Nat) : Bool := match S i with
  | some p => decide ((pushR p.s y).1 = 0)
  | none => false
def pshN (y : Ob) (S : Nat → Option Pr) (pre : List Nat) : Nat := (pre.filter fun i => okP y S i).length
theorem pshN_snoc (y : Ob) (S : Nat → Option Pr) (pre : List Nat) (x : Nat) : pshN y S (pre ++ [x]) = pshN y S pre + if okP y S x = true then 1 else 0 := by
  unfold pshN
  rw [List.filter_append, List.length_append]
  congr 1
  by_cases h : okP y S x = true
  · rw [if_pos h]; simp [h]
  · rw [if_neg h]; simp [h]
theorem pshN_le (y : Ob) (S : Nat → Option Pr) (pre : List Nat) : pshN y S pre ≤ pre.length := List.length_filter_le _ _
section
variable {w w' : World} {F F' G : Nat → Prop} {b : Nat} {me : Nd} {win tr : Int} {M : Nat → Nat} {S : Nat → Option Pr}
def QIc (w : World) (F : Nat → Prop) (b : Nat) (me : Nd) (win tr : Int) (M : Nat → Nat) (S : Nat → Option Pr) (y : Ob) (E : Nat) (pre : List Nat) (W : World) : Prop :=
  ∃ F', CC W F' b me win tr M (mapOn pre (pshP y) S) ∧ (∀ k, F' k → k < w.heap.size ∨ E ≤ k) ∧ Nx w W F F' ∧ (W.cell? ⟨w.heap.size + 1, 0, none⟩ = some (.int .i64 (pshN y S pre)) ∧ ∀ j, W.frozen? ⟨w.heap.size + 1, j, none⟩ = false) ∧ W.heap[w.heap.size]? = (w.alloc (.cells #[.int .i64 y.k, .int .i64 y.x, .bool y.n, .int .i64 y.t, .int .i64 y.o, .int .i64 y.r, .int .i64 y.d, .int .i64 y.i, .int .i64 y.p, .int .i64 y.q, .int .i64 y.s, .int .i64 y.m] 41)).heap[w.heap.size]?
theorem qic_chg {w W W' : World} {y : Ob} {E : Nat} {pre : List Nat} {G : Nat → Prop} (hch : Chg G W W') (hG : ∀ k, G k → w.heap.size + 2 ≤ k ∧ k < E) (h : QIc w F b me win tr M S y E pre W) : QIc w F b me win tr M S y E pre W' := by
  obtain ⟨F', hc, ho, hn, ⟨q1, q2⟩, hob⟩ := h
  have hl := World.block_lt_of_cell? W _ q1
  have hl2 : w.heap.size + 1 < W.heap.size := hl
  have hnd : ¬ G (w.heap.size + 1) := fun h => by have := hG _ h; omega
  exact ⟨F', hc.keep hch (fun k hk hk2 => by have := ho k hk; have := hG k hk2; omega), ho, ⟨hn.1.trans hch (fun k hk e => by have := hG k e; omega), hn.2⟩, ⟨(hch.cell hl hnd).trans q1, fun j => (hch.frozen hl hnd).trans (q2 j)⟩, (hch.block w.heap.size (by omega) (fun h => by have := hG _ h; omega)).trans hob⟩
theorem qic_ab {w : World} {y : Ob} {D E : Nat} (hD : w.heap.size + 2 ≤ D) : AbK D E (QIc w F b me win tr M S y E) := by
  rintro s W W' row h hg hr
  exact qic_chg ((chg_grown hg).mono (fun k _ e => hr k e) : Chg (fun k => D ≤ k ∧ k < E) W W') (fun k hk => ⟨by omega, hk.2⟩) h
theorem ob_cells {w W : World} {y : Ob} (h : W.heap[w.heap.size]? = (w.alloc (.cells #[.int .i64 y.k, .int .i64 y.x, .bool y.n, .int .i64 y.t, .int .i64 y.o, .int .i64 y.r, .int .i64 y.d, .int .i64 y.i, .int .i64 y.p, .int .i64 y.q, .int .i64 y.s, .int .i64 y.m] 41)).heap[w.heap.size]?) : W.cell? ⟨w.heap.size, 0, none⟩ = some (.int .i64 y.k) ∧ W.cell? ⟨w.heap.size, 1, none⟩ = some (.int .i64 y.x) ∧ W.cell? ⟨w.heap.size, 2, none⟩ = some (.bool y.n) ∧ W.cell? ⟨w.heap.size, 3, none⟩ = some (.int .i64 y.t) ∧ W.cell? ⟨w.heap.size, 4, none⟩ = some (.int .i64 y.o) ∧ W.cell? ⟨w.heap.size, 5, none⟩ = some (.int .i64 y.r) ∧ W.cell? ⟨w.heap.size, 6, none⟩ = some (.int .i64 y.d) ∧ W.cell? ⟨w.heap.size, 7, none⟩ = some (.int .i64 y.i) ∧ W.cell? ⟨w.heap.size, 8, none⟩ = some (.int .i64 y.p) ∧ W.cell? ⟨w.heap.size, 9, none⟩ = some (.int .i64 y.q) ∧ W.cell? ⟨w.heap.size, 10, none⟩ = some (.int .i64 y.s) ∧ W.cell? ⟨w.heap.size, 11, none⟩ = some (.int .i64 y.m) := by
  have f : ∀ j v, (w.alloc (.cells #[.int .i64 y.k, .int .i64 y.x, .bool y.n, .int .i64 y.t, .int .i64 y.o, .int .i64 y.r, .int .i64 y.d, .int .i64 y.i, .int .i64 y.p, .int .i64 y.q, .int .i64 y.s, .int .i64 y.m] 41)).cell? ⟨w.heap.size, j, none⟩ = some v → W.cell? ⟨w.heap.size, j, none⟩ = some v := fun j v e => (World.cell?_of_block (a := ⟨w.heap.size, j, none⟩) h).trans e
  refine ⟨f _ _ ?_, f _ _ ?_, f _ _ ?_, f _ _ ?_, f _ _ ?_, f _ _ ?_, f _ _ ?_, f _ _ ?_, f _ _ ?_, f _ _ ?_, f _ _ ?_, f _ _ ?_⟩ <;> simp
theorem qic_step {w V : World} {y : Ob} {E D : Nat} {pre : List Nat} {x : Nat} {p : Pr} (h0 : w.heap.size + 2 ≤ D) (hE : E ≤ V.heap.size) (hDE : D ≤ E) (hSp : S x = some p) (hx : x ∉ pre) (h : QIc w F b me win tr M S y E pre V) :
    ∃ q G, V.cell? ⟨M x, 1 + 1, none⟩ = some (.pointer (some ⟨q, 0, none⟩)) ∧ PP V.drew G q p ∧ V.cell? ⟨w.heap.size + 1, 0, none⟩ = some (.int .i64 (pshN y S pre)) ∧ (V.cell? ⟨w.heap.size, 0, none⟩ = some (.int .i64 y.k) ∧ V.cell? ⟨w.heap.size, 1, none⟩ = some (.int .i64 y.x) ∧ V.cell? ⟨w.heap.size, 2, none⟩ = some (.bool y.n) ∧ V.cell? ⟨w.heap.size, 3, none⟩ = some (.int .i64 y.t) ∧ V.cell? ⟨w.heap.size, 4, none⟩ = some (.int .i64 y.o) ∧ V.cell? ⟨w.heap.size, 5, none⟩ = some (.int .i64 y.r) ∧ V.cell? ⟨w.heap.size, 6, none⟩ = some (.int .i64 y.d) ∧ V.cell? ⟨w.heap.size, 7, none⟩ = some (.int .i64 y.i) ∧ V.cell? ⟨w.heap.size, 8, none⟩ = some (.int .i64 y.p) ∧ V.cell? ⟨w.heap.size, 9, none⟩ = some (.int .i64 y.q) ∧ V.cell? ⟨w.heap.size, 10, none⟩ = some (.int .i64 y.s) ∧ V.cell? ⟨w.heap.size, 11, none⟩ = some (.int .i64 y.m)) ∧ ∀ w5, (∃ G', PP w5 G' q (pshP y p) ∧ Nx V.drew w5 G G') →
      Keep D E V w5 ∧ Below 0 V w5 ∧ w5.cell? ⟨w.heap.size + 1, 0, none⟩ = some (.int .i64 (pshN y S pre)) ∧ w5.frozen? ⟨w.heap.size + 1, 0, none⟩ = false ∧ (okP y S x = false → QIc w F b me win tr M S y E (pre ++ [x]) w5) ∧
        (okP y S x = true → Keep D E V (w5.setCell ⟨w.heap.size + 1, 0, none⟩ (.int .i64 (pshN y S pre + 1))) ∧ Below 0 V (w5.setCell ⟨w.heap.size + 1, 0, none⟩ (.int .i64 (pshN y S pre + 1))) ∧ QIc w F b me win tr M S y E (pre ++ [x]) (w5.setCell ⟨w.heap.size + 1, 0, none⟩ (.int .i64 (pshN y S pre + 1)))) := by
  obtain ⟨F', hc, ho, hn, ⟨q1, q2⟩, hob⟩ := h
  obtain ⟨Hx, hs, hme, hpe, hHF, hHb, hstep⟩ := hc.at ((mapOn_at hx).trans hSp)
  obtain ⟨q, G, c2, hpp, hGH, hgo⟩ := hs.at
  have hl := World.block_lt_of_cell? V _ q1
  have hl2 : w.heap.size + 1 < V.heap.size := hl
  have hF1 : ¬ F' (w.heap.size + 1) := fun h => by have := ho _ h; omega
  have hF0 : ¬ F' w.heap.size := fun h => by have := ho _ h; omega
  have hGF : ∀ k, G k → F' k := fun k hk => hHF k (hGH k hk)
  refine ⟨q, G, c2, hpp.keep (G := fun _ => False) ((Chg.refl _ V).drew) (fun _ _ g => g), q1, ob_cells hob, ?_⟩
  rintro w5 ⟨G', hp5, hn5⟩
  have hn5v : Nx V w5 G G' := (nx_drew G (Below.refl _ V)).trans hn5
  obtain ⟨Hx', hs5, hnH, hH'⟩ := hgo w5 G' (pshP y p) hp5 hn5v rfl
  obtain ⟨F'', hc5, hnF, hF''⟩ := hstep w5 Hx' (pshP y p) hs5 hnH rfl rfl
  have hsz : V.heap.size ≤ w5.heap.size := hn5v.1.size
  have z1 : w5.cell? ⟨w.heap.size + 1, 0, none⟩ = some (.int .i64 (pshN y S pre)) := (hn5v.1.cell hl (fun h => hF1 (hGF _ h))).trans q1
  have z2 : ∀ j, w5.frozen? ⟨w.heap.size + 1, j, none⟩ = false := fun j => (hn5v.1.frozen hl (fun h => hF1 (hGF _ h))).trans (q2 j)
  have hob5 := (hn5v.1.block w.heap.size (by omega) (fun h => hF0 (hGF _ h))).trans hob
  have hk5 : Keep D E V w5 := keep_chg hn5v.1 (fun k h1 h2 hh => by have := ho k (hGF k hh); omega)
  have hcm : CC w5 F'' b me win tr M (mapOn (pre ++ [x]) (pshP y) S) := by rw [mapOn_snoc hSp]; exact hc5
  have ho5 : ∀ k, F'' k → k < w.heap.size ∨ E ≤ k := fun k hk => by
    rcases hnF.2 k hk with h1 | h1
    · exact ho k h1
    · exact .inr (by omega)
  refine ⟨hk5, below0 hn5v.1, z1, z2 0, fun hno => ⟨F'', hcm, ho5, hn.trans hnF, ⟨?_, z2⟩, hob5⟩, fun hyes => ?_⟩
  · rw [pshN_snoc, if_neg (by rw [hno]; simp), Nat.add_zero]
    exact z1
  · have ch7 := chg_pt w5 (w.heap.size + 1) 0 (.int .i64 (pshN y S pre + 1))
    have c57 : Chg (fun k => G k ∨ k = w.heap.size + 1) V (w5.setCell ⟨w.heap.size + 1, 0, none⟩ (.int .i64 (pshN y S pre + 1))) := (hn5v.1.mono (fun _ _ e => .inl e)).trans ch7 (fun _ _ e => .inr e)
    refine ⟨keep_chg c57 (fun k h1 h2 hh => ?_), below0 c57, F'', hcm.keep ch7 (fun k hk e => ?_), ho5, ⟨(hn.trans hnF).1.trans ch7 (fun k hk e => by omega), (hn.trans hnF).2⟩, ⟨?_, fun j => ?_⟩, ?_⟩
    · rcases hh with h | h
      · have := ho k (hGF k h); omega
      · omega
    · subst e
      have := ho5 _ hk
      omega
    · rw [pshN_snoc, if_pos hyes]
      exact World.cell?_setCell_same _ _ _ z1
    · have := z2 j
      simpa [go_sem] using this
    · exact (ch7.block w.heap.size (by omega) (by omega)).trans hob5
set_option maxHeartbeats 8000000 in
theorem cpall_any (y : Ob) (h : CC w F b me win tr M S) : Calls Tryz.prog 61 #[.pointer (some ⟨b, 0, none⟩), .agg #[.int .i64 y.k, .int .i64 y.x, .bool y.n, .int .i64 y.t, .int .i64 y.o, .int .i64 y.r, .int .i64 y.d, .int .i64 y.i, .int .i64 y.p, .int .i64 y.q, .int .i64 y.s, .int .i64 y.m]] w fun e w' => e = .returned (.int .i64 (pshN y S (ksU S 64))) ∧ ∃ F', CC w' F' b me win tr M (fun i => (S i).map (pshP y)) ∧ Nx w w' F F' := by
  obtain ⟨W1, hW1⟩ : ∃ W1, W1 = (w.alloc (.cells #[.int .i64 y.k, .int .i64 y.x, .bool y.n, .int .i64 y.t, .int .i64 y.o, .int .i64 y.r, .int .i64 y.d, .int .i64 y.i, .int .i64 y.p, .int .i64 y.q, .int .i64 y.s, .int .i64 y.m] 41)).alloc (.cells #[.int .i64 0] 3) := ⟨_, rfl⟩
  have hb1 : Below w.heap.size w W1 := by rw [hW1]; exact ((Below.refl _ w).alloc (Nat.le_refl _) _).alloc (by simp) _
  have hs1 : W1.heap.size = w.heap.size + 2 := by rw [hW1]; simp
  have q1 : W1.cell? ⟨w.heap.size + 1, 0, none⟩ = some (.int .i64 0) ∧ ∀ j, W1.frozen? ⟨w.heap.size + 1, j, none⟩ = false := by
    rw [hW1]
    exact ⟨by simp, fun j => by simp⟩
  have o1 : W1.heap[w.heap.size]? = (w.alloc (.cells #[.int .i64 y.k, .int .i64 y.x, .bool y.n, .int .i64 y.t, .int .i64 y.o, .int .i64 y.r, .int .i64 y.d, .int .i64 y.i, .int .i64 y.p, .int .i64 y.q, .int .i64 y.s, .int .i64 y.m] 41)).heap[w.heap.size]? := by rw [hW1]; exact Below.heap_alloc _ _ _ (by simp)
  have cT := itall W1 (some b)
  obtain ⟨W2, hW2⟩ : ∃ W2, W2 = W1.alloc (.cells #[pt (some b)] 56) := ⟨_, rfl⟩
  rw [← hW2, hs1] at cT
  have ha2 : Below W1.heap.size W1 W2 := by rw [hW2]; exact (Below.refl _ W1).alloc (Nat.le_refl _) _
  have hb2 : Below w.heap.size w W2 := hb1.trans (ha2.mono (by omega))
  have hs2 : W2.heap.size = w.heap.size + 3 := by rw [hW2]; simp [hs1]
  have bL : W2.cell? ⟨w.heap.size + 2, 0, none⟩ = some (.pointer (some ⟨b, 0, none⟩)) := by rw [hW2, ← hs1]; simp [pt]
  have hc2 := h.below hb2
  have SQ := it_any 4 W2 (w.heap.size + 2) b (w.heap.size + 3) (fS M S) (encS M) (fun i m hi => by
    unfold fS at hi
    cases e : S i with
    | none => rw [e] at hi; cases hi
    | some p => rw [e] at hi; cases hi; rfl) bL hc2.cs
  rw [← ksU_eq] at SQ
  have hlow := h.low
  have hl1 : w.heap.size + 1 < W1.heap.size := by omega
  have h0 : QIc w F b me win tr M S y (w.heap.size + 3 + 2 + 0) [] W2 := ⟨F, by rw [mapOn_nil]; exact hc2, fun k hk => .inl (h.lt k hk), .below hb2, ⟨(ha2.cell (p := ⟨w.heap.size + 1, 0, none⟩) hl1).trans q1.1, fun j => (ha2.frozen (p := ⟨w.heap.size + 1, j, none⟩) hl1).trans (q1.2 j)⟩, (ha2.block w.heap.size (by omega)).trans o1⟩
  clear h hc2 bL hb1 hb2 q1 o1 ha2
  simp only [pt, Option.map_some] at cT
  refine callsIn_wide.1 (callsIn_of_wp_marks (n := 5) Tryz.func61 rfl trivial ?_ rfl)
  simp only [Tryz.ntmps61, List.size_toArray, List.length_cons, List.length_nil, Nat.reduceAdd, Nat.reduceSub, Array.replicate_succ, Array.replicate_zero, List.push_toArray, List.append_toArray, List.nil_append, List.cons_append]
  gi_wp2_with fail
  rw [← hW1]
  refine wideC' (cT.mono ?_)
  rintro e V2 ⟨rfl, rfl⟩
  clear cT hW1 hW2
  gi_wp2_with fail
  refine wpIn_rangeFuncV rfl (by decide) (gf := 108) (lb := #[.pointer (some ⟨w.heap.size + 2, 0, none⟩)]) rfl trivial (enters_of Tryz.func108 (by kernel_rfl) rfl) SQ (Below.refl _ _) (fun _ => rfl)
    (w.heap.size + 3) (w.heap.size + 3 + 2 + 0) hs2 rfl (by omega) (by omega) (by omega)
    (QIc w F b me win tr M S y (w.heap.size + 3 + 2 + 0)) (fun _ _ _ => False) (qic_ab (by omega)) (fun _ _ _ _ _ h _ _ => h) h0 ?round ?done ?stop
  case round =>
    rintro l pre x W hI hsz hpre
    obtain ⟨⟨p, hp⟩, hx, hx64, hpl⟩ := ks_next hpre
    clear SQ hpre h0
    simp [encS]
    gi_wp2_with fail
    refine ⟨Keep.refl _ _ _, Below.refl _ _, fun V hg => ?_⟩
    have hV := qic_ab (D := w.heap.size + 3) (by omega) _ _ _ _ hI hg (fun r e => by cases e; omega)
    have hszV : w.heap.size + 3 + 2 + 0 ≤ V.heap.size := Nat.le_trans hsz hg.size
    obtain ⟨q, G, z2, hpd, z1, ⟨k0, k1, k2, k3, k4, k5, k6, k7, k8, k9, k10, k11⟩, HAP⟩ := qic_step (D := w.heap.size + 3) (by omega) hszV (by omega) hp hx hV
    have hio : okP y S x = decide ((pushR p.s y).1 = 0) := by unfold okP; rw [hp]
    have hnl : pshN y S pre < 64 := Nat.lt_of_le_of_lt (pshN_le y S pre) hpl
    obtain ⟨cd, hcd⟩ : ∃ c, (pushR p.s y).1 = c := ⟨_, rfl⟩
    obtain ⟨n, hn⟩ : ∃ n, pshN y S pre = n := ⟨_, rfl⟩
    have C := prpush_any y hpd
    rw [hcd] at C hio
    rw [hn] at z1 HAP hnl
    have C := Lib.hid C
    have HAP := Lib.hid HAP
    have HIO := Lib.hid hio
    have hn0 : (0 : Int) ≤ (n : Int) := by omega
    have hn1 : (n : Int) < 64 := by omega
    clear hI hg hV hpd hcd hn hio
    by_cases hc : cd = 0
    · have dc0 : (cd == 0) = true := by simpa using hc
      have HOK : Hid (okP y S x = true) := HIO.out.trans (decide_eq_true hc)
      clear hc
      gi_wp2_with fail
      refine region_in (by kernel_rfl) (by kernel_rfl) (fun h => by obtain ⟨_, _, h⟩ := h; exact h) ?_
      try (change wpAny _ _ _ _ _ _ _ (World.drew _))
      refine wpAny_take (i := 0) (v := ?_) rfl (by kernel_rfl) (by kernel_rfl) (by kernel_rfl) (fun _ _ _ h => h) (Or.inl ⟨by rfl, ?_⟩) ?_
      rotate_left
      · (intro w; go_simp) <;> with_reducible rfl
      refine wpAny_take (i := 1) (v := ?_) rfl (by kernel_rfl) (by kernel_rfl) (by kernel_rfl) (fun _ _ _ h => h) (Or.inl ⟨by rfl, ?_⟩) ?_
      rotate_left
      · (intro w; go_simp) <;> with_reducible rfl
      refine wpAny_take (i := 2) (v := ?_) rfl (by kernel_rfl) (by kernel_rfl) (by kernel_rfl) (fun _ _ _ h => h) (Or.inl ⟨by rfl, ?_⟩) ?_
      rotate_left
      · (intro w; go_simp) <;> with_reducible rfl
      refine wpAny_ready (rs := [3, 4]) (by kernel_rfl) (by simp) ?_
      refine AllReady.cons rfl (fun K hK => ?_) ?_
      · go_simp
        refine hK _ _ ?_
        clear hK K
        refine wpAny_ready (rs := [4]) (by kernel_rfl) (by simp) ?_
        refine AllReady.cons rfl (fun K hK => ?_) ?_
        · go_simp
          refine hK _ _ ?_
          clear hK K
          refine wpAny_ready (rs := [5]) (by kernel_rfl) (by simp) ?_
          refine AllReady.cons rfl (fun K hK => ?_) ?_
          · go_simp
            go_wp2_with (go_at_call 11; refine C.out.mono ?_; rintro e w5 ⟨rfl, hr⟩; have HF5 := Lib.hid (HAP.out w5 hr); have n1 := HF5.out.2.2.1; have f1 := HF5.out.2.2.2.1; clear hr)
            refine wpAny_ready (rs := [6]) (by kernel_rfl) (by simp) ?_
            refine AllReady.cons rfl (fun K hK => ?_) ?_
            · go_simp
              refine hK _ _ ?_
              clear hK K
              refine wpAny_done (by kernel_rfl) ?_ _
              gi_wp2_with fail
              exact HF5.out.2.2.2.2.2 HOK.out
            exact AllReady.nil
          exact AllReady.nil
        exact AllReady.nil
      refine AllReady.cons rfl (fun K hK => ?_) ?_
      · go_simp
        refine hK _ _ ?_
        clear hK K
        refine wpAny_ready (rs := [3]) (by kernel_rfl) (by simp) ?_
        refine AllReady.cons rfl (fun K hK => ?_) ?_
        · go_simp
          refine hK _ _ ?_
          clear hK K
          refine wpAny_ready (rs := [5]) (by kernel_rfl) (by simp) ?_
          refine AllReady.cons rfl (fun K hK => ?_) ?_
          · go_simp
            go_wp2_with (go_at_call 11; refine C.out.mono ?_; rintro e w5 ⟨rfl, hr⟩; have HF5 := Lib.hid (HAP.out w5 hr); have n1 := HF5.out.2.2.1; have f1 := HF5.out.2.2.2.1; clear hr)
            refine wpAny_ready (rs := [6]) (by kernel_rfl) (by simp) ?_
            refine AllReady.cons rfl (fun K hK => ?_) ?_
            · go_simp
              refine hK _ _ ?_
              clear hK K
              refine wpAny_done (by kernel_rfl) ?_ _
              gi_wp2_with fail
              exact HF5.out.2.2.2.2.2 HOK.out
            exact AllReady.nil
          exact AllReady.nil
        exact AllReady.nil
      exact AllReady.nil
    · have dc0 : (cd == 0) = false := by simpa using hc
      have HOK : Hid (okP y S x = false) := HIO.out.trans (decide_eq_false hc)
      clear hc
      gi_wp2_with fail
      refine region_in (by kernel_rfl) (by kernel_rfl) (fun h => by obtain ⟨_, _, h⟩ := h; exact h) ?_
      try (change wpAny _ _ _ _ _ _ _ (World.drew _))
      refine wpAny_take (i := 0) (v := ?_) rfl (by kernel_rfl) (by kernel_rfl) (by kernel_rfl) (fun _ _ _ h => h) (Or.inl ⟨by rfl, ?_⟩) ?_
      rotate_left
      · (intro w; go_simp) <;> with_reducible rfl
      refine wpAny_take (i := 1) (v := ?_) rfl (by kernel_rfl) (by kernel_rfl) (by kernel_rfl) (fun _ _ _ h => h) (Or.inl ⟨by rfl, ?_⟩) ?_
      rotate_left
      · (intro w; go_simp) <;> with_reducible rfl
      refine wpAny_take (i := 2) (v := ?_) rfl (by kernel_rfl) (by kernel_rfl) (by kernel_rfl) (fun _ _ _ h => h) (Or.inl ⟨by rfl, ?_⟩) ?_
      rotate_left
      · (intro w; go_simp) <;> with_reducible rfl
      refine wpAny_ready (rs := [3, 4]) (by kernel_rfl) (by simp) ?_
      refine AllReady.cons rfl (fun K hK => ?_) ?_
      · go_simp
        refine hK _ _ ?_
        clear hK K
        refine wpAny_ready (rs := [4]) (by kernel_rfl) (by simp) ?_
        refine AllReady.cons rfl (fun K hK => ?_) ?_
        · go_simp
          refine hK _ _ ?_
          clear hK K
          refine wpAny_ready (rs := [5]) (by kernel_rfl) (by simp) ?_
          refine AllReady.cons rfl (fun K hK => ?_) ?_
          · go_simp
            go_wp2_with (go_at_call 11; refine C.out.mono ?_; rintro e w5 ⟨rfl, hr⟩; have HF5 := Lib.hid (HAP.out w5 hr); have n1 := HF5.out.2.2.1; have f1 := HF5.out.2.2.2.1; clear hr)
            refine wpAny_ready (rs := [6]) (by kernel_rfl) (by simp) ?_
            refine AllReady.cons rfl (fun K hK => ?_) ?_
            · go_simp
              refine hK _ _ ?_
              clear hK K
              refine wpAny_done (by kernel_rfl) ?_ _
              gi_wp2_with fail
              exact ⟨HF5.out.1, HF5.out.2.1, HF5.out.2.2.2.2.1 HOK.out⟩
            exact AllReady.nil
          exact AllReady.nil
        exact AllReady.nil
      refine AllReady.cons rfl (fun K hK => ?_) ?_
      · go_simp
        refine hK _ _ ?_
        clear hK K
        refine wpAny_ready (rs := [3]) (by kernel_rfl) (by simp) ?_
        refine AllReady.cons rfl (fun K hK => ?_) ?_
        · go_simp
          refine hK _ _ ?_
          clear hK K
          refine wpAny_ready (rs := [5]) (by kernel_rfl) (by simp) ?_
          refine AllReady.cons rfl (fun K hK => ?_) ?_
          · go_simp
            go_wp2_with (go_at_call 11; refine C.out.mono ?_; rintro e w5 ⟨rfl, hr⟩; have HF5 := Lib.hid (HAP.out w5 hr); have n1 := HF5.out.2.2.1; have f1 := HF5.out.2.2.2.1; clear hr)
            refine wpAny_ready (rs := [6]) (by kernel_rfl) (by simp) ?_
            refine AllReady.cons rfl (fun K hK => ?_) ?_
            · go_simp
              refine hK _ _ ?_
              clear hK K
              refine wpAny_done (by kernel_rfl) ?_ _
              gi_wp2_with fail
              exact ⟨HF5.out.1, HF5.out.2.1, HF5.out.2.2.2.2.1 HOK.out⟩
            exact AllReady.nil
          exact AllReady.nil
        exact AllReady.nil
      exact AllReady.nil
  case done =>
    rintro W hI hK
    obtain ⟨n, hn⟩ : ∃ n, pshN y S (ksU S 64) = n := ⟨_, rfl⟩
    have h9 := qic_ab (D := w.heap.size + 3) (E := w.heap.size + 3 + 2 + 0) (by omega) _ _ _ _ hI (grownBy_putObj' W (w.heap.size + 3) (.deferred none)) (fun r e => by cases e; omega)
    obtain ⟨F', hc, _, hnx, _⟩ := h9
    rw [mapOn_all (fun i p hi => (hlow i p hi).1)] at hc
    obtain ⟨_, _, _, _, ⟨q1, _⟩, _⟩ := hI
    rw [hn] at q1
    have HN := Lib.hid hn
    have HR : Hid (∃ F', CC (W.putObj (w.heap.size + 3) (.deferred none)) F' b me win tr M (fun i => (S i).map (pshP y)) ∧ Nx w (W.putObj (w.heap.size + 3) (.deferred none)) F F') := ⟨F', hc, hnx⟩
    clear hc hnx h0 SQ hn
    gi_wp2_with fail
    exact postM_cell hK (v := .int .i64 n) (by simp [results, Tryz.results61, go_sem]) ⟨by rw [HN.out], HR.out⟩
  case stop =>
    rintro ex pre W hpre h
    exact h.elim
end
end Go.Proofs.YtdigjklhfimnbaaGreat
