/- Texts Ca2, Ca6 of this proof, in one. No conditions but on lengths. -/
import Derived.Test.YtdigjklhfimnbaaGreatRows
import Derived.Test.YtdigjklhfimnbaaGreatU41
import Derived.Test.YtdigjklhfimnbaaGreatU42
import Derived.Test.YtdigjklhfimnbaaGreatU45
import Derived.ArgAppend
import Derived.Below
import Derived.BigQuiet
import Derived.BigRegion
import Derived.Calls
import Derived.ChangeAlike
import Derived.ChangeArms
import Derived.ChangeKeysEq
import Derived.ChangeMade
import Derived.ChangeOld
import Derived.Deep.Cut
import Derived.Deep.CutBlock
import Derived.Deep.LoopGhost
import Derived.Deep.QuietTactic
import Derived.Deep.RegionHeld
import Derived.Deep.RegionLaw
import Derived.Deep.RegionWith
import Derived.Deep.Slices
import Derived.Defers
import Derived.Ground.GgzProg
import Derived.Ground.Names2Prog
import Derived.Laws.AppendOwnNone
import Derived.Laws.BitsLemmas
import Derived.Laws.BytesArg
import Derived.Laws.LoneSync
import Derived.Laws.OwnMore
import Derived.Laws.Pointers
import Derived.Laws.Rows
import Derived.Laws.StructEq
import Derived.Laws.Tables
import Derived.Lib.ConvBytes
import Derived.Lib.Hide
import Derived.Lib.OwnBridge
import Derived.Lib.QuietBelow
import Derived.Lib.SliceRun
import Derived.Lib.SlicesCompact
import Derived.LoopIn
import Derived.LoopTactic
import Derived.Maps.AppendAt
import Derived.Maps.Own
import Derived.Maps.OwnOps
import Derived.Maps.OwnSet
import Derived.Maps.RangeWalk
import Derived.Maps.Views
import Derived.OpenShut
import Derived.Orders
import Derived.OrdersIn
import Derived.Outline
import Derived.OwnWalkIn
import Derived.ProofKit
import Derived.RangeFuncBox
import Derived.RangeFuncCalls
import Derived.RangeFuncLeaves
import Derived.RangeFuncNested
import Derived.RegionCalls
import Derived.RegionTactic
import Derived.Shelf.RegionOpen
import Derived.Shelf.RegionOpenPlain
import Derived.Shelf.SlIterI.Nil
import Derived.Shelf.Slices.CompactI
import Derived.Shelf.Slices.In.SortNone
import Derived.Shelf.Sort.Plain
import Derived.ShutString
import Derived.Sort.Grow
import Derived.StillTail
import Derived.TacticsInMore
import Derived.WalkKit
import Derived.WalkLawsBesides
import Derived.WalkSpells
import Derived.WideShapes
namespace Go.Proofs.YtdigjklhfimnbaaGreat
set_option maxRecDepth 100000
set_option linter.unusedVariables false
open Go.RowKit

abbrev Fm := Hd4 × List Pt
def zFm : Fm := ((0, 0, 0, 0), [])
/-- A row of frames of one's own, off the blocks of G, what its frames have off these and off the row. -/
def FrM (w : World) (S : Nat) (G : Nat → Prop) (v : Value) (fs : List Fm) : Prop := ∃ rs : List RFc, rs.length = fs.length ∧ w.ownsRow S 51 5 v rs.length (gflat RFR rs) ∧ (∀ g, v.ownBlock = some g → ¬ G g) ∧ ∀ i, i < fs.length → FrO w (OwG G v) (rs.getD i zF) (fs.getD i zFm).1 (fs.getD i zFm).2
section
variable {w w' : World} {S : Nat} {G G' : Nat → Prop} {v : Value} {fs : List Fm}
theorem FrM.nx (x : FrM w S G v fs) (hn : Nx w w' G G') : FrM w' S G' v fs := by
  obtain ⟨rs, h1, h2, h3, h4⟩ := x
  obtain ⟨k1, k2, k3⟩ := nx_own hn h2 h3
  exact ⟨rs, h1, k1, k2, fun i hi => (h4 i hi).nx k3⟩
theorem FrM.below (x : FrM w S G v fs) (hb : Below w.heap.size w w') : FrM w' S G v fs := x.nx (.below hb)
theorem FrM.nil (w : World) (S : Nat) (G : Nat → Prop) : FrM w S G (.slice none 0 0) [] := ⟨[], rfl, gown_nil (R := RFR) w S, (fun g h => by cases h), fun i hi => absurd hi (Nat.not_lt_zero i)⟩
theorem FrM.form (x : FrM w S G v fs) : ∃ a c, v = .slice a fs.length c := by
  obtain ⟨rs, h1, h2, _⟩ := x
  obtain ⟨a, c, e⟩ := gown_form h2
  exact ⟨a, c, by rw [e]; exact congrArg (fun n => Value.slice a n c) h1⟩
theorem FrM.lt (x : FrM w S G v fs) : ∀ g, v.ownBlock = some g → S ≤ g ∧ g < w.heap.size := by
  obtain ⟨rs, h1, h2, _⟩ := x
  exact World.ownsRow.lt h2
theorem FrM.off (x : FrM w S G v fs) : ∀ g, v.ownBlock = some g → ¬ G g := by
  obtain ⟨rs, h1, h2, h3, _⟩ := x
  exact h3
theorem FrM.mono {H : Nat → Prop} {B : Nat} (x : FrM w S G v fs) (hB : B ≤ S) (hG : ∀ k, k < w.heap.size → H k → G k) : FrM w B H v fs := by
  obtain ⟨rs, h1, h2, h3, h4⟩ := x
  have hl := World.ownsRow.lt h2
  exact ⟨rs, h1, gown_mono h2 hB, fun g hg hh => h3 g hg (hG g (hl g hg).2 hh), fun i hi => (h4 i hi).mono (fun k hk hh => hh.imp (hG k hk) (fun e => e))⟩
theorem FrM.at {a : Option Addr} {c : Nat} (x : FrM w S G (.slice a fs.length c) fs) {i : Nat} (hi : i < fs.length) : ∃ b a' c', a = some ⟨b, 0, none⟩ ∧ fs.length ≤ c ∧ b < w.heap.size ∧ ¬ G b ∧ (w.cell? ⟨b, 0 + i * 5, none⟩ = some (.int .i64 (fs.getD i zFm).1.1) ∧ w.cell? ⟨b, 0 + i * 5 + 1, none⟩ = some (.int .i64 (fs.getD i zFm).1.2.1) ∧ w.cell? ⟨b, 0 + i * 5 + 2, none⟩ = some (.int .i64 (fs.getD i zFm).1.2.2.1) ∧ w.cell? ⟨b, 0 + i * 5 + 3, none⟩ = some (.int .i64 (fs.getD i zFm).1.2.2.2) ∧ w.cell? ⟨b, 0 + i * 5 + 4, none⟩ = some (.slice a' (fs.getD i zFm).2.length c')) ∧ PaO w G a' c' (fs.getD i zFm).2 := by
  obtain ⟨rs, h1, h2, h3, h4⟩ := x
  have hgs := (Gs_of_own (R := RFR) h2).1
  rw [← h1] at hgs
  obtain ⟨b, off, e, hb, hc⟩ := Gs.at (R := RFR) hgs (i := i) (show i < rs.length by omega)
  obtain ⟨q1, q2, q3⟩ := h4 i hi
  rcases h2.2 with ⟨h5, h6⟩ | ⟨g, cap, cur, h5, k1, k2, k3, k4, _⟩
  · have h7 : rs.length = 0 := h6
    omega
  · simp only [Value.slice.injEq] at h5
    obtain ⟨rfl, -, rfl⟩ := h5
    cases e
    have hcap : fs.length ≤ c := by have h8 : rs.length ≤ c := k3; omega
    rw [← q1]
    refine ⟨b, (rs.getD i zF).a, (rs.getD i zF).c, rfl, hcap, hb, h3 b rfl, ⟨hc 0 (by decide), hc 1 (by decide), hc 2 (by decide), hc 3 (by decide), ?_⟩, q3.mono (fun k _ hk => .inl hk)⟩
    rw [← q2]
    exact hc 4 (by decide)
end
def fms (h : Hd4) (fs : List (List Pt)) : List Fm := fs.map fun x => (h, x)
theorem fms_len (h : Hd4) (fs : List (List Pt)) : (fms h fs).length = fs.length := List.length_map ..
theorem fms_at (h : Hd4) (fs : List (List Pt)) {i : Nat} (hi : i < fs.length) : (fms h fs).getD i zFm = (h, fs.getD i []) := by
  simp [fms, List.getD, hi]
/-- The frames of one session more. -/
theorem frm_app {w : World} {S S2 : Nat} {G G2 : Nat → Prop} {v u : Value} {fs : List Fm} {h : Hd4} {gs : List (List Pt)} (x : FrM w S G v fs) (y : FrW w S2 G2 u h gs) (hG2 : ∀ k, k < w.heap.size → OwG G v k → G2 k) (hl : fs.length + gs.length ≤ 30000) (hS : S ≤ w.heap.size) (hG : ∀ k, G k → k < w.heap.size) (tt : TypeId) : ∃ a c w', (Builtin.append_ #[32, 32] tt #[v, u]).run Tryz.prog w = .ok (.slice a (fs ++ fms h gs).length c) w' ∧ FrM w' S G (.slice a (fs ++ fms h gs).length c) (fs ++ fms h gs) ∧ w.grownBy w' v.ownBlock := by
  obtain ⟨rs, h1, h2, h3, h4⟩ := x
  obtain ⟨us, k1, k2, k3, k4⟩ := y
  obtain ⟨r, w', hrun, ho, hg, hgg⟩ := run_gapps9 RFR w tt S v rs h2 S2 u us k2 (by show rs.length + us.length ≤ 30000; omega) hS
  have e : (fs ++ fms h gs).length = (rs ++ us).length := by rw [List.length_append, List.length_append, fms_len, h1, k1]
  obtain ⟨a, c, rfl⟩ := gown_form ho
  have hnx : Nx w w' (OwG G v) (OwG G (.slice a (rs ++ us).length c)) := ⟨(chg_grown hg).mono (fun k _ hk => .inr hk), fun k hk => by
    rcases hk with hk | hk
    · exact .inl (.inl hk)
    · exact (hgg k hk).imp .inr (fun e => e)⟩
  rw [e]
  refine ⟨a, c, w', hrun, ⟨rs ++ us, e.symm, ho, fun k hk hG9 => ?_, fun i hi => ?_⟩, hg⟩
  · rcases hgg k hk with h5 | h5
    · exact h3 k h5 hG9
    · have := hG k hG9; omega
  · by_cases hi2 : i < fs.length
    · rw [show (rs ++ us).getD i zF = rs.getD i zF by simp [List.getD, List.getElem?_append, h1, hi2], show (fs ++ fms h gs).getD i zFm = fs.getD i zFm by simp [List.getD, List.getElem?_append, hi2]]
      exact (h4 i hi2).nx hnx
    · have hj : i - fs.length < gs.length := by rw [List.length_append, fms_len] at hi; omega
      rw [show (rs ++ us).getD i zF = us.getD (i - fs.length) zF by simp [List.getD, List.getElem?_append, h1, hi2], show (fs ++ fms h gs).getD i zFm = (fms h gs).getD (i - fs.length) zFm by simp [List.getD, List.getElem?_append, hi2], fms_at h gs hj]
      exact ((k4 (i - fs.length) hj).mono (fun k hk hh => .inl (hG2 k hk hh))).nx hnx
def frmP (p : Pr) : List Fm := fms p.hd (frsL (owedL p) (sdT p.s))
end Go.Proofs.YtdigjklhfimnbaaGreat
namespace Go.Proofs.YtdigjklhfimnbaaGreat
set_option maxRecDepth 100000
set_option linter.unusedVariables false
open Go.RowKit

attribute [local go_sem] Oper.semAt_some
theorem keep_chg {G : Nat → Prop} {D E : Nat} {A B : World} (h : Chg G A B) (hG : ∀ k, D ≤ k → k < E → ¬ G k) : Keep D E A B := ⟨h.size, fun k h1 h2 h3 => h.block k h3 (hG k h1 h2)⟩
theorem below0 {G : Nat → Prop} {A B : World} (h : Chg G A B) : Below 0 A B := h.below (Nat.zero_le _) (fun _ _ => Nat.zero_le _)
theorem frsL_len (ow : List Pt) (l : List Bt) : (frsL ow l).length ≤ l.length + 1 := by
  cases l with
  | nil =>
    show (if ow = [] then ([] : List (List Pt)) else [ow]).length ≤ 1
    split <;> simp
  | cons x l => show ((ow ++ [ptB x]) :: l.map fun x => [ptB x]).length ≤ _; rw [List.length_cons, List.length_map, List.length_cons]; omega
theorem frmP_len {p : Pr} (h : SdOk p.s) : (frmP p).length ≤ 17 := by
  unfold frmP
  rw [fms_len]
  have h1 := frsL_len (owedL p) (sdT p.s)
  have h2 := sdT_le h
  omega
theorem flatM_len {α : Type} {f : Nat → List α} {n : Nat} (h : ∀ i, (f i).length ≤ n) (l : List Nat) : (l.flatMap f).length ≤ n * l.length := by
  induction l with
  | nil => simp
  | cons x l ih =>
    rw [List.flatMap_cons, List.length_append, List.length_cons, Nat.mul_succ]
    have := h x
    omega
section
variable {w w' : World} {F F' G : Nat → Prop} {b : Nat} {me : Nd} {win tr : Int} {M : Nat → Nat} {S : Nat → Option Pr}
theorem CC.sdok (h : CC w F b me win tr M S) : ∀ i p, S i = some p → SdOk p.s ∧ TkOk p.t ∧ NdOk p.pe := by
  obtain ⟨H, h, rfl⟩ := h
  intro i p hi
  have := (h.se i p hi).2.1.ok
  exact ⟨this.1, this.2.1, this.2.2.2.1⟩
/-- Between two rounds of Frames. -/
def FIc (w : World) (F : Nat → Prop) (b : Nat) (me : Nd) (win tr : Int) (M : Nat → Nat) (S : Nat → Option Pr) (E : Nat) (pre : List Nat) (W : World) : Prop :=
  ∃ F' v, CC W F' b me win tr M (mapOn pre frS S) ∧ (∀ k, F' k → k < w.heap.size ∨ E ≤ k) ∧ Nx w W F F' ∧ (W.cell? ⟨w.heap.size, 0, none⟩ = some v ∧ ∀ j, W.frozen? ⟨w.heap.size, j, none⟩ = false) ∧ FrM W w.heap.size (Ab F' E) v (pre.flatMap (gO S frmP))
theorem fic_ab {w : World} {D E : Nat} (hD : w.heap.size < D) : AbK D E (FIc w F b me win tr M S E) := by
  rintro s W W' row ⟨F', v, hc, ho, hn, ⟨q1, q2⟩, hf⟩ hg hr
  have hch : Chg (fun k => D ≤ k ∧ k < E) W W' := (chg_grown hg).mono (fun k _ e => hr k e)
  have hl := World.block_lt_of_cell? W _ q1
  have hnd : ¬ (D ≤ w.heap.size ∧ w.heap.size < E) := fun h => by omega
  exact ⟨F', v, hc.keep hch (fun k hk hk2 => by have := ho k hk; omega), ho, ⟨hn.1.trans hch (fun k hk e => by omega), hn.2⟩, ⟨(hch.cell hl hnd).trans q1, fun j => (hch.frozen hl hnd).trans (q2 j)⟩, hf.nx ⟨hch.mono (fun k _ hk => .inr hk.2), fun k hk => .inl hk⟩⟩
/-- A round of Frames. -/
theorem fic_step {w V : World} {E D : Nat} {pre : List Nat} {x : Nat} {p : Pr} (h0 : w.heap.size < D) (hE : E ≤ V.heap.size) (hDE : D ≤ E) (hOK : ∀ i, (gO S frmP i).length ≤ 17) (hpl : pre.length < 64) (hSp : S x = some p) (hx : x ∉ pre) (h : FIc w F b me win tr M S E pre V) :
    ∃ q G v, V.cell? ⟨w.heap.size, 0, none⟩ = some v ∧ V.cell? ⟨M x, 2, none⟩ = some (.pointer (some ⟨q, 0, none⟩)) ∧ PP V.drew G q p ∧ ∀ w5 r, (∃ G', PP w5 G' q (frS p) ∧ Nx V.drew w5 G G' ∧ FrW w5 V.drew.heap.size (Ab G' V.drew.heap.size) r p.hd (frsL (owedL p) (sdT p.s))) →
      (w5.cell? ⟨w.heap.size, 0, none⟩ = some v ∧ ∀ j, w5.frozen? ⟨w.heap.size, j, none⟩ = false) ∧ ∃ a6 c6 W6, (Builtin.append_ #[32, 32] 32 #[v, r]).run Tryz.prog w5 = .ok (.slice a6 ((pre ++ [x]).flatMap (gO S frmP)).length c6) W6 ∧ (∀ j, W6.frozen? ⟨w.heap.size, j, none⟩ = false) ∧ W6.cell? ⟨w.heap.size, 0, none⟩ = some v ∧
        (Keep D E V (W6.setCell ⟨w.heap.size, 0, none⟩ (.slice a6 ((pre ++ [x]).flatMap (gO S frmP)).length c6)) ∧ Below 0 V (W6.setCell ⟨w.heap.size, 0, none⟩ (.slice a6 ((pre ++ [x]).flatMap (gO S frmP)).length c6)) ∧ FIc w F b me win tr M S E (pre ++ [x]) (W6.setCell ⟨w.heap.size, 0, none⟩ (.slice a6 ((pre ++ [x]).flatMap (gO S frmP)).length c6))) := by
  obtain ⟨F', v, hc, ho, hn, ⟨q1, q2⟩, hf⟩ := h
  obtain ⟨Hx, hs, hme, hpe, hHF, hHb, hstep⟩ := hc.at ((mapOn_at hx).trans hSp)
  obtain ⟨q, G, c2, hpp, hGH, hgo⟩ := hs.at
  obtain ⟨lc, hlc⟩ : ∃ lc, w.heap.size = lc := ⟨_, rfl⟩
  rw [hlc] at h0 ho q1 q2 hf ⊢
  have hl := World.block_lt_of_cell? V _ q1
  have hFlc : ¬ F' lc := fun h => by have := ho lc h; omega
  have hGF : ∀ k, G k → F' k := fun k hk => hHF k (hGH k hk)
  have hGlc : ¬ G lc := fun h => hFlc (hGF lc h)
  refine ⟨q, G, v, q1, c2, hpp.keep (G := fun _ => False) ((Chg.refl _ V).drew) (fun _ _ g => g), ?_⟩
  rintro w5 r ⟨G', hp5, hn5, hr5⟩
  have hn5v : Nx V w5 G G' := (nx_drew G (Below.refl _ V)).trans hn5
  obtain ⟨Hx', hs5, hnH, hH'⟩ := hgo w5 G' (frS p) hp5 hn5v rfl
  obtain ⟨F'', hc5, hnF, hF''⟩ := hstep w5 Hx' (frS p) hs5 hnH rfl rfl
  have hsz : V.heap.size ≤ w5.heap.size := hn5v.1.size
  have z1 : w5.cell? ⟨lc, 0, none⟩ = some v := (hn5v.1.cell hl hGlc).trans q1
  have z2 : ∀ j, w5.frozen? ⟨lc, j, none⟩ = false := fun j => (hn5v.1.frozen hl hGlc).trans (q2 j)
  have hf5 : FrM w5 lc (Ab F'' E) v (pre.flatMap (gO S frmP)) := hf.nx (Ab.nx hnF)
  have hlen1 := flatM_len hOK pre
  have hlen2 : (frsL (owedL p) (sdT p.s)).length ≤ 17 := by
    have := hOK x
    rw [gO_some hSp] at this
    unfold frmP at this
    rwa [fms_len] at this
  obtain ⟨a6, c6, W6, hrun, hf6, hg6⟩ := frm_app hf5 hr5 (fun k hk hh => by
    rcases hh with (hh | hh) | hh
    · rcases hF'' k hh with h1 | h1
      · exact .inr (hc.lt k h1)
      · rcases hH' k h1 with h2 | h2
        · exact .inr (by rw [h2]; exact hs.lt _ hs.hs)
        · exact .inl h2
    · exact .inr (Nat.lt_of_lt_of_le hh hE)
    · exact .inr (hf.lt k hh).2) (by omega) (by omega) (fun k hk => hk.elim (hc5.lt k) (fun e => by omega)) 32
  have e : pre.flatMap (gO S frmP) ++ fms p.hd (frsL (owedL p) (sdT p.s)) = (pre ++ [x]).flatMap (gO S frmP) := by rw [flat_snoc, gO_some hSp]; rfl
  rw [e] at hrun hf6
  refine ⟨⟨z1, z2⟩, a6, c6, W6, hrun, ?_⟩
  have hov : ∀ k, v.ownBlock = some k → ¬ Ab F'' E k := hf5.off
  have hvl : v.ownBlock ≠ some lc := fun h => hov lc h (.inr (by omega))
  have c6g := chg_grown hg6
  have hl5 := World.block_lt_of_cell? w5 _ z1
  have y1 : W6.cell? ⟨lc, 0, none⟩ = some v := (c6g.cell hl5 hvl).trans z1
  have y2 : ∀ j, W6.frozen? ⟨lc, j, none⟩ = false := fun j => (c6g.frozen hl5 hvl).trans (z2 j)
  have ch7 := chg_pt W6 lc 0 (.slice a6 ((pre ++ [x]).flatMap (gO S frmP)).length c6)
  have c57 : Chg (fun k => v.ownBlock = some k ∨ k = lc) w5 (W6.setCell ⟨lc, 0, none⟩ (.slice a6 ((pre ++ [x]).flatMap (gO S frmP)).length c6)) := (c6g.mono (fun _ _ e => .inl e)).trans ch7 (fun _ _ e => .inr e)
  have ct : Chg (fun k => G k ∨ v.ownBlock = some k ∨ k = lc) V (W6.setCell ⟨lc, 0, none⟩ (.slice a6 ((pre ++ [x]).flatMap (gO S frmP)).length c6)) := (hn5v.1.mono (fun _ _ e => .inl e)).trans c57 (fun _ _ e => .inr e)
  refine ⟨y2, y1, keep_chg ct (fun k h1 h2 hh => ?_), below0 ct, F'', .slice a6 ((pre ++ [x]).flatMap (gO S frmP)).length c6, ?_, fun k hk => ?_, ⟨?_, fun k hk => ?_⟩, ⟨?_, fun j => ?_⟩, ?_⟩
  · rcases hh with h | h | h
    · have := ho k (hGF k h); omega
    · exact hf.off k h (.inr h2)
    · omega
  · rw [mapOn_snoc hSp]
    exact hc5.keep c57 (fun k hk e => e.elim (fun h => hov k h (.inl hk)) (fun h => by
      subst h
      rcases hnF.2 _ hk with h1 | h1
      · exact hFlc h1
      · omega))
  · rcases hnF.2 k hk with h1 | h1
    · rw [hlc]; exact ho k h1
    · exact .inr (by omega)
  · exact (hn.trans hnF).1.trans c57 (fun k hk e => by
      rcases e with e | e
      · have := (hf.lt k e).1; omega
      · omega)
  · exact (hn.trans hnF).2 k hk
  · rw [hlc]; exact World.cell?_setCell_same _ _ _ y1
  · rw [hlc]
    have := y2 j
    simpa [go_sem] using this
  · rw [hlc]
    exact hf6.nx ⟨ch7.mono (fun k _ e => .inr (by omega)), fun k hk => .inl hk⟩
theorem fic_end {w W : World} {D E : Nat} {pre : List Nat} (hD : w.heap.size < D) (hDE : D < E) (o : Obj) (h : FIc w F b me win tr M S E pre W) : ∃ v, W.cell? ⟨w.heap.size, 0, none⟩ = some v ∧ ∃ F', CC (W.putObj D o) F' b me win tr M (mapOn pre frS S) ∧ Nx w (W.putObj D o) F F' ∧ FrM (W.putObj D o) w.heap.size (Ab F' w.heap.size) v (pre.flatMap (gO S frmP)) := by
  obtain ⟨F', v, hc, ho, hn, ⟨q1, q2⟩, hf⟩ := h
  have hch : Chg (fun k => D ≤ k ∧ k < E) W (W.putObj D o) := (chg_grown (grownBy_putObj' W D o)).mono (fun k _ e => by cases e; omega)
  refine ⟨v, q1, F', hc.keep hch (fun k hk hk2 => by have := ho k hk; omega), ⟨hn.1.trans hch (fun k hk e => by omega), hn.2⟩, ?_⟩
  have h9 : FrM (W.putObj D o) w.heap.size (Ab F' E) v (pre.flatMap (gO S frmP)) := hf.nx ⟨hch.mono (fun k _ hk => .inr hk.2), fun k hk => .inl hk⟩
  exact h9.mono (Nat.le_refl _) (fun k _ hk => hk.imp (fun e => e) (fun e => by omega))
set_option maxHeartbeats 8000000 in
theorem cfr_any (h : CC w F b me win tr M S) : Calls Tryz.prog 29 #[.pointer (some ⟨b, 0, none⟩)] w fun e w' => ∃ r, e = .returned r ∧ ∃ F', CC w' F' b me win tr M (fun i => (S i).map frS) ∧ Nx w w' F F' ∧ FrM w' w.heap.size (Ab F' w.heap.size) r ((ksU S 64).flatMap (gO S frmP)) := by
  obtain ⟨W1, hW1⟩ : ∃ W1, W1 = w.alloc (.cells #[.slice none 0 0] 32) := ⟨_, rfl⟩
  have hb1 : Below w.heap.size w W1 := by rw [hW1]; exact (Below.refl _ w).alloc (Nat.le_refl _) _
  have hs1 : W1.heap.size = w.heap.size + 1 := by rw [hW1]; simp
  have cT := itall W1 (some b)
  obtain ⟨W2, hW2⟩ : ∃ W2, W2 = W1.alloc (.cells #[pt (some b)] 56) := ⟨_, rfl⟩
  rw [← hW2, hs1] at cT
  have hb2 : Below w.heap.size w W2 := by rw [hW2]; exact hb1.alloc (by omega) _
  have hs2 : W2.heap.size = w.heap.size + 2 := by rw [hW2]; simp [hs1]
  have bL : W2.cell? ⟨w.heap.size + 1, 0, none⟩ = some (.pointer (some ⟨b, 0, none⟩)) := by rw [hW2, ← hs1]; simp [pt]
  have bV : W2.cell? ⟨w.heap.size, 0, none⟩ = some (.slice none 0 0) ∧ ∀ j, W2.frozen? ⟨w.heap.size, j, none⟩ = false := by
    rw [hW2, hW1]
    exact ⟨by simp, fun j => by simp⟩
  have hc2 := h.below hb2
  have SQ := it_any 4 W2 (w.heap.size + 1) b (w.heap.size + 2) (fS M S) (encS M) (fun i m hi => by
    unfold fS at hi
    cases e : S i with
    | none => rw [e] at hi; cases hi
    | some p => rw [e] at hi; cases hi; rfl) bL hc2.cs
  rw [← ksU_eq] at SQ
  have hOK : ∀ i, (gO S frmP i).length ≤ 17 := fun i => by
    unfold gO
    split
    · next p e => exact frmP_len (h.sdok i p e).1
    · exact Nat.zero_le _
  have hlow := h.low
  have h0 : FIc w F b me win tr M S (w.heap.size + 2 + 2 + 0) [] W2 := ⟨F, _, by rw [mapOn_nil]; exact hc2, fun k hk => .inl (h.lt k hk), .below hb2, bV, FrM.nil _ _ _⟩
  clear h hc2 bV bL hb1 hb2
  simp only [pt, Option.map_some] at cT
  refine callsIn_wide.1 (callsIn_of_wp_marks (n := 5) Tryz.func29 rfl trivial ?_ rfl)
  simp only [Tryz.ntmps29, List.size_toArray, List.length_cons, List.length_nil, Nat.reduceAdd, Nat.reduceSub, Array.replicate_succ, Array.replicate_zero, List.push_toArray, List.append_toArray, List.nil_append, List.cons_append]
  gi_wp2_with fail
  rw [← hW1]
  refine wideC' (cT.mono ?_)
  rintro e V2 ⟨rfl, rfl⟩
  clear cT hW1 hW2
  gi_wp2_with fail
  refine wpIn_rangeFuncV rfl (by decide) (gf := 108) (lb := #[.pointer (some ⟨w.heap.size + 1, 0, none⟩)]) rfl trivial (enters_of Tryz.func108 (by kernel_rfl) rfl) SQ (Below.refl _ _) (fun _ => rfl)
    (w.heap.size + 2) (w.heap.size + 2 + 2 + 0) hs2 rfl (by omega) (by omega) (by omega)
    (FIc w F b me win tr M S (w.heap.size + 2 + 2 + 0)) (fun _ _ _ => False) (fic_ab (by omega)) (fun _ _ _ _ _ h _ _ => h) h0 ?round ?done ?stop
  case round =>
    rintro l pre x W hI hsz hpre
    obtain ⟨⟨p, hp⟩, hx, hx64, hpl⟩ := ks_next hpre
    clear SQ hpre h0
    simp [encS]
    gi_wp2_with fail
    refine ⟨Keep.refl _ _ _, Below.refl _ _, fun V hg => ?_⟩
    have hV := fic_ab (D := w.heap.size + 2) (by omega) _ _ _ _ hI hg (fun r e => by cases e; omega)
    have hszV : w.heap.size + 2 + 2 + 0 ≤ V.heap.size := Nat.le_trans hsz hg.size
    obtain ⟨q, G, v, z1, z2, hpd, HAP⟩ := fic_step (D := w.heap.size + 2) (by omega) hszV (by omega) hOK hpl hp hx hV
    obtain ⟨n6, hn6⟩ : ∃ n, ((pre ++ [x]).flatMap (gO S frmP)).length = n := ⟨_, rfl⟩
    simp only [hn6] at HAP
    have C := Lib.hid (prfr_any hpd)
    have HAP := Lib.hid HAP
    clear hI hg hV hpd hOK hlow
    gi_wp2_with fail
    refine region_in (by kernel_rfl) (by kernel_rfl) (fun h => by obtain ⟨_, _, h⟩ := h; exact h) ?_
    try (change wpAny _ _ _ _ _ _ _ (World.drew _))
    refine wpAny_take (i := 1) (v := ?_) rfl (by kernel_rfl) (by kernel_rfl) (by kernel_rfl) (fun _ _ _ h => h) (Or.inl ⟨by rfl, ?_⟩) ?_
    rotate_left
    · (intro w; go_simp) <;> with_reducible rfl
    refine wpAny_take (i := 2) (v := ?_) rfl (by kernel_rfl) (by kernel_rfl) (by kernel_rfl) (fun _ _ _ h => h) (Or.inl ⟨by rfl, ?_⟩) ?_
    rotate_left
    · (intro w; go_simp) <;> with_reducible rfl
    refine wpAny_take (i := 3) (v := ?_) rfl (by kernel_rfl) (by kernel_rfl) (by kernel_rfl) (fun _ _ _ h => h) (Or.inl ⟨by rfl, ?_⟩) ?_
    rotate_left
    · (intro w; go_simp) <;> with_reducible rfl
    refine wpAny_ready (rs := [0, 4]) (by kernel_rfl) (by simp) ?_
    refine AllReady.cons rfl (fun K hK => ?_) ?_
    · go_simp
      refine hK _ _ ?_
      clear hK K
      refine wpAny_ready (rs := [4]) (by kernel_rfl) (by simp) ?_
      refine AllReady.cons rfl (fun K hK => ?_) ?_
      · go_simp
        refine hK _ _ ?_
        clear hK K
        refine wpAny_ready (rs := [5]) (by kernel_rfl) (by simp) ?_
        refine AllReady.cons rfl (fun K hK => ?_) ?_
        · go_simp
          go_wp2_with (go_at_call 12; refine C.out.mono ?_; rintro e w5 ⟨r, rfl, hr⟩; obtain ⟨⟨u1, u2⟩, a6, c6, W6, hrun, y2, y1, hfin⟩ := HAP.out w5 r hr; have y20 := y2 0; clear hr u2)
          refine wpAny_ready (rs := [6]) (by kernel_rfl) (by simp) ?_
          refine AllReady.cons rfl (fun K hK => ?_) ?_
          · rw [if_pos (by rfl)]
            unfold Oper.wp
            rw [gexec_append (s := .tmp 8) (x := .tmp 13) (T := 32) rfl rfl rfl hrun]
            refine hK _ _ ?_
            clear hK K
            refine wpAny_ready (rs := [7]) (by kernel_rfl) (by simp) ?_
            refine AllReady.cons rfl (fun K hK => ?_) ?_
            · go_simp
              refine hK _ _ ?_
              clear hK K
              refine wpAny_done (by kernel_rfl) ?_ _
              gi_wp2_with fail
              exact hfin
            exact AllReady.nil
          exact AllReady.nil
        exact AllReady.nil
      exact AllReady.nil
    refine AllReady.cons rfl (fun K hK => ?_) ?_
    · go_simp
      refine hK _ _ ?_
      clear hK K
      refine wpAny_ready (rs := [0, 5]) (by kernel_rfl) (by simp) ?_
      refine AllReady.cons rfl (fun K hK => ?_) ?_
      · go_simp
        refine hK _ _ ?_
        clear hK K
        refine wpAny_ready (rs := [5]) (by kernel_rfl) (by simp) ?_
        refine AllReady.cons rfl (fun K hK => ?_) ?_
        · go_simp
          go_wp2_with (go_at_call 12; refine C.out.mono ?_; rintro e w5 ⟨r, rfl, hr⟩; obtain ⟨⟨u1, u2⟩, a6, c6, W6, hrun, y2, y1, hfin⟩ := HAP.out w5 r hr; have y20 := y2 0; clear hr u2)
          refine wpAny_ready (rs := [6]) (by kernel_rfl) (by simp) ?_
          refine AllReady.cons rfl (fun K hK => ?_) ?_
          · rw [if_pos (by rfl)]
            unfold Oper.wp
            rw [gexec_append (s := .tmp 8) (x := .tmp 13) (T := 32) rfl rfl rfl hrun]
            refine hK _ _ ?_
            clear hK K
            refine wpAny_ready (rs := [7]) (by kernel_rfl) (by simp) ?_
            refine AllReady.cons rfl (fun K hK => ?_) ?_
            · go_simp
              refine hK _ _ ?_
              clear hK K
              refine wpAny_done (by kernel_rfl) ?_ _
              gi_wp2_with fail
              exact hfin
            exact AllReady.nil
          exact AllReady.nil
        exact AllReady.nil
      refine AllReady.cons rfl (fun K hK => ?_) ?_
      · go_simp
        go_wp2_with (go_at_call 12; refine C.out.mono ?_; rintro e w5 ⟨r, rfl, hr⟩; obtain ⟨⟨u1, u2⟩, a6, c6, W6, hrun, y2, y1, hfin⟩ := HAP.out w5 r hr; have y20 := y2 0; clear hr u2)
        refine wpAny_ready (rs := [0]) (by kernel_rfl) (by simp) ?_
        refine AllReady.cons rfl (fun K hK => ?_) ?_
        · go_simp
          refine hK _ _ ?_
          clear hK K
          refine wpAny_ready (rs := [6]) (by kernel_rfl) (by simp) ?_
          refine AllReady.cons rfl (fun K hK => ?_) ?_
          · rw [if_pos (by rfl)]
            unfold Oper.wp
            rw [gexec_append (s := .tmp 8) (x := .tmp 13) (T := 32) rfl rfl rfl hrun]
            refine hK _ _ ?_
            clear hK K
            refine wpAny_ready (rs := [7]) (by kernel_rfl) (by simp) ?_
            refine AllReady.cons rfl (fun K hK => ?_) ?_
            · go_simp
              refine hK _ _ ?_
              clear hK K
              refine wpAny_done (by kernel_rfl) ?_ _
              gi_wp2_with fail
              exact hfin
            exact AllReady.nil
          exact AllReady.nil
        exact AllReady.nil
      exact AllReady.nil
    exact AllReady.nil
  case done =>
    rintro W hI hK
    obtain ⟨v, q1, F', hc, hn, hf⟩ := fic_end (D := w.heap.size + 2) (E := w.heap.size + 2 + 2 + 0) (by omega) (by omega) (.deferred none) hI
    rw [mapOn_all (fun i p hi => (hlow i p hi).1)] at hc
    have HR : Hid (∃ F', CC (W.putObj (w.heap.size + 2) (.deferred none)) F' b me win tr M (fun i => (S i).map frS) ∧ Nx w (W.putObj (w.heap.size + 2) (.deferred none)) F F' ∧ FrM (W.putObj (w.heap.size + 2) (.deferred none)) w.heap.size (Ab F' w.heap.size) v ((ksU S 64).flatMap (gO S frmP))) := ⟨F', hc, hn, hf⟩
    clear hc hn hf hI h0 SQ
    gi_wp2_with fail
    exact postM_cell hK (v := v) (by simp [results, Tryz.results29, go_sem]) ⟨_, rfl, HR.out⟩
  case stop =>
    rintro ex pre W hpre h
    exact h.elim
end
end Go.Proofs.YtdigjklhfimnbaaGreat
