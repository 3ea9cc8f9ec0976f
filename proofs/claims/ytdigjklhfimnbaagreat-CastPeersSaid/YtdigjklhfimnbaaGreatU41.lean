/- Texts Ca1, Ca3, Ca5, Ci1, Yab, Yac, Ca4 of this proof, in one. No conditions but on lengths. -/
import Derived.Test.YtdigjklhfimnbaaGreatRows
import Derived.Test.YtdigjklhfimnbaaGreatU39
import Derived.Test.YtdigjklhfimnbaaGreatU40
import Derived.ArgAppend
import Derived.Below
import Derived.BigQuiet
import Derived.BigRegion
import Derived.Calls
import Derived.ChangeAlike
import Derived.ChangeArms
import Derived.ChangeKeysEq
import Derived.ChangeMade
import Derived.ChangeOld
import Derived.Deep.Cut
import Derived.Deep.CutBlock
import Derived.Deep.LoopGhost
import Derived.Deep.QuietTactic
import Derived.Deep.RegionHeld
import Derived.Deep.RegionLaw
import Derived.Deep.RegionWith
import Derived.Deep.Slices
import Derived.Defers
import Derived.Ground.GgzProg
import Derived.Ground.Names2Prog
import Derived.Laws.AppendOwnNone
import Derived.Laws.BitsLemmas
import Derived.Laws.BytesArg
import Derived.Laws.LoneSync
import Derived.Laws.OwnMore
import Derived.Laws.Pointers
import Derived.Laws.Rows
import Derived.Laws.StructEq
import Derived.Laws.Tables
import Derived.Lib.ConvBytes
import Derived.Lib.Hide
import Derived.Lib.OwnBridge
import Derived.Lib.QuietBelow
import Derived.Lib.SliceRun
import Derived.Lib.SlicesCompact
import Derived.LoopIn
import Derived.LoopTactic
import Derived.Maps.AppendAt
import Derived.Maps.Own
import Derived.Maps.OwnOps
import Derived.Maps.OwnSet
import Derived.Maps.RangeWalk
import Derived.Maps.Views
import Derived.OpenShut
import Derived.Orders
import Derived.OrdersIn
import Derived.Outline
import Derived.OwnWalkIn
import Derived.ProofKit
import Derived.RangeFuncBox
import Derived.RangeFuncCalls
import Derived.RangeFuncLeaves
import Derived.RangeFuncNested
import Derived.RegionCalls
import Derived.RegionTactic
import Derived.Shelf.RegionOpen
import Derived.Shelf.RegionOpenPlain
import Derived.Shelf.SlIterI.Nil
import Derived.Shelf.Slices.CompactI
import Derived.Shelf.Slices.In.SortNone
import Derived.Shelf.Sort.Plain
import Derived.ShutString
import Derived.Sort.Grow
import Derived.StillTail
import Derived.TacticsInMore
import Derived.WalkKit
import Derived.WalkLawsBesides
import Derived.WalkSpells
import Derived.WideShapes
namespace Go.Proofs.YtdigjklhfimnbaaGreat
set_option maxRecDepth 100000
set_option linter.unusedVariables false
open Go.RowKit

/-- A session at block s: its peer, its pair; H: all its blocks. -/
def SeM (w : World) (H : Nat → Prop) (s : Nat) (p : Pr) : Prop := ∃ q G, (w.cell? ⟨s, 0, none⟩ = some (.int .i64 p.pe.1) ∧ w.cell? ⟨s, 1, none⟩ = some (.int .i64 p.pe.2) ∧ w.cell? ⟨s, 2, none⟩ = some (.pointer (some ⟨q, 0, none⟩))) ∧ PP w G q p ∧ ¬ G s ∧ H = fun k => k = s ∨ G k
section
variable {w w' : World} {F F' G H : Nat → Prop} {b s : Nat} {p p' : Pr}
theorem SeM.lt (h : SeM w H s p) : ∀ k, H k → k < w.heap.size := by
  obtain ⟨q, G, ⟨c0, _, _⟩, hp, _, rfl⟩ := h
  rintro k (rfl | hk)
  · exact World.block_lt_of_cell? w _ c0
  · exact hp.lt k hk
theorem SeM.ok (h : SeM w H s p) : SdOk p.s ∧ TkOk p.t ∧ NdOk p.me ∧ NdOk p.pe ∧ p.me.1 ≠ p.pe.1 := by
  obtain ⟨q, G, _, hp, _, rfl⟩ := h
  exact hp.ok
theorem SeM.hs (h : SeM w H s p) : H s := by
  obtain ⟨q, G, _, hp, _, rfl⟩ := h
  exact .inl rfl
theorem SeM.keep (h : SeM w H s p) (hc : Chg G w w') (hG : ∀ k, H k → ¬ G k) : SeM w' H s p := by
  obtain ⟨q, X, ⟨c0, c1, c2⟩, hp, hs, rfl⟩ := h
  have hl : s < w.heap.size := World.block_lt_of_cell? w _ c0
  have f : ∀ {j : Nat} {v : Value}, w.cell? ⟨s, j, none⟩ = some v → w'.cell? ⟨s, j, none⟩ = some v := fun e => (hc.cell hl (hG s (.inl rfl))).trans e
  exact ⟨q, X, ⟨f c0, f c1, f c2⟩, hp.keep hc (fun k hk => hG k (.inr hk)), hs, rfl⟩
theorem SeM.below (h : SeM w H s p) (hb : Below w.heap.size w w') : SeM w' H s p := h.keep (G := fun _ => False) (chg0 hb) (fun _ _ g => g)
/-- Its pair has turned. -/
theorem SeM.at (h : SeM w H s p) : ∃ q G, w.cell? ⟨s, 2, none⟩ = some (.pointer (some ⟨q, 0, none⟩)) ∧ PP w G q p ∧ (∀ k, G k → H k) ∧ ∀ w' G' p', PP w' G' q p' → Nx w w' G G' → p'.pe = p.pe → ∃ H', SeM w' H' s p' ∧ Nx w w' H H' ∧ ∀ k, H' k → k = s ∨ G' k := by
  obtain ⟨q, G, ⟨c0, c1, c2⟩, hp, hs, rfl⟩ := h
  refine ⟨q, G, c2, hp, fun k hk => .inr hk, fun w' G' p' hp' hn he => ?_⟩
  have hl : s < w.heap.size := World.block_lt_of_cell? w _ c0
  have f : ∀ {j : Nat} {v : Value}, w.cell? ⟨s, j, none⟩ = some v → w'.cell? ⟨s, j, none⟩ = some v := fun e => (hn.1.cell hl hs).trans e
  refine ⟨_, ⟨q, G', ⟨by rw [he]; exact f c0, by rw [he]; exact f c1, f c2⟩, hp', fun hk => ?_, rfl⟩, ⟨hn.1.mono (fun _ _ e => .inr e), fun k hk => ?_⟩, fun k hk => hk⟩
  · rcases hn.2 s hk with h1 | h1
    · exact hs h1
    · omega
  · rcases hk with h1 | h1
    · exact .inl (.inl h1)
    · exact (hn.2 k h1).imp .inr (fun e => e)
end
/-- The pointer to a session. -/
abbrev sp (o : Option Pr) (m : Nat) : Value := pt (o.map fun _ => m)
def fS (M : Nat → Nat) (S : Nat → Option Pr) : Nat → Option Nat := fun i => (S i).map fun _ => M i
/-- The program's cast at block b: M: where its sessions lie; H: their blocks; S: their pairs. -/
structure CcE (w : World) (b : Nat) (me : Nd) (win tr : Int) (M : Nat → Nat) (H : Nat → Nat → Prop) (S : Nat → Option Pr) : Prop where
  c0 : w.cell? ⟨b, 0, none⟩ = some (.int .i64 me.1)
  c1 : w.cell? ⟨b, 1, none⟩ = some (.int .i64 me.2)
  c2 : w.cell? ⟨b, 2, none⟩ = some (.int .i64 win)
  c3 : w.cell? ⟨b, 3, none⟩ = some (.int .i64 tr)
  cs : SsC w b (fS M S)
  fz : ∀ j, w.frozen? ⟨b, j, none⟩ = false
  se : ∀ i p, S i = some p → i < 64 ∧ SeM w (H i) (M i) p ∧ p.me = me ∧ p.pe.1 = (i : Int) ∧ ¬ H i b
  dis : ∀ i j p q, i ≠ j → S i = some p → S j = some q → ∀ k, H i k → ¬ H j k
  me : NdOk me
  ok : nwOk win tr
def CF (b : Nat) (H : Nat → Nat → Prop) (S : Nat → Option Pr) : Nat → Prop := fun k => k = b ∨ ∃ i p, S i = some p ∧ H i k
def CC (w : World) (F : Nat → Prop) (b : Nat) (me : Nd) (win tr : Int) (M : Nat → Nat) (S : Nat → Option Pr) : Prop := ∃ H, CcE w b me win tr M H S ∧ F = CF b H S
def upd {α : Type} (S : Nat → α) (i : Nat) (x : α) : Nat → α := fun j => if j = i then x else S j
theorem upd_same {α : Type} (S : Nat → α) (i : Nat) (x : α) : upd S i x i = x := if_pos rfl
theorem upd_other {α : Type} (S : Nat → α) {i j : Nat} (x : α) (h : j ≠ i) : upd S i x j = S j := if_neg h
section
variable {w w' : World} {F F' G : Nat → Prop} {b : Nat} {me : Nd} {win tr : Int} {M : Nat → Nat} {H : Nat → Nat → Prop} {S : Nat → Option Pr}
theorem CcE.blt (h : CcE w b me win tr M H S) : b < w.heap.size := World.block_lt_of_cell? w _ h.c0
theorem CC.lt (h : CC w F b me win tr M S) : ∀ k, F k → k < w.heap.size := by
  obtain ⟨H, h, rfl⟩ := h
  rintro k (rfl | ⟨i, p, hi, hk⟩)
  · exact h.blt
  · exact (h.se i p hi).2.1.lt k hk
theorem CC.fb (h : CC w F b me win tr M S) : F b := by
  obtain ⟨H, h, rfl⟩ := h
  exact .inl rfl
theorem CcE.keep (h : CcE w b me win tr M H S) (hc : Chg G w w') (hG : ∀ k, CF b H S k → ¬ G k) : CcE w' b me win tr M H S := by
  have hb := hG b (.inl rfl)
  have f : ∀ {j : Nat} {v : Value}, w.cell? ⟨b, j, none⟩ = some v → w'.cell? ⟨b, j, none⟩ = some v := fun e => (hc.cell h.blt hb).trans e
  refine ⟨f h.c0, f h.c1, f h.c2, f h.c3, fun i hi => f (h.cs i hi), fun j => (hc.frozen h.blt hb).trans (h.fz j), fun i p hi => ?_, h.dis, h.me, h.ok⟩
  obtain ⟨h1, h2, h3, h4, h5⟩ := h.se i p hi
  exact ⟨h1, h2.keep hc (fun k hk => hG k (.inr ⟨i, p, hi, hk⟩)), h3, h4, h5⟩
theorem CC.keep (h : CC w F b me win tr M S) (hc : Chg G w w') (hG : ∀ k, F k → ¬ G k) : CC w' F b me win tr M S := by
  obtain ⟨H, h, rfl⟩ := h
  exact ⟨H, h.keep hc hG, rfl⟩
theorem CC.below (h : CC w F b me win tr M S) (hb : Below w.heap.size w w') : CC w' F b me win tr M S := h.keep (G := fun _ => False) (chg0 hb) (fun _ _ g => g)
/-- One session; it has turned. -/
theorem CC.at (h : CC w F b me win tr M S) {i : Nat} {p : Pr} (hi : S i = some p) : ∃ Hi, SeM w Hi (M i) p ∧ p.me = me ∧ p.pe.1 = (i : Int) ∧ (∀ k, Hi k → F k) ∧ ¬ Hi b ∧ ∀ w' Hi' p', SeM w' Hi' (M i) p' → Nx w w' Hi Hi' → p'.me = p.me → p'.pe = p.pe → ∃ F', CC w' F' b me win tr M (upd S i (some p')) ∧ Nx w w' F F' ∧ ∀ k, F' k → F k ∨ Hi' k := by
  obtain ⟨H, h, rfl⟩ := h
  obtain ⟨h1, h2, h3, h4, h5⟩ := h.se i p hi
  refine ⟨H i, h2, h3, h4, fun k hk => .inr ⟨i, p, hi, hk⟩, h5, fun w' Hi' p' hs hn em ep => ?_⟩
  have hb := h.blt
  have f : ∀ {j : Nat} {v : Value}, w.cell? ⟨b, j, none⟩ = some v → w'.cell? ⟨b, j, none⟩ = some v := fun e => (hn.1.cell hb h5).trans e
  have hlo : ∀ k, k < w.heap.size → Hi' k → H i k := fun k hk hh => (hn.2 k hh).elim (fun e => e) (fun e => by omega)
  refine ⟨_, ⟨upd H i Hi', ⟨f h.c0, f h.c1, f h.c2, f h.c3, fun j hj => ?_, fun j => (hn.1.frozen hb h5).trans (h.fz j), fun j q hq => ?_, fun j l q r hjl hq hr k hk => ?_, h.me, h.ok⟩, rfl⟩, ⟨hn.1.mono (fun k _ hk => .inr ⟨i, p, hi, hk⟩), fun k hk => ?_⟩, fun k hk => ?_⟩
  · have := f (h.cs j hj)
    by_cases hji : j = i
    · subst hji
      unfold fS at this ⊢
      rw [upd_same]
      rw [hi] at this
      exact this
    · unfold fS at this ⊢
      rw [upd_other _ _ hji]
      exact this
  · by_cases hji : j = i
    · subst hji
      rw [upd_same] at hq ⊢
      cases hq
      exact ⟨h1, hs, em.trans h3, by rw [ep]; exact h4, fun hk => h5 (hlo b hb hk)⟩
    · rw [upd_other _ _ hji] at hq ⊢
      obtain ⟨k1, k2, k3, k4, k5⟩ := h.se j q hq
      exact ⟨k1, k2.keep hn.1 (fun k hk hk2 => h.dis j i q p hji hq hi k hk hk2), k3, k4, k5⟩
  · by_cases hji : j = i
    · subst hji
      have hlj : l ≠ j := fun e => hjl e.symm
      rw [upd_same] at hk
      rw [upd_other _ _ hlj] at hr ⊢
      intro hk2
      have hkl := (h.se l r hr).2.1.lt k hk2
      exact h.dis j l p r hjl hi hr k (hlo k hkl hk) hk2
    · rw [upd_other _ _ hji] at hq hk
      by_cases hli : l = i
      · subst hli
        rw [upd_same]
        intro hk2
        have hkl := (h.se j q hq).2.1.lt k hk
        exact h.dis j l q p hjl hq hi k hk (hlo k hkl hk2)
      · rw [upd_other _ _ hli] at hr ⊢
        exact h.dis j l q r hjl hq hr k hk
  · rcases hk with rfl | ⟨j, q, hq, hk⟩
    · exact .inl (.inl rfl)
    · by_cases hji : j = i
      · subst hji
        rw [upd_same] at hk
        exact (hn.2 k hk).imp (fun e => .inr ⟨j, p, hi, e⟩) (fun e => e)
      · rw [upd_other _ _ hji] at hq hk
        exact .inl (.inr ⟨j, q, hq, hk⟩)
  · rcases hk with rfl | ⟨j, q, hq, hk⟩
    · exact .inl (.inl rfl)
    · by_cases hji : j = i
      · subst hji
        rw [upd_same] at hk
        exact .inr hk
      · rw [upd_other _ _ hji] at hq hk
        exact .inl (.inr ⟨j, q, hq, hk⟩)
/-- A session more, or one less, by a store into the cast's row. -/
theorem CC.put (h : CC w F b me win tr M S) {i : Nat} (hi : i < 64) (o : Option Pr) (s : Nat) (Hs : Nat → Prop) (ho : ∀ p, o = some p → SeM w Hs s p ∧ p.me = me ∧ p.pe.1 = (i : Int) ∧ ∀ k, Hs k → ¬ F k) : ∃ F', CC (w.setCell ⟨b, 4 + i, none⟩ (sp o s)) F' b me win tr (upd M i s) (upd S i o) ∧ Chg F w (w.setCell ⟨b, 4 + i, none⟩ (sp o s)) ∧ ∀ k, F' k → F k ∨ Hs k := by
  obtain ⟨H, h, rfl⟩ := h
  have hc : Chg (fun k => k = b) w (w.setCell ⟨b, 4 + i, none⟩ (sp o s)) := Chg.setCell (F := fun k => k = b) (p := ⟨b, 4 + i, none⟩) (Chg.refl _ w) (.inl rfl) _
  have f : ∀ {j : Nat} {v : Value}, j ≠ 4 + i → w.cell? ⟨b, j, none⟩ = some v → (w.setCell ⟨b, 4 + i, none⟩ (sp o s)).cell? ⟨b, j, none⟩ = some v := fun hj e => (World.cell?_setCell_other _ _ _ _ (by simp <;> omega)).trans e
  refine ⟨_, ⟨upd H i Hs, ⟨f (by omega) h.c0, f (by omega) h.c1, f (by omega) h.c2, f (by omega) h.c3, fun j hj => ?_, fun j => ?_, fun j q hq => ?_, fun j l q r hjl hq hr k hk => ?_, h.me, h.ok⟩, rfl⟩, hc.mono (fun k _ hk => .inl hk), fun k hk => ?_⟩
  · by_cases hji : j = i
    · subst hji
      unfold fS
      rw [upd_same, upd_same]
      exact World.cell?_setCell_same _ _ _ (h.cs j hj)
    · have h9 := f (by omega) (h.cs j hj)
      unfold fS at h9 ⊢
      rw [upd_other _ _ hji, upd_other _ _ hji]
      exact h9
  · have := h.fz j
    simpa [go_sem] using this
  · by_cases hji : j = i
    · subst hji
      rw [upd_same] at hq ⊢
      rw [upd_same]
      obtain ⟨k1, k2, k3, k4⟩ := ho q hq
      exact ⟨hi, k1.keep hc (fun k hk e => k4 k hk (.inl e)), k2, k3, fun hb => k4 b hb (.inl rfl)⟩
    · rw [upd_other _ _ hji] at hq ⊢
      rw [upd_other _ _ hji]
      obtain ⟨k1, k2, k3, k4, k5⟩ := h.se j q hq
      exact ⟨k1, k2.keep hc (fun k hk e => k5 (e ▸ hk)), k3, k4, k5⟩
  · by_cases hji : j = i
    · subst hji
      have hlj : l ≠ j := fun e => hjl e.symm
      rw [upd_same] at hk hq
      rw [upd_other _ _ hlj] at hr ⊢
      intro hk2
      exact (ho q hq).2.2.2 k hk (.inr ⟨l, r, hr, hk2⟩)
    · rw [upd_other _ _ hji] at hq hk
      by_cases hli : l = i
      · subst hli
        rw [upd_same] at hr ⊢
        intro hk2
        exact (ho r hr).2.2.2 k hk2 (.inr ⟨j, q, hq, hk⟩)
      · rw [upd_other _ _ hli] at hr ⊢
        exact h.dis j l q r hjl hq hr k hk
  · rcases hk with rfl | ⟨j, q, hq, hk⟩
    · exact .inl (.inl rfl)
    · by_cases hji : j = i
      · subst hji
        rw [upd_same] at hk
        exact .inr hk
      · rw [upd_other _ _ hji] at hq hk
        exact .inl (.inr ⟨j, q, hq, hk⟩)
end
end Go.Proofs.YtdigjklhfimnbaaGreat
namespace Go.Proofs.YtdigjklhfimnbaaGreat
set_option maxRecDepth 100000
set_option linter.unusedVariables false
open Go.RowKit

/-- The Ids below k with sessions, rising. -/
def ksU (S : Nat → Option Pr) (k : Nat) : List Nat := (List.range k).filter fun i => (S i).isSome
theorem ksU_mem {S : Nat → Option Pr} {k i : Nat} : i ∈ ksU S k ↔ i < k ∧ (S i).isSome = true := by
  unfold ksU
  rw [List.mem_filter, List.mem_range]
theorem ksU_nodup (S : Nat → Option Pr) (k : Nat) : (ksU S k).Nodup := List.Nodup.sublist List.filter_sublist List.nodup_range
theorem ksU_len (S : Nat → Option Pr) (k : Nat) : (ksU S k).length ≤ k := by
  have h := List.length_filter_le (fun i => (S i).isSome) (List.range k)
  rw [List.length_range] at h
  exact h
theorem ks_next {S : Nat → Option Pr} {pre : List Nat} {x : Nat} (h : (pre ++ [x]) <+: ksU S 64) : (∃ p, S x = some p) ∧ x ∉ pre ∧ x < 64 ∧ pre.length < 64 := by
  have hm : x ∈ ksU S 64 := h.subset (by simp)
  obtain ⟨h1, h2⟩ := ksU_mem.1 hm
  have hn : (pre ++ [x]).Nodup := List.Nodup.sublist h.sublist (ksU_nodup S 64)
  refine ⟨Option.isSome_iff_exists.1 h2, fun hx => ?_, h1, ?_⟩
  · rw [List.nodup_append] at hn
    exact hn.2.2 x hx x (List.mem_singleton.2 rfl) rfl
  · have := h.length_le
    have h4 := ksU_len S 64
    rw [List.length_append] at this
    have h9 : [x].length = 1 := rfl
    omega
/-- The sessions of pre have turned by g. -/
def mapOn (pre : List Nat) (g : Pr → Pr) (S : Nat → Option Pr) : Nat → Option Pr := fun i => if i ∈ pre then (S i).map g else S i
theorem mapOn_nil (g : Pr → Pr) (S : Nat → Option Pr) : mapOn [] g S = S := by
  funext i
  exact if_neg List.not_mem_nil
theorem mapOn_at {pre : List Nat} {g : Pr → Pr} {S : Nat → Option Pr} {x : Nat} (h : x ∉ pre) : mapOn pre g S x = S x := if_neg h
theorem mapOn_snoc {pre : List Nat} {g : Pr → Pr} {S : Nat → Option Pr} {x : Nat} {p : Pr} (h : S x = some p) : mapOn (pre ++ [x]) g S = upd (mapOn pre g S) x (some (g p)) := by
  funext i
  by_cases e : i = x
  · subst e
    rw [upd_same]
    unfold mapOn
    rw [if_pos (by simp), h]
    rfl
  · rw [upd_other _ _ e]
    unfold mapOn
    by_cases h1 : i ∈ pre
    · rw [if_pos h1, if_pos (by simp [h1])]
    · rw [if_neg h1, if_neg (by simp [h1, e])]
theorem mapOn_all {g : Pr → Pr} {S : Nat → Option Pr} (h : ∀ i p, S i = some p → i < 64) : mapOn (ksU S 64) g S = fun i => (S i).map g := by
  funext i
  unfold mapOn
  by_cases h1 : i ∈ ksU S 64
  · rw [if_pos h1]
  · rw [if_neg h1]
    cases e : S i with
    | none => rfl
    | some p => exact absurd (ksU_mem.2 ⟨h i p e, by rw [e]; rfl⟩) h1
theorem ksU_eq (M : Nat → Nat) (S : Nat → Option Pr) (k : Nat) : ksU S k = ksP (fS M S) k := by
  unfold ksU ksP fS
  congr 1
  funext i
  cases S i <;> rfl
theorem CC.low {w : World} {F : Nat → Prop} {b : Nat} {me : Nd} {win tr : Int} {M : Nat → Nat} {S : Nat → Option Pr} (h : CC w F b me win tr M S) : ∀ i p, S i = some p → i < 64 ∧ p.me = me ∧ p.pe.1 = (i : Int) := by
  obtain ⟨H, h, rfl⟩ := h
  intro i p hi
  obtain ⟨h1, _, h3, h4, _⟩ := h.se i p hi
  exact ⟨h1, h3, h4⟩
def encS (M : Nat → Nat) (i : Nat) : Array Value := #[.pointer (some ⟨M i, 0, none⟩)]
def gO {α : Type} (S : Nat → Option Pr) (f : Pr → List α) (i : Nat) : List α := match S i with
  | some p => f p
  | none => []
theorem gO_some {α : Type} {S : Nat → Option Pr} {f : Pr → List α} {i : Nat} {p : Pr} (h : S i = some p) : gO S f i = f p := by unfold gO; rw [h]
theorem flat_snoc {α : Type} (pre : List Nat) (f : Nat → List α) (x : Nat) : (pre ++ [x]).flatMap f = pre.flatMap f ++ f x := by simp
theorem AbK.of {β : Type} {D E : Nat} {I : β → World → Prop} (h : ∀ s W W' row, I s W → W.grownBy W' row → (∀ r, row = some r → D ≤ r ∧ r < E) → I s W') : AbK D E I := h
end Go.Proofs.YtdigjklhfimnbaaGreat
namespace Go.Proofs.YtdigjklhfimnbaaGreat
set_option maxRecDepth 100000
set_option linter.unusedVariables false
open Go.RowKit

theorem cisn_any (i : Int) (w : World) : Calls Tryz.prog 59 #[.int .i64 i] w fun e w' => e = .returned (.bool (decide (0 ≤ i ∧ i < 64))) ∧ w' = w := by
  by_cases h1 : 0 ≤ i
  · by_cases h2 : i < 64
    · rw [decide_eq_true (show 0 ≤ i ∧ i < 64 from ⟨h1, h2⟩)]
      go_enter Tryz.func59, Tryz.ntmps59
      go_wp2_with fail
      go_ret
      exact ⟨rfl, rfl⟩
    · rw [decide_eq_false (show ¬ (0 ≤ i ∧ i < 64) from fun h => h2 h.2)]
      go_enter Tryz.func59, Tryz.ntmps59
      go_wp2_with fail
      go_ret
      exact ⟨rfl, rfl⟩
  · rw [decide_eq_false (show ¬ (0 ≤ i ∧ i < 64) from fun h => h1 h.1)]
    go_enter Tryz.func59, Tryz.ntmps59
    go_wp2_with fail
    go_ret
    exact ⟨rfl, rfl⟩
def newP (me pe : Nd) (win tr : Int) : Pr := ⟨me, pe, sd0 win tr, tk0, false⟩
def nwC (me : Nd) (win tr : Int) : Prop := NdOk me ∧ nwOk win tr
section
variable {w w' : World} {F F' G : Nat → Prop} {b : Nat} {me : Nd} {win tr : Int} {M : Nat → Nat} {S : Nat → Option Pr}
theorem CC.ok (h : CC w F b me win tr M S) : NdOk me ∧ nwOk win tr := by
  obtain ⟨H, h, rfl⟩ := h
  exact ⟨h.me, h.ok⟩
theorem CC.cs (h : CC w F b me win tr M S) : SsC w b (fS M S) := by
  obtain ⟨H, h, rfl⟩ := h
  exact h.cs
theorem CC.hd (h : CC w F b me win tr M S) : (w.cell? ⟨b, 0, none⟩ = some (.int .i64 me.1) ∧ w.cell? ⟨b, 1, none⟩ = some (.int .i64 me.2) ∧ w.cell? ⟨b, 2, none⟩ = some (.int .i64 win) ∧ w.cell? ⟨b, 3, none⟩ = some (.int .i64 tr)) ∧ ∀ j, w.frozen? ⟨b, j, none⟩ = false := by
  obtain ⟨H, h, rfl⟩ := h
  exact ⟨⟨h.c0, h.c1, h.c2, h.c3⟩, h.fz⟩
set_option maxHeartbeats 4000000 in
theorem cdown_any (i : Int) (h : CC w F b me win tr M S) : Calls Tryz.prog 24 #[.pointer (some ⟨b, 0, none⟩), .int .i64 i] w fun e w' => (((0 ≤ i ∧ i < 64) → S i.toNat = none) ∧ e = .returned (.int .i64 7) ∧ Below w.heap.size w w') ∨ ((0 ≤ i ∧ i < 64) ∧ S i.toNat ≠ none ∧ e = .returned (.int .i64 0) ∧ ∃ F' M', CC w' F' b me win tr M' (upd S i.toNat none) ∧ Nx w w' F F') := by
  have HH := Lib.hid h
  have C := Lib.hid (cisn_any i w)
  clear h
  go_enter Tryz.func24, Tryz.ntmps24
  by_cases hi : 0 ≤ i ∧ i < 64
  rotate_left
  · have HI := Lib.hid hi
    rw [decide_eq_false hi] at C
    clear hi
    go_wp2_with fail
    refine C.out.mono ?_
    rintro e w1 ⟨rfl, rfl⟩
    go_wp2_with fail
    go_ret
    exact .inl ⟨fun h => absurd h HI.out, rfl, Below.refl _ _⟩
  obtain ⟨h0, h1⟩ := hi
  have hcn : ((i.toNat : Nat) : Int) = i := Int.toNat_of_nonneg h0
  have hlt : i.toNat < 64 := by omega
  obtain ⟨k, hk⟩ : ∃ k, i.toNat = k := ⟨_, rfl⟩
  rw [hk] at hcn hlt
  subst hcn
  rw [decide_eq_true (show 0 ≤ (k : Int) ∧ (k : Int) < 64 by omega)] at C
  simp only [Int.toNat_natCast]
  have hc := HH.out.cs k hlt
  have hf := HH.out.hd.2 (4 + k)
  obtain ⟨o, ho⟩ : ∃ o, S k = o := ⟨_, rfl⟩
  unfold fS at hc
  rw [ho] at hc
  have HO := Lib.hid ho
  have HL : Hid (k < 64) := hlt
  clear ho
  cases o with
  | none =>
    simp only [Option.map_none, pt] at hc
    go_wp2_with fail
    refine C.out.mono ?_
    rintro e w1 ⟨rfl, rfl⟩
    go_wp2_with fail
    go_ret
    exact .inl ⟨fun _ => by simpa using HO.out, rfl, Below.refl _ _⟩
  | some p =>
    simp only [Option.map_some, pt] at hc
    have HP : Hid (∃ F', CC (w.setCell ⟨b, 4 + k, none⟩ (.pointer none)) F' b me win tr (upd M k 0) (upd S k none) ∧ Nx w (w.setCell ⟨b, 4 + k, none⟩ (.pointer none)) F F') := by
      obtain ⟨F', q1, q2, q3⟩ := HH.out.put HL.out none 0 (fun _ => False) (fun p hp => by cases hp)
      exact ⟨F', q1, q2, fun x hx => (q3 x hx).imp (fun e => e) (fun e => e.elim)⟩
    go_wp2_with fail
    refine C.out.mono ?_
    rintro e w1 ⟨rfl, rfl⟩
    go_wp2_with fail
    go_ret
    obtain ⟨F', q1, q2⟩ := HP.out
    exact .inr ⟨by omega, by simp [HO.out], rfl, F', _, q1, q2⟩
end
end Go.Proofs.YtdigjklhfimnbaaGreat
namespace Go.Proofs.YtdigjklhfimnbaaGreat
set_option maxRecDepth 100000
set_option linter.unusedVariables false
open Go
variable {P : Program}
theorem rows_in {l n : Nat} {row : String} {args : Array Value} {w : World} {R : Value → World → Prop} (h : _root_.Go.Rows P row args w R) : RowsIn (Fence.wide.inRound l) n P row args w R := fun c cs _ => by
  obtain ⟨v, w', r, s⟩ := h c cs
  exact ⟨v, w', r, stepsIn_wide.2 s⟩
def noDefer (o : Oper) : Bool := match o.op with
  | .defer _ => false
  | _ => true
theorem op_in {l n : Nat} {o : Oper} {a : Act} {w : World} {K : Act → World → Prop} {Q : Exit → Act → World → Prop} (hd : noDefer o = true) (h : Oper.wp P o a w K Q) : Oper.wpIn (Fence.wide.inRound l) n P o a w K Q := by
  have hd' : ∀ c, o.op ≠ .defer c := fun c e => by unfold noDefer at hd; rw [e] at hd; cases hd
  refine ⟨fun _ _ => trivial, ?_⟩
  unfold Oper.wp at h
  rw [Oper.semAt_eq _ _ _ hd']
  generalize (execOp a.eval o).run P w = r at *
  cases r with
  | ok x w' =>
    cases x <;> simp only [Oper.upon, Oper.uponIn] at h ⊢ <;>
      first
        | exact h
        | exact ⟨fun h => (by cases h), CallsIn.inRound l (callsIn_wide.2 h)⟩
        | exact ⟨fun h => (by cases h), rows_in h⟩
        | exact h.elim
  | halt x w' => cases x <;> simp only [Oper.upon, Oper.uponIn] at h ⊢ <;> exact h
variable {ops : Array Oper} {Q : Exit → Act → World → Prop} {md : Region.Mode}
theorem opAt_in {l n i : Nat} (hd : ops.all noDefer = true) (hq : ¬ LetsOut Q) {K K' : Act → World → Prop} (hK : ∀ a w, K a w → K' a w) {a : Act} {w : World} (h : wpOp P ops Q i K a w) : wpOpIn (Fence.wide.inRound l) n P ops Q i K' a w := by
  unfold wpOp at h
  unfold wpOpIn
  cases e : ops[i]? with
  | none => rw [e] at h; exact hK _ _ h
  | some o =>
    rw [e] at h
    simp only at h ⊢
    obtain ⟨hi, ho⟩ := Array.getElem?_eq_some_iff.1 e
    have hn : noDefer o = true := by rw [← ho]; exact (Array.all_eq_true.1 hd) i hi
    by_cases hw : Region.wanted o (yielded ops a.tmps) = true
    · rw [if_pos hw] at h ⊢
      exact op_in hn (Oper.wp_mono hK (h.elim (fun e => e) (fun e => absurd e.2 hq)))
    · rw [if_neg hw] at h ⊢
      exact ⟨fun _ _ => trivial, hK _ _ h⟩
theorem any_in {l n : Nat} (hd : ops.all noDefer = true) (hq : ¬ LetsOut Q) : ∀ (fuel : Nat) (listed : Array Bool) (a : Act) (w : World), wpAny P md ops Q fuel listed a w → wpAnyIn (Fence.wide.inRound l) n P md ops Q fuel listed a w
  | 0, _, _, _, h => h
  | fuel + 1, listed, a, w, h => ⟨h.1, fun i hi => opAt_in hd hq (fun a w => any_in hd hq fuel _ a w) (h.2 i hi)⟩
/-- A region that draws its order, in a round. -/
theorem region_in {l n id : Nat} {a : Act} {w : World} (hm : P.follows .mixedOrders = true) (hd : ops.all noDefer = true) (hq : ¬ LetsOut Q) (h : wpAny P .any ops Q ops.size (Array.replicate ops.size false) a { w with drawn := w.drawn + 1 }) : (Code.region id ops true).wpIn (Fence.wide.inRound l) n P Q a w := wpIn_region_any hm (any_in hd hq _ _ _ _ h)
end Go.Proofs.YtdigjklhfimnbaaGreat
namespace Go.Proofs.YtdigjklhfimnbaaGreat
set_option maxRecDepth 100000
set_option linter.unusedVariables false
open Go.RowKit

structure Tw (w : World) (F G : Nat → Prop) (b c : Nat) (p q : Pr) : Prop where
  p : PP w F b p
  q : PP w G c q
  dis : ∀ k, F k → ¬ G k
section
variable {w w' : World} {F F' G : Nat → Prop} {b c : Nat} {p p' q : Pr}
theorem Tw.l (h : Tw w F G b c p q) (hp : PP w' F' b p') (hn : Nx w w' F F') : Tw w' F' G b c p' q := ⟨hp, h.q.keep hn.1 (fun k hk hf => h.dis k hf hk), fun k hk hg => (hn.2 k hk).elim (fun h1 => h.dis k h1 hg) (fun h1 => by have := h.q.lt k hg; omega)⟩
theorem Tw.symm (h : Tw w F G b c p q) : Tw w G F c b q p := ⟨h.q, h.p, fun k hk hg => h.dis k hg hk⟩
theorem Tw.r {G' : Nat → Prop} {q' : Pr} (h : Tw w F G b c p q) (hq : PP w' G' c q') (hn : Nx w w' G G') : Tw w' F G' b c p q' := (h.symm.l hq hn).symm
theorem Tw.below (h : Tw w F G b c p q) (hb : Below w.heap.size w w') : Tw w' F G b c p q := ⟨h.p.below hb, h.q.below hb, h.dis⟩
end
def y7 : Ob := ⟨1, 7, false, 0, 0, 0, 0, 0, 0, 0, 0, 0⟩
end Go.Proofs.YtdigjklhfimnbaaGreat
namespace Go.Proofs.YtdigjklhfimnbaaGreat
set_option maxRecDepth 100000
set_option linter.unusedVariables false
open Go.RowKit

open Go.WideShapes Go.ChangeShapes
theorem underEC9 : Tryz.prog.underlying 23 = some (.struct (Tryz.prog.fieldsOf 23)) := by kernel_rfl
theorem underFR9 : Tryz.prog.underlying 51 = some (.struct (Tryz.prog.fieldsOf 51)) := by kernel_rfl
theorem underPT9 : Tryz.prog.underlying 148 = some (.struct (Tryz.prog.fieldsOf 148)) := by kernel_rfl
theorem underBE9 : Tryz.prog.underlying 141 = some (.struct (Tryz.prog.fieldsOf 141)) := by kernel_rfl
theorem underBT9 : Tryz.prog.underlying 143 = some (.struct (Tryz.prog.fieldsOf 143)) := by kernel_rfl
theorem underPK9 : Tryz.prog.underlying 146 = some (.struct (Tryz.prog.fieldsOf 146)) := by kernel_rfl
theorem underECS9 : Tryz.prog.underlying 78 = some (.slice 23) := by kernel_rfl
theorem underOBS9 : Tryz.prog.underlying 31 = some (.slice 41) := by kernel_rfl
theorem underAKS9 : Tryz.prog.underlying 144 = some (.slice 212) := by kernel_rfl
theorem underSTR9 : Tryz.prog.underlying 9 = some .string := by kernel_rfl
theorem ec9_form {H : Type} {enc : TypeId × Value → H} {w : World} {base b0 : Nat} {spare : Nat → Bool} {held : Bool} {r' : Reach} {v : Value} {d' : DataW H} {p' : List MemPlace}
    (hv : Value.okWide Tryz.prog w r' b0 23 v) (h : DataW.Trod enc Tryz.prog w base spare held 23 v d' p') : ∃ n : Nd, v = .agg #[.int .i64 n.1, .int .i64 n.2] := by
  obtain ⟨cs, rfl, hs⟩ := okWide_struct underEC9 hv
  obtain ⟨c0, c1, rfl⟩ := array2' (hs.trans (by kernel_rfl))
  obtain ⟨fuel, hf⟩ := h
  obtain ⟨xs, m, _, _, _, hl, hx⟩ := DataW.trod_struct underEC9 hf
  obtain ⟨i, rfl, _⟩ := int_cell (cell_form (j := 0) (T := 3) (O := 0) (v := c0) hl hx (by kernel_rfl) (by kernel_rfl) rfl)
  obtain ⟨p, rfl, _⟩ := int_cell (cell_form (j := 1) (T := 3) (O := 1) (v := c1) hl hx (by kernel_rfl) (by kernel_rfl) rfl)
  exact ⟨(i, p), rfl⟩
theorem slice_cell {H : Type} {enc : TypeId × Value → H} {w : World} {base n : Nat} {spare : Nat → Bool} {held : Bool} {v : Value} {T E : TypeId} (hT : Tryz.prog.underlying T = some (.slice E)) (h : ∃ y, DataW.trod enc Tryz.prog w base spare held n T [v] = some y) : ∃ q : Option Addr × Nat × Nat, v = .slice q.1 q.2.1 q.2.2 := by
  obtain ⟨y, hy⟩ := h
  rcases Deep.open_slice hT hy with ⟨hcs, _⟩ | ⟨x, l, c, m, n, D, Pl, hcs, _⟩
  · simp at hcs
    exact ⟨(none, 0, 0), hcs⟩
  · simp at hcs
    exact ⟨(some x, l, c), hcs⟩
theorem list11 {cs : List Value} (h : cs.length = 11) : ∃ c0 c1 c2 c3 c4 c5 c6 c7 c8 c9 c10, cs = [c0, c1, c2, c3, c4, c5, c6, c7, c8, c9, c10] := by
  match cs, h with
  | [c0, c1, c2, c3, c4, c5, c6, c7, c8, c9, c10], _ => exact ⟨c0, c1, c2, c3, c4, c5, c6, c7, c8, c9, c10, rfl⟩
theorem pt_trod {H : Type} {enc : TypeId × Value → H} {w : World} {base n' : Nat} {spare : Nat → Bool} {held : Bool} {cs : List Value} {X : DataW H × List MemPlace} (hl11 : cs.length = 11)
    (hf : DataW.trod enc Tryz.prog w base spare held n' 148 cs = some X) : ∃ r : RPt, cs = r.cl := by
  obtain ⟨c0, c1, c2, c3, c4, c5, c6, c7, c8, c9, c10, rfl⟩ := list11 hl11
  obtain ⟨xs, M, _, _, _, hl, hx⟩ := DataW.trod_struct underPT9 hf
  obtain ⟨k, rfl, _⟩ := int_cell (cell_form (j := 0) (T := 3) (O := 0) (v := c0) hl hx (by kernel_rfl) (by kernel_rfl) rfl)
  obtain ⟨y1, h1⟩ := part_form (j := 1) (T := 141) (O := 1) (K := 2) hl hx (by kernel_rfl) (by kernel_rfl)
  obtain ⟨x1, M1, _, _, _, hl1, hx1⟩ := DataW.trod_struct underBE9 h1
  obtain ⟨be, rfl, _⟩ := int_cell (cell_form (j := 0) (T := 3) (O := 0) (v := c1) hl1 hx1 (by kernel_rfl) (by kernel_rfl) rfl)
  obtain ⟨q1, rfl⟩ := slice_cell underECS9 (cell_form (j := 1) (T := 78) (O := 1) (v := c2) hl1 hx1 (by kernel_rfl) (by kernel_rfl) rfl)
  obtain ⟨y2, h2⟩ := part_form (j := 2) (T := 143) (O := 3) (K := 2) hl hx (by kernel_rfl) (by kernel_rfl)
  obtain ⟨x2, M2, _, _, _, hl2, hx2⟩ := DataW.trod_struct underBT9 h2
  obtain ⟨bn, rfl, _⟩ := int_cell (cell_form (j := 0) (T := 3) (O := 0) (v := c3) hl2 hx2 (by kernel_rfl) (by kernel_rfl) rfl)
  obtain ⟨q2, rfl⟩ := slice_cell underOBS9 (cell_form (j := 1) (T := 31) (O := 1) (v := c4) hl2 hx2 (by kernel_rfl) (by kernel_rfl) rfl)
  obtain ⟨q3, rfl⟩ := slice_cell underAKS9 (cell_form (j := 3) (T := 144) (O := 5) (v := c5) hl hx (by kernel_rfl) (by kernel_rfl) rfl)
  obtain ⟨y4, h4⟩ := part_form (j := 4) (T := 146) (O := 6) (K := 5) hl hx (by kernel_rfl) (by kernel_rfl)
  obtain ⟨x4, M4, _, _, _, hl4, hx4⟩ := DataW.trod_struct underPK9 h4
  obtain ⟨s, rfl, _⟩ := int_cell (cell_form (j := 0) (T := 3) (O := 0) (v := c6) hl4 hx4 (by kernel_rfl) (by kernel_rfl) rfl)
  obtain ⟨d, rfl, _⟩ := int_cell (cell_form (j := 1) (T := 3) (O := 1) (v := c7) hl4 hx4 (by kernel_rfl) (by kernel_rfl) rfl)
  obtain ⟨t, rfl, _⟩ := int_cell (cell_form (j := 2) (T := 3) (O := 2) (v := c8) hl4 hx4 (by kernel_rfl) (by kernel_rfl) rfl)
  obtain ⟨n, rfl, _⟩ := int_cell (cell_form (j := 3) (T := 3) (O := 3) (v := c9) hl4 hx4 (by kernel_rfl) (by kernel_rfl) rfl)
  obtain ⟨y5, h5⟩ := cell_form (j := 4) (T := 9) (O := 4) (v := c10) hl4 hx4 (by kernel_rfl) (by kernel_rfl) rfl
  obtain ⟨str, hstr, _⟩ := DataW.trod_string underSTR9 h5
  simp only [List.cons.injEq, and_true] at hstr
  subst hstr
  exact ⟨⟨k, be, q1.1, q1.2.1, q1.2.2, bn, q2.1, q2.2.1, q2.2.2, q3.1, q3.2.1, q3.2.2, s, d, t, n, str⟩, rfl⟩
/-- A frame as an argument: its parts' cells. -/
theorem fr_form {H : Type} {enc : TypeId × Value → H} {w : World} {base b0 : Nat} {spare : Nat → Bool} {held : Bool} {r' : Reach} {v : Value} {d' : DataW H} {p' : List MemPlace}
    (hv : Value.okWide Tryz.prog w r' b0 51 v) (h : DataW.Trod enc Tryz.prog w base spare held 51 v d' p') : ∃ (x : Hd4) (a : Option Addr) (c : Nat) (rs : List RPt), v = .agg #[.int .i64 x.1, .int .i64 x.2.1, .int .i64 x.2.2.1, .int .i64 x.2.2.2, .slice a rs.length c] ∧ Gs RP w (.slice a rs.length c) rs := by
  obtain ⟨cs, rfl, hs⟩ := okWide_struct underFR9 hv
  obtain ⟨c0, c1, c2, c3, c4, rfl⟩ : ∃ c0 c1 c2 c3 c4, cs = #[c0, c1, c2, c3, c4] := by
    have hl : cs.toList.length = 5 := by rw [Array.length_toList]; exact hs.trans (by kernel_rfl)
    match h9 : cs.toList, hl with
    | [c0, c1, c2, c3, c4], _ => exact ⟨c0, c1, c2, c3, c4, Array.ext' h9⟩
  obtain ⟨fuel, hf⟩ := h
  obtain ⟨xs, m, _, _, _, hl, hx⟩ := DataW.trod_struct underFR9 hf
  obtain ⟨f1, rfl, _⟩ := int_cell (cell_form (j := 0) (T := 3) (O := 0) (v := c0) hl hx (by kernel_rfl) (by kernel_rfl) rfl)
  obtain ⟨f2, rfl, _⟩ := int_cell (cell_form (j := 1) (T := 3) (O := 1) (v := c1) hl hx (by kernel_rfl) (by kernel_rfl) rfl)
  obtain ⟨f3, rfl, _⟩ := int_cell (cell_form (j := 2) (T := 3) (O := 2) (v := c2) hl hx (by kernel_rfl) (by kernel_rfl) rfl)
  obtain ⟨f4, rfl, _⟩ := int_cell (cell_form (j := 3) (T := 3) (O := 3) (v := c3) hl hx (by kernel_rfl) (by kernel_rfl) rfl)
  obtain ⟨y1, h1⟩ := cell_form (j := 4) (T := 49) (O := 4) (v := c4) hl hx (by kernel_rfl) (by kernel_rfl) rfl
  obtain ⟨a, cap, ys, rfl, ho⟩ := gs_trod (R := RP) (fun n' cs X h1 h2 => pt_trod h1 h2) h1
  exact ⟨(f1, f2, f3, f4), a, cap, ys, rfl, ho⟩
end Go.Proofs.YtdigjklhfimnbaaGreat
/- Calls of a script as an argument. No conditions. -/
namespace Go.Proofs.YtdigjklhfimnbaaGreat
set_option maxRecDepth 100000
set_option linter.unusedVariables false
open Go.RowKit

open Go.WideShapes Go.ChangeShapes
theorem underOP17 : Tryz.prog.underlying 63 = some (.struct (Tryz.prog.fieldsOf 63)) := by kernel_rfl
theorem underOPS17 : Tryz.prog.underlying 54 = some (.slice 63) := by kernel_rfl
theorem infoOP17 : (Tryz.prog.info? 63).map (fun i => (i.zero, i.size, i.bytes)) = some (some (.agg #[.int .i64 0, .int .i64 0, .int .i64 0, .int .i64 0, .int .i64 0, .int .i64 0, .bool false, .int .i64 0, .int .i64 0, .int .i64 0, .int .i64 0, .int .i64 0, .int .i64 0, .int .i64 0, .int .i64 0, .int .i64 0, .int .i64 0, .int .i64 0, .int .i64 0, .int .i64 0, .slice none 0 0]), 21, 184) := by kernel_rfl
theorem cellsOP17 : Tryz.prog.cellsOf 63 = 21 := by kernel_rfl
structure Opc where
  k : Int
  i : Int
  e : Int
  t : Int
  y : Ob
  h : Hd4
  a : Option Addr
  l : Nat
  c : Nat
def Opc.cl (q : Opc) : List Value := [.int .i64 q.k, .int .i64 q.i, .int .i64 q.e, .int .i64 q.t, .int .i64 q.y.k, .int .i64 q.y.x, .bool q.y.n, .int .i64 q.y.t, .int .i64 q.y.o, .int .i64 q.y.r, .int .i64 q.y.d, .int .i64 q.y.i, .int .i64 q.y.p, .int .i64 q.y.q, .int .i64 q.y.s, .int .i64 q.y.m, .int .i64 q.h.1, .int .i64 q.h.2.1, .int .i64 q.h.2.2.1, .int .i64 q.h.2.2.2, .slice q.a q.l q.c]
theorem opc_ones (q : Opc) : ∀ u ∈ q.cl, u.oneCell' = true := by
  intro u hu
  simp only [Opc.cl, List.mem_cons, List.not_mem_nil, or_false] at hu
  rcases hu with rfl | rfl | rfl | rfl | rfl | rfl | rfl | rfl | rfl | rfl | rfl | rfl | rfl | rfl | rfl | rfl | rfl | rfl | rfl | rfl | rfl <;> rfl
/-- Rows of calls, their frames' parts as they read in w. -/
noncomputable def RopW (w : World) : RowT where
  α := {q : Opc // ∃ rs : List RPt, rs.length = q.l ∧ Gs RP w (.slice q.a q.l q.c) rs}
  d := ⟨⟨0, 0, 0, 0, z12, (0, 0, 0, 0), none, 0, 0⟩, [], rfl, Gs_nil (R := RP) w⟩
  cl := fun q => q.1.cl
  K := 21
  T := 63
  SL := 54
  zero := .agg #[.int .i64 0, .int .i64 0, .int .i64 0, .int .i64 0, .int .i64 0, .int .i64 0, .bool false, .int .i64 0, .int .i64 0, .int .i64 0, .int .i64 0, .int .i64 0, .int .i64 0, .int .i64 0, .int .i64 0, .int .i64 0, .int .i64 0, .int .i64 0, .int .i64 0, .int .i64 0, .slice none 0 0]
  bytes := 184
  hcl := fun _ => rfl
  hK := by decide
  hone := fun q => opc_ones q.1
  hSL := underOPS17
  hinfo := infoOP17
  hz := rfl
  hb := by decide
  hc := cellsOP17
theorem list21 {cs : List Value} (h : cs.length = 21) : ∃ c0 c1 c2 c3 c4 c5 c6 c7 c8 c9 c10 c11 c12 c13 c14 c15 c16 c17 c18 c19 c20, cs = [c0, c1, c2, c3, c4, c5, c6, c7, c8, c9, c10, c11, c12, c13, c14, c15, c16, c17, c18, c19, c20] := by
  match cs, h with
  | [c0, c1, c2, c3, c4, c5, c6, c7, c8, c9, c10, c11, c12, c13, c14, c15, c16, c17, c18, c19, c20], _ => exact ⟨c0, c1, c2, c3, c4, c5, c6, c7, c8, c9, c10, c11, c12, c13, c14, c15, c16, c17, c18, c19, c20, rfl⟩
set_option maxHeartbeats 1000000 in
theorem op_trod {H : Type} {enc : TypeId × Value → H} {w : World} {base n' : Nat} {spare : Nat → Bool} {held : Bool} {cs : List Value} {X : DataW H × List MemPlace} (hl21 : cs.length = 21)
    (hf : DataW.trod enc Tryz.prog w base spare held n' 63 cs = some X) : ∃ q : (RopW w).α, cs = (RopW w).cl q := by
  obtain ⟨c0, c1, c2, c3, c4, c5, c6, c7, c8, c9, c10, c11, c12, c13, c14, c15, c16, c17, c18, c19, c20, rfl⟩ := list21 hl21
  obtain ⟨xs, M, _, _, _, hl, hx⟩ := DataW.trod_struct underOP17 hf
  obtain ⟨k, rfl, _⟩ := int_cell (cell_form (j := 0) (T := 3) (O := 0) (v := c0) hl hx (by kernel_rfl) (by kernel_rfl) rfl)
  obtain ⟨t, rfl, _⟩ := int_cell (cell_form (j := 2) (T := 3) (O := 3) (v := c3) hl hx (by kernel_rfl) (by kernel_rfl) rfl)
  obtain ⟨y1, h1⟩ := part_form (j := 1) (T := 23) (O := 1) (K := 2) hl hx (by kernel_rfl) (by kernel_rfl)
  obtain ⟨y3, h3⟩ := part_form (j := 3) (T := 41) (O := 4) (K := 12) hl hx (by kernel_rfl) (by kernel_rfl)
  obtain ⟨y4, h4⟩ := part_form (j := 4) (T := 51) (O := 16) (K := 5) hl hx (by kernel_rfl) (by kernel_rfl)
  clear hl hx hf
  obtain ⟨x1, M1, _, _, _, hl1, hx1⟩ := DataW.trod_struct underEC9 h1
  obtain ⟨i, rfl, _⟩ := int_cell (cell_form (j := 0) (T := 3) (O := 0) (v := c1) hl1 hx1 (by kernel_rfl) (by kernel_rfl) rfl)
  obtain ⟨e, rfl, _⟩ := int_cell (cell_form (j := 1) (T := 3) (O := 1) (v := c2) hl1 hx1 (by kernel_rfl) (by kernel_rfl) rfl)
  clear hl1 hx1 h1
  obtain ⟨y, hy⟩ := cl_form rfl h3
  simp only [List.drop_succ_cons, List.drop_zero, List.take_succ_cons, List.take_zero, Ob.cl, List.cons.injEq, and_true] at hy
  obtain ⟨rfl, rfl, rfl, rfl, rfl, rfl, rfl, rfl, rfl, rfl, rfl, rfl⟩ := hy
  clear h3
  obtain ⟨x4, M4, _, _, _, hl4, hx4⟩ := DataW.trod_struct underFR9 h4
  obtain ⟨f1, rfl, _⟩ := int_cell (cell_form (j := 0) (T := 3) (O := 0) (v := c16) hl4 hx4 (by kernel_rfl) (by kernel_rfl) rfl)
  obtain ⟨f2, rfl, _⟩ := int_cell (cell_form (j := 1) (T := 3) (O := 1) (v := c17) hl4 hx4 (by kernel_rfl) (by kernel_rfl) rfl)
  obtain ⟨f3, rfl, _⟩ := int_cell (cell_form (j := 2) (T := 3) (O := 2) (v := c18) hl4 hx4 (by kernel_rfl) (by kernel_rfl) rfl)
  obtain ⟨f4, rfl, _⟩ := int_cell (cell_form (j := 3) (T := 3) (O := 3) (v := c19) hl4 hx4 (by kernel_rfl) (by kernel_rfl) rfl)
  obtain ⟨y5, h5⟩ := cell_form (j := 4) (T := 49) (O := 4) (v := c20) hl4 hx4 (by kernel_rfl) (by kernel_rfl) rfl
  obtain ⟨a, cap, ys, rfl, ho⟩ := gs_trod (R := RP) (fun n' cs X h1 h2 => pt_trod h1 h2) h5
  exact ⟨⟨⟨k, i, e, t, y, (f1, f2, f3, f4), a, ys.length, cap⟩, ys, rfl, ho⟩, rfl⟩
/-- A script as an argument. -/
theorem ops_form {H : Type} {enc : TypeId × Value → H} {w : World} {base : Nat} {spare : Nat → Bool} {held : Bool} {x : Option Addr} {l c : Nat} {d : DataW H} {p : List MemPlace}
    (h : DataW.Trod enc Tryz.prog w base spare held 54 (.slice x l c) d p) : ∃ zs : List (RopW w).α, zs.length = l ∧ Gs (RopW w) w (.slice x l c) zs := by
  obtain ⟨fuel, hf⟩ := h
  obtain ⟨a, cap, zs, e, hg⟩ := gs_trod (R := RopW w) (u := .slice x l c) (fun n' cs X h1 h2 => op_trod h1 h2) hf
  cases e
  exact ⟨zs, rfl, hg⟩
end Go.Proofs.YtdigjklhfimnbaaGreat
