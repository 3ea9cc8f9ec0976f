/- Texts Tp3 of this proof, in one. No conditions but on lengths. -/
import Derived.Test.YtdigjklhfimnbaaGreatRows
import Derived.Test.YtdigjklhfimnbaaGreatU30
import Derived.Test.YtdigjklhfimnbaaGreatU35
import Derived.ArgAppend
import Derived.Below
import Derived.BigQuiet
import Derived.Calls
import Derived.ChangeAlike
import Derived.ChangeArms
import Derived.ChangeMade
import Derived.ChangeOld
import Derived.Deep.Cut
import Derived.Deep.CutBlock
import Derived.Deep.QuietTactic
import Derived.Deep.RegionHeld
import Derived.Deep.RegionLaw
import Derived.Deep.RegionWith
import Derived.Deep.Slices
import Derived.Defers
import Derived.Ground.GgzProg
import Derived.Ground.Names2Prog
import Derived.Laws.AppendOwnNone
import Derived.Laws.BitsLemmas
import Derived.Laws.BytesArg
import Derived.Laws.LoneSync
import Derived.Laws.OwnMore
import Derived.Laws.Pointers
import Derived.Laws.StructEq
import Derived.Lib.Hide
import Derived.Lib.OwnBridge
import Derived.Lib.QuietBelow
import Derived.Lib.SlicesCompact
import Derived.LoopIn
import Derived.LoopTactic
import Derived.Maps.AppendAt
import Derived.Maps.Own
import Derived.Maps.OwnOps
import Derived.Maps.OwnSet
import Derived.Maps.RangeWalk
import Derived.Maps.Views
import Derived.OpenShut
import Derived.Orders
import Derived.Outline
import Derived.OwnWalkIn
import Derived.ProofKit
import Derived.RangeFuncBox
import Derived.RangeFuncCalls
import Derived.RangeFuncLeaves
import Derived.RangeFuncNested
import Derived.RegionCalls
import Derived.RegionTactic
import Derived.Shelf.RegionOpen
import Derived.Shelf.RegionOpenPlain
import Derived.Shelf.SlIterI.Nil
import Derived.Shelf.Slices.CompactI
import Derived.Shelf.Slices.In.SortNone
import Derived.Shelf.Sort.Plain
import Derived.ShutString
import Derived.Sort.Grow
import Derived.StillTail
import Derived.TacticsInMore
import Derived.WalkKit
import Derived.WalkLawsBesides
import Derived.WalkSpells
import Derived.WideShapes
namespace Go.Proofs.YtdigjklhfimnbaaGreat
set_option maxRecDepth 100000
set_option linter.unusedVariables false
open Go.RowKit

open Go.Maps
theorem owna_chg {w w' : World} {G : Nat → Prop} {b : Nat} {y : Int × Int × Int × Int} (h : OwnA w b y) (hc : Chg G w w') (hb : ¬ G b) : OwnA w' b y := by
  obtain ⟨⟨h0, h1, h2, h3⟩, hf⟩ := h
  have hl := World.block_lt_of_cell? w _ h0
  exact ⟨⟨(hc.cell hl hb).trans h0, (hc.cell hl hb).trans h1, (hc.cell hl hb).trans h2, (hc.cell hl hb).trans h3⟩, fun j => (hc.frozen hl hb).trans (hf j)⟩
theorem chg_put4 (w : World) (g : Nat) (i p x m : Int) : Chg (fun k => k = g) w (put4 w g i p x m) :=
  (((chg_pt w g 0 _).trans (chg_pt _ g 1 _) (fun _ _ h => h)).trans (chg_pt _ g 2 _) (fun _ _ h => h)).trans (chg_pt _ g 3 _) (fun _ _ h => h)
section
variable {w : World} {F : Nat → Prop} {b : Nat} {t : Tk}
set_option maxHeartbeats 4000000 in
theorem tack_any (h : PT w F b t) : Calls Tryz.prog 171 #[.pointer (some ⟨b, 0, none⟩)] w fun e w' => ∃ F', e = .returned (.agg #[.int .i64 0, .int .i64 0, .int .i64 t.nx, .int .i64 (mk t.nx (srt t.nx (nums t.H)) 16)]) ∧ PT w' F' b t ∧ Chg F w w' ∧ (∀ k, F k → F' k) ∧ ∀ k, F' k → F k ∨ w.heap.size ≤ k := by
  have HT := Lib.hid h.1
  have HSL : Hid ((srt t.nx (nums t.H)).length ≤ 1000) := by
    have h1 := srt_len t.nx (nums t.H)
    have h2 := held_le h.1
    unfold nums at *
    rw [List.length_map] at h1
    show _ ≤ _
    omega
  obtain ⟨W1, hW1⟩ : ∃ W1, w.alloc (.cells #[.int .i64 0, .int .i64 0, .int .i64 0, .int .i64 0] 212) = W1 := ⟨_, rfl⟩
  have hb1 : Below w.heap.size w W1 := hW1 ▸ (Below.refl _ w).alloc (Nat.le_refl _) _
  have HR1 : Hid (OwnA W1 w.heap.size (0, 0, 0, 0)) := hW1 ▸ owna_alloc w 0 0 0 0 212 w.heap.size rfl
  have HP1 := Lib.hid (h.below hb1)
  have HB1 := Lib.hid hb1
  have HP0 := Lib.hid h
  have c0 := HP1.out.2.cN
  have hn1 : W1.heap.size ≠ b := by have := HP1.out.2.lt b HP1.out.2.fb; omega
  obtain ⟨g0, hg0⟩ : ∃ g0, w.heap.size = g0 := ⟨_, rfl⟩
  rw [hg0] at HR1
  have HG0 := Lib.hid hg0
  have HW1 := Lib.hid hW1
  have HNF : Hid (¬ F g0) := fun hk => by have := h.2.lt _ hk; omega
  obtain ⟨M, hM⟩ : ∃ M, mk t.nx (srt t.nx (nums t.H)) 16 = M := ⟨_, rfl⟩
  rw [hM]
  have HMM := Lib.hid hM
  clear h hb1 hg0 hW1 hM
  go_enter Tryz.func171, Tryz.ntmps171
  go_upto_region 3 with (fail)
  rw [HW1.out]
  try simp only [HG0.out]
  go_region_held (fun w' => w'.cell? ⟨b, 0, none⟩ = some (.int .i64 t.nx)) (first | exact o0 | go_keep) (first
    | (go_at_call 205; refine (theld_any (w := _) (F := F) (b := b) (t := t) (by first | exact HP1.out.drew | exact HP1.out.drew.below ((Below.refl _ _).alloc (Nat.le_refl _) _))).mono ?_; rintro e w2 ⟨u, F2, rfl, hz, hp, hc, hF, hF2⟩; have o0 := hp.2.cN; have HZ2 := Lib.hid hz; have HP2 := Lib.hid hp; have HC2 := Lib.hid hc; have hn2 : w2.heap.size ≠ b := (by have := hp.2.lt b hp.2.fb; omega); have HF2 := Lib.hid hF; have HG2 := Lib.hid hF2; (first | (have HC1 : Hid (Chg F W1 w2) := ((Chg.refl F W1).drew).trans hc (fun _ _ h => h)) | (have HC1 : Hid (Chg F W1 w2) := (((Chg.refl F W1).drew).alloc _).trans hc (fun _ _ h => h))); have HR2 := Lib.hid (owna_chg HR1.out HC1.out HNF.out); have HGG : Hid (∀ k, F2 k → F k ∨ W1.heap.size ≤ k) := (fun k hk => (hF2 k hk).imp (fun h => h) (fun h => Nat.le_trans (by simp) h)); (first | (have HN2 : Hid (¬ F2 W1.heap.size) := (fun hk => (hF2 _ hk).elim (fun h => by have := HP1.out.2.lt _ h; omega) (fun h => by simp at h; omega))) | skip); (first | (have HA2 := Lib.hid (owna_chg (owna_alloc W1.drew 0 0 0 0 212 W1.heap.size rfl) hc (fun hf => Nat.lt_irrefl _ (HP1.out.2.lt _ hf)))) | skip); clear hz hp hc hF hF2)
    | (go_at_call 204; refine (akof_ok t.nx u (srt t.nx (nums t.H)) _ HT.out.nx (by first | exact HZ2.out | exact Zs_below HZ2.out ((Below.refl _ _).alloc (Nat.le_refl _) _)) HSL.out).mono ?_; rintro e w5 ⟨he, hb⟩; rw [HMM.out] at he; subst he; (first | (have HB5 : Hid (Below w2.heap.size w2 w5) := hb) | (have HB5 : Hid (Below w2.heap.size w2 w5) := ((Below.refl _ w2).alloc (Nat.le_refl _) _).trans (hb.mono (by simp)))); (first | (have HA5 := Lib.hid (HA2.out.below HB5.out)) | (have HA5 := Lib.hid ((owna_alloc w2 0 0 0 0 212 w2.heap.size rfl).below hb)) | skip); have HP5 := Lib.hid (HP2.out.below HB5.out); have HR5 := Lib.hid (HR2.out.below HB5.out); have o0 := HP5.out.2.cN; have hn5 : w5.heap.size ≠ b := (by have := HP5.out.2.lt b HP5.out.2.fb; omega); (first | (obtain ⟨⟨z0, z1, z2, z3⟩, zf⟩ := HA5.out) | skip); clear hb))
  · have hV := owna_alloc w5 0 0 t.nx M 212 w5.heap.size rfl
    have hb5 : Below w5.heap.size w5 (w5.alloc (.cells #[.int .i64 0, .int .i64 0, .int .i64 t.nx, .int .i64 M] 212)) := (Below.refl _ w5).alloc (Nat.le_refl _) _
    have hp := HP5.out.below hb5
    have hr := HR5.out.below hb5
    have hcv : Chg F W1 (w5.alloc (.cells #[.int .i64 0, .int .i64 0, .int .i64 t.nx, .int .i64 M] 212)) := (HC1.out.trans (G := fun _ => False) (chg0 HB5.out) (fun _ _ e => e.elim)).trans (G := fun _ => False) (chg0 hb5) (fun _ _ e => e.elim)
    clear hb5
    clear HB5 HP5 HR5 HC1
    generalize (w5.alloc (.cells #[.int .i64 0, .int .i64 0, .int .i64 t.nx, .int .i64 M] 212)) = V5 at *
    obtain ⟨⟨y0, y1, y2, y3⟩, yf⟩ := hV
    obtain ⟨⟨r0, r1, r2, r3⟩, rf⟩ := hr
    have HS := Lib.hid (OwnA.set (w := V5) (b := g0) (y := (0, 0, 0, 0)) ⟨⟨r0, r1, r2, r3⟩, rf⟩ 0 0 t.nx M)
    have hlt : g0 < W1.heap.size := HR1.out.lt
    have HPF : Hid (PT (put4 V5 g0 0 0 t.nx M) F2 b t) := hp.keep (chg_put4 V5 g0 0 0 t.nx M) (fun k hk e => (HGG.out k hk).elim (fun h => HNF.out (by rw [← show k = g0 from e]; exact h)) (fun h => by have e' : k = g0 := e; omega))
    have HCF : Hid (Chg F w (put4 V5 g0 0 0 t.nx M)) := ((chg0 HB1.out).trans hcv (fun _ _ h => h)).trans (chg_put4 V5 g0 0 0 t.nx M) (fun x hx e => by have e' : x = g0 := e; have := HG0.out; omega)
    have HGF : Hid (∀ k, F2 k → F k ∨ w.heap.size ≤ k) := fun k hk => (HGG.out k hk).imp (fun h => h) (fun h => by have := HB1.out.size; omega)
    clear hp hcv hlt
    go_wp2_with fail
    obtain ⟨s0_, s1_, s2_, s3_⟩ := HS.out.1
    have HPF' := HPF.out
    have HCF' := HCF.out
    simp only [put4] at s0_ s1_ s2_ s3_ HPF' HCF'
    generalize (((V5.setCell ⟨g0, 0, none⟩ (.int .i64 0)).setCell ⟨g0, 1, none⟩ (.int .i64 0)).setCell ⟨g0, 2, none⟩ (.int .i64 t.nx)).setCell ⟨g0, 3, none⟩ (.int .i64 M) = W5 at *
    exact bodyPost_ret (v := .agg #[.int .i64 0, .int .i64 0, .int .i64 t.nx, .int .i64 M]) (by simp [results, Tryz.results171, go_sem, s0_, s1_, s2_, s3_]) rfl ⟨rfl, F2, HPF', HCF', HF2.out, HGF.out⟩
  · have hV := HA5.out.set 0 0 t.nx M
    have hp := HP5.out.keep (chg_put4 w5 w2.heap.size 0 0 t.nx M) (fun k hk e => (fun hk => Nat.lt_irrefl _ (HP2.out.2.lt _ hk)) (by rw [← show k = w2.heap.size from e]; exact hk))
    have hr := owna_chg HR5.out (chg_put4 w5 w2.heap.size 0 0 t.nx M) (fun e => by have e' : g0 = w2.heap.size := e; have := HR1.out.lt; have := HC1.out.size; omega)
    have hcv : Chg F W1 (put4 w5 w2.heap.size 0 0 t.nx M) := (HC1.out.trans (G := fun _ => False) (chg0 HB5.out) (fun _ _ e => e.elim)).trans (chg_put4 w5 w2.heap.size 0 0 t.nx M) (fun x hx e => by have e' : x = w2.heap.size := e; have := HC1.out.size; omega)
    simp only [put4] at hV hp hr hcv
    clear HA5 HB5 HP5 HR5 HC1
    generalize ((((w5.setCell ⟨w2.heap.size, 0, none⟩ (.int .i64 0)).setCell ⟨w2.heap.size, 1, none⟩ (.int .i64 0)).setCell ⟨w2.heap.size, 2, none⟩ (.int .i64 t.nx)).setCell ⟨w2.heap.size, 3, none⟩ (.int .i64 M)) = V5 at *
    obtain ⟨⟨y0, y1, y2, y3⟩, yf⟩ := hV
    obtain ⟨⟨r0, r1, r2, r3⟩, rf⟩ := hr
    have HS := Lib.hid (OwnA.set (w := V5) (b := g0) (y := (0, 0, 0, 0)) ⟨⟨r0, r1, r2, r3⟩, rf⟩ 0 0 t.nx M)
    have hlt : g0 < W1.heap.size := HR1.out.lt
    have HPF : Hid (PT (put4 V5 g0 0 0 t.nx M) F2 b t) := hp.keep (chg_put4 V5 g0 0 0 t.nx M) (fun k hk e => (HGG.out k hk).elim (fun h => HNF.out (by rw [← show k = g0 from e]; exact h)) (fun h => by have e' : k = g0 := e; omega))
    have HCF : Hid (Chg F w (put4 V5 g0 0 0 t.nx M)) := ((chg0 HB1.out).trans hcv (fun _ _ h => h)).trans (chg_put4 V5 g0 0 0 t.nx M) (fun x hx e => by have e' : x = g0 := e; have := HG0.out; omega)
    have HGF : Hid (∀ k, F2 k → F k ∨ w.heap.size ≤ k) := fun k hk => (HGG.out k hk).imp (fun h => h) (fun h => by have := HB1.out.size; omega)
    clear hp hcv hlt
    go_wp2_with fail
    obtain ⟨s0_, s1_, s2_, s3_⟩ := HS.out.1
    have HPF' := HPF.out
    have HCF' := HCF.out
    simp only [put4] at s0_ s1_ s2_ s3_ HPF' HCF'
    generalize (((V5.setCell ⟨g0, 0, none⟩ (.int .i64 0)).setCell ⟨g0, 1, none⟩ (.int .i64 0)).setCell ⟨g0, 2, none⟩ (.int .i64 t.nx)).setCell ⟨g0, 3, none⟩ (.int .i64 M) = W5 at *
    exact bodyPost_ret (v := .agg #[.int .i64 0, .int .i64 0, .int .i64 t.nx, .int .i64 M]) (by simp [results, Tryz.results171, go_sem, s0_, s1_, s2_, s3_]) rfl ⟨rfl, F2, HPF', HCF', HF2.out, HGF.out⟩
  · have hV := HA5.out.set 0 0 t.nx M
    have hp := HP5.out.keep (chg_put4 w5 W1.heap.size 0 0 t.nx M) (fun k hk e => HN2.out (by rw [← show k = W1.heap.size from e]; exact hk))
    have hr := owna_chg HR5.out (chg_put4 w5 W1.heap.size 0 0 t.nx M) (fun e => by have e' : g0 = W1.heap.size := e; have := HR1.out.lt; have := HC1.out.size; omega)
    have hcv : Chg F W1 (put4 w5 W1.heap.size 0 0 t.nx M) := (HC1.out.trans (G := fun _ => False) (chg0 HB5.out) (fun _ _ e => e.elim)).trans (chg_put4 w5 W1.heap.size 0 0 t.nx M) (fun x hx e => by have e' : x = W1.heap.size := e; have := HC1.out.size; omega)
    simp only [put4] at hV hp hr hcv
    clear HA5 HB5 HP5 HR5 HC1
    generalize ((((w5.setCell ⟨W1.heap.size, 0, none⟩ (.int .i64 0)).setCell ⟨W1.heap.size, 1, none⟩ (.int .i64 0)).setCell ⟨W1.heap.size, 2, none⟩ (.int .i64 t.nx)).setCell ⟨W1.heap.size, 3, none⟩ (.int .i64 M)) = V5 at *
    obtain ⟨⟨y0, y1, y2, y3⟩, yf⟩ := hV
    obtain ⟨⟨r0, r1, r2, r3⟩, rf⟩ := hr
    have HS := Lib.hid (OwnA.set (w := V5) (b := g0) (y := (0, 0, 0, 0)) ⟨⟨r0, r1, r2, r3⟩, rf⟩ 0 0 t.nx M)
    have hlt : g0 < W1.heap.size := HR1.out.lt
    have HPF : Hid (PT (put4 V5 g0 0 0 t.nx M) F2 b t) := hp.keep (chg_put4 V5 g0 0 0 t.nx M) (fun k hk e => (HGG.out k hk).elim (fun h => HNF.out (by rw [← show k = g0 from e]; exact h)) (fun h => by have e' : k = g0 := e; omega))
    have HCF : Hid (Chg F w (put4 V5 g0 0 0 t.nx M)) := ((chg0 HB1.out).trans hcv (fun _ _ h => h)).trans (chg_put4 V5 g0 0 0 t.nx M) (fun x hx e => by have e' : x = g0 := e; have := HG0.out; omega)
    have HGF : Hid (∀ k, F2 k → F k ∨ w.heap.size ≤ k) := fun k hk => (HGG.out k hk).imp (fun h => h) (fun h => by have := HB1.out.size; omega)
    clear hp hcv hlt
    go_wp2_with fail
    obtain ⟨s0_, s1_, s2_, s3_⟩ := HS.out.1
    have HPF' := HPF.out
    have HCF' := HCF.out
    simp only [put4] at s0_ s1_ s2_ s3_ HPF' HCF'
    generalize (((V5.setCell ⟨g0, 0, none⟩ (.int .i64 0)).setCell ⟨g0, 1, none⟩ (.int .i64 0)).setCell ⟨g0, 2, none⟩ (.int .i64 t.nx)).setCell ⟨g0, 3, none⟩ (.int .i64 M) = W5 at *
    exact bodyPost_ret (v := .agg #[.int .i64 0, .int .i64 0, .int .i64 t.nx, .int .i64 M]) (by simp [results, Tryz.results171, go_sem, s0_, s1_, s2_, s3_]) rfl ⟨rfl, F2, HPF', HCF', HF2.out, HGF.out⟩
end
end Go.Proofs.YtdigjklhfimnbaaGreat
