/- Texts Yaa of this proof, in one. No conditions but on lengths. -/
import Derived.Test.YtdigjklhfimnbaaGreatRows
import Derived.Test.YtdigjklhfimnbaaGreatU43
import Derived.Test.YtdigjklhfimnbaaGreatU44
import Derived.ArgAppend
import Derived.Below
import Derived.BigQuiet
import Derived.BigRegion
import Derived.Calls
import Derived.ChangeAlike
import Derived.ChangeArms
import Derived.ChangeKeysEq
import Derived.ChangeMade
import Derived.ChangeOld
import Derived.Deep.Cut
import Derived.Deep.CutBlock
import Derived.Deep.LoopGhost
import Derived.Deep.QuietTactic
import Derived.Deep.RegionHeld
import Derived.Deep.RegionLaw
import Derived.Deep.RegionWith
import Derived.Deep.Slices
import Derived.Defers
import Derived.Ground.GgzProg
import Derived.Ground.Names2Prog
import Derived.Laws.AppendOwnNone
import Derived.Laws.BitsLemmas
import Derived.Laws.BytesArg
import Derived.Laws.LoneSync
import Derived.Laws.OwnMore
import Derived.Laws.Pointers
import Derived.Laws.StructEq
import Derived.Lib.ConvBytes
import Derived.Lib.Hide
import Derived.Lib.OwnBridge
import Derived.Lib.QuietBelow
import Derived.Lib.SliceRun
import Derived.Lib.SlicesCompact
import Derived.LoopIn
import Derived.LoopTactic
import Derived.Maps.AppendAt
import Derived.Maps.Own
import Derived.Maps.OwnOps
import Derived.Maps.OwnSet
import Derived.Maps.RangeWalk
import Derived.Maps.Views
import Derived.OpenShut
import Derived.Orders
import Derived.Outline
import Derived.OwnWalkIn
import Derived.ProofKit
import Derived.RangeFuncBox
import Derived.RangeFuncCalls
import Derived.RangeFuncLeaves
import Derived.RangeFuncNested
import Derived.RegionCalls
import Derived.RegionTactic
import Derived.Shelf.RegionOpen
import Derived.Shelf.RegionOpenPlain
import Derived.Shelf.SlIterI.Nil
import Derived.Shelf.Slices.CompactI
import Derived.Shelf.Slices.In.SortNone
import Derived.Shelf.Sort.Plain
import Derived.ShutString
import Derived.Sort.Grow
import Derived.StillTail
import Derived.TacticsInMore
import Derived.WalkKit
import Derived.WalkLawsBesides
import Derived.WalkSpells
import Derived.WideShapes
namespace Go.Proofs.YtdigjklhfimnbaaGreat
set_option maxRecDepth 100000
set_option linter.unusedVariables false
open Go.RowKit

theorem PaW.off {w : World} {S : Nat} {G : Nat → Prop} {v : Value} {ps : List Pt} (h : PaW w S G v ps) : ∀ g, v.ownBlock = some g → ¬ G g := by
  obtain ⟨rs, h1, h2, h3, h4⟩ := h
  exact h3
/-- One batch, laid down. -/
theorem bts_lit {V : World} {H G : Nat → Prop} {ao : Option Addr} {lo co : Nat} {n : Int} {ys : List Ob} (ho : OsO V H (.slice ao lo co) ys) (hGH : ∀ k, G k → H k) (hG : ∀ k, G k → k < V.heap.size) : BtsO (V.alloc (.cells #[.int .i64 n, .slice ao lo co] 143)) G (.slice (some ⟨V.heap.size, 0, none⟩) 1 1) [(n, ys)] := by
  have hb : Below V.heap.size V (V.alloc (.cells #[.int .i64 n, .slice ao lo co] 143)) := (Below.refl _ V).alloc (Nat.le_refl _) _
  refine .inr ⟨V.heap.size, 0, 1, rfl, Nat.le_refl _, by simp, fun hk => absurd (hG _ hk) (Nat.lt_irrefl _), fun i hi => ?_⟩
  obtain rfl : i = 0 := by have h9 : i < 1 := hi; omega
  exact ⟨by simp, .slice ao lo co, by simp, rfl, (ho.mono hGH).below hb⟩
/-- A frame of parts, laid down, one frame more. -/
theorem frame_app {w : World} {S : Nat} {G : Nat → Prop} {v : Value} {fs : List (List Pt)} {p : Pr} (x : FrW w S G v p.hd fs) (ar : Option Addr) (cr : Nat) (ps : List Pt) (hp : PaO w (OwG G v) ar cr ps) (hl : fs.length ≤ 2000) (hS : S ≤ w.heap.size) (hG : ∀ k, G k → k < w.heap.size) (tt : TypeId) : ∃ a c w', (Builtin.append_ #[32, 32] tt #[v, .slice (some ⟨w.heap.size, 0, none⟩) 1 1]).run Tryz.prog (w.alloc (.cells #[.int .i64 p.me.1, .int .i64 p.me.2, .int .i64 p.pe.1, .int .i64 p.pe.2, .slice ar ps.length cr] 51)) = .ok (.slice a (fs ++ [ps]).length c) w' ∧ FrW w' S G (.slice a (fs ++ [ps]).length c) p.hd (fs ++ [ps]) ∧ Chg (fun k => v.ownBlock = some k) w w' ∧ ∀ g, (Value.slice a (fs ++ [ps]).length c).ownBlock = some g → v.ownBlock = some g ∨ w.heap.size ≤ g := by
  have hb : Below w.heap.size w (w.alloc (.cells #[.int .i64 p.me.1, .int .i64 p.me.2, .int .i64 p.pe.1, .int .i64 p.pe.2, .slice ar ps.length cr] 51)) := (Below.refl _ w).alloc (Nat.le_refl _) _
  obtain ⟨a, c, w', h1, h2, h3, h4⟩ := frw_app (x.below hb) (⟨p.me.1, p.me.2, p.pe.1, p.pe.2, ar, ps.length, cr⟩ : RFc) ps w.heap.size (gc_alloc RFR w (⟨p.me.1, p.me.2, p.pe.1, p.pe.2, ar, ps.length, cr⟩ : RFc) w.heap.size rfl 51) ⟨rfl, rfl, hp.below hb⟩ (by omega) (by have := hb.size; omega) (fun k hk => Nat.lt_of_lt_of_le (hG k hk) hb.size) tt
  exact ⟨a, c, w', h1, h2, (chg0 (F := fun k => v.ownBlock = some k) hb).trans (chg_grown h3) (fun _ _ e => e), fun g hg => (h4 g hg).imp (fun e => e) (fun e => Nat.le_trans hb.size e)⟩
section
variable {w w' : World} {F : Nat → Prop} {b : Nat} {p : Pr}
set_option maxHeartbeats 16000000 in
theorem prfso_any (S : Nat) (L : List Bt) (a : Option Addr) (c : Nat) (h : PP w F b p) (hv : BtsO w (Ab F S) (.slice a L.length c) L) (hS : S ≤ w.heap.size) (hL : L.length ≤ 16) : Calls Tryz.prog 49 #[.pointer (some ⟨b, 0, none⟩), .slice a L.length c] w fun e w' => ∃ r, e = .returned r ∧ ∃ F', PP w' F' b (offP p) ∧ Nx w w' F F' ∧ FrW w' S (Ab F' S) r p.hd (frsL (owedL p) L) := by
  have C := Lib.hid (prpso_any h)
  have HV : Hid (BtsO w (fun k => Ab F S k ∨ w.heap.size ≤ k) (.slice a L.length c) L) := hv.to (fun k hk => hk)
  have HSW : Hid (S ≤ w.heap.size) := hS
  have HL : Hid (L.length ≤ 16) := hL
  clear h hv hS hL
  go_enter Tryz.func49, Tryz.ntmps49
  go_wp2_with fail
  refine C.out.mono ?_
  rintro e w2 ⟨g, u0, F1, rfl, hp, hn, hg, hz, hgw, hgl, hgF, hug, hu⟩
  have HN2 := Lib.hid hn
  have HFX : Hid (∀ k, F1 k → F k ∨ w.heap.size ≤ k) := hn.2
  have HGW : Hid (w.heap.size ≤ g) := hgw
  have HGF : Hid (¬ F1 g) := hgF
  have HS2 : Hid (w.heap.size ≤ w2.heap.size) := hn.1.size
  have hu2 : PaW w2 w.heap.size (OwG (fun k => Ab F1 S k ∨ k = g) (.slice none 0 0)) u0 (owedL p) := hu.mono (Nat.le_refl _) (fun k _ hk => by
    rcases hk with (hk | hk) | hk
    · exact .inl (hk.imp (fun e => e) (fun e => Nat.lt_of_lt_of_le e HSW.out))
    · exact .inr hk
    · cases hk)
  have HP2 := Lib.hid hp
  have HU2 := Lib.hid hu2
  have HG2 : Hid (w2.cell? ⟨g, 0, none⟩ = some u0 ∧ (∀ j, w2.frozen? ⟨g, j, none⟩ = false) ∧ u0.ownBlock ≠ some g ∧ g < w2.heap.size) := ⟨hg, hz, hug, hgl⟩
  clear hp hn hg hz hgw hgl hgF hug hu hu2 C
  go_wp2_with fail
  go_loopw [5, 14] (fun v i wr => ∃ (k : Nat) (u : Value), k ≤ L.length ∧ i = .int .i64 k ∧ PP wr F1 b (offP p) ∧ Nx w wr F F1 ∧ FrW wr w2.heap.size (OwG (fun k => Ab F1 S k ∨ k = g) u) v p.hd ((frsL (owedL p) L).take k) ∧ (wr.cell? ⟨g, 0, none⟩ = some u ∧ (∀ j, wr.frozen? ⟨g, j, none⟩ = false) ∧ u.ownBlock ≠ some g ∧ g < wr.heap.size) ∧ PaW wr w.heap.size (OwG (fun k => Ab F1 S k ∨ k = g) v) u (if k = 0 then owedL p else []) ∧ w2.heap.size ≤ wr.heap.size) (fun _ i _ => L.length - (intOf i).toNat)
  case atStart => exact ⟨0, u0, Nat.zero_le _, rfl, HP2.out, HN2.out, FrW.nil _ _ _ _, HG2.out, HU2.out, Nat.le_refl _⟩
  case round =>
    obtain ⟨k, u, hk, rfl, hp, hn, hf, ⟨hg, hz, hug, hgl⟩, hu, hsz⟩ := hrel
    have HK : Hid (((frsL (owedL p) L).take k).length ≤ 16) := by
      show _ ≤ _
      rw [List.length_take]
      have := HL.out
      omega
    have HFE : Hid (k = L.length → (frsL (owedL p) L).take k = (frsL (owedL p) L).take L.length) := fun e => by rw [e]
    have HFS : Hid (k < L.length → (frsL (owedL p) L).take (k + 1) = (frsL (owedL p) L).take k ++ [(if k = 0 then owedL p else []) ++ [ptB (L.getD k zb)]]) := fun h => frs_step _ _ h
    obtain ⟨fs, hfs⟩ : ∃ fs, (frsL (owedL p) L).take k = fs := ⟨_, rfl⟩
    obtain ⟨psr, hpsr⟩ : ∃ ps, (if k = 0 then owedL p else []) = ps := ⟨_, rfl⟩
    have HPL : Hid (psr.length ≤ 1) := by
      show _ ≤ _
      rw [← hpsr]
      split
      · exact owed_len p
      · exact Nat.zero_le _
    rw [hfs] at hf HK HFE
    rw [hpsr] at hu
    rw [hfs, hpsr] at HFS
    have HPS := Lib.hid hpsr
    obtain ⟨av, cv, rfl⟩ := hf.form
    have hG0 : ∀ x, OwG (fun k => Ab F1 S k ∨ k = g) (.slice av fs.length cv) x → x < wr.heap.size := fun x hx => by
      rcases hx with ((hx | hx) | hx) | hx
      · exact hp.lt x hx
      · have h1 := HSW.out
        have h2 := HS2.out
        omega
      · rw [hx]; exact hgl
      · exact (hf.lt x hx).2
    have hX : ∀ x, OwG (fun k => Ab F1 S k ∨ k = g) (.slice av fs.length cv) x ∨ u.ownBlock = some x → Ab F S x ∨ w.heap.size ≤ x := fun x hx => by
      rcases hx with (((hx | hx) | hx) | hx) | hx
      · exact (HFX.out x hx).imp .inl (fun e => e)
      · exact .inl (.inr hx)
      · have := HGW.out; exact .inr (by omega)
      · have h1 := (hf.lt x hx).1
        have h2 := HS2.out
        exact .inr (by omega)
      · exact .inr (hu.lt x hx).1
    clear hfs hpsr
    by_cases hlt : k < L.length
    · have hvr := HV.out.chg (hn.1.mono (fun x _ hx => .inl (.inl hx)))
      obtain ⟨bx, off, ub, rfl, hcap, x0, x1, ho⟩ := btso_at hvr hlt
      obtain ⟨⟨n, ys⟩, hx⟩ : ∃ x, L.getD k zb = x := ⟨_, rfl⟩
      rw [hx] at x0 ho
      have HFS2 := Lib.hid (HFS.out hlt)
      rw [hx] at HFS2
      obtain ⟨ao, co, rfl⟩ := ho.form
      dsimp only at x0 x1 ho
      obtain ⟨lo, hlo⟩ : ∃ l, ys.length = l := ⟨_, rfl⟩
      rw [hlo] at x1 ho
      obtain ⟨V, hV⟩ : ∃ V, wr.alloc (.cells #[.int .i64 n, .slice ao lo co] 143) = V := ⟨_, rfl⟩
      obtain ⟨g1, hg1⟩ : ∃ g1, wr.heap.size = g1 := ⟨_, rfl⟩
      have hb : Below wr.heap.size wr V := hV ▸ (Below.refl _ wr).alloc (Nat.le_refl _) _
      obtain ⟨y0, y1⟩ : V.cell? ⟨g1, 0, none⟩ = some (.int .i64 n) ∧ V.cell? ⟨g1, 1, none⟩ = some (.slice ao lo co) := by
        rw [← hV, ← hg1]
        refine ⟨?_, ?_⟩ <;> simp
      have hb2 : Below V.heap.size V (V.alloc (.cells #[.int .i64 n, .slice ao lo co] 143)) := (Below.refl _ V).alloc (Nat.le_refl _) _
      have hbb : Below wr.heap.size wr (V.alloc (.cells #[.int .i64 n, .slice ao lo co] 143)) := hb.trans (hb2.mono hb.size)
      have hlit := bts_lit (V := V) (G := OwG (OwG (fun k => Ab F1 S k ∨ k = g) (.slice av fs.length cv)) u) (n := n) (ho.below hb) (fun x hx => hX x hx) (fun x hx => Nat.lt_of_lt_of_le (hx.elim (hG0 x) (fun h => (hu.lt x h).2)) hb.size)
      have hgs : (V.alloc (.cells #[.int .i64 n, .slice ao lo co] 143)).cell? ⟨g, 0, none⟩ = some u := (hbb.cell (p := ⟨g, 0, none⟩) hgl).trans hg
      have C := Lib.hid (prclo_any w.heap.size (OwG (fun k => Ab F1 S k ∨ k = g) (.slice av fs.length cv)) g u psr (some ⟨V.heap.size, 0, none⟩) 1 [(n, ys)] (V.alloc (.cells #[.int .i64 n, .slice ao lo co] 143)) hgs (fun j => (hbb.frozen (p := ⟨g, j, none⟩) hgl).trans (hz j)) (.inl (.inr rfl)) (fun x hx => Nat.lt_of_lt_of_le (hG0 x hx) hbb.size) (hu.below hbb) (by have h1 := HS2.out; have h2 := hbb.size; omega) hlit (by have := HPL.out; have h9 : [(n, ys)].length = 1 := rfl; omega))
      have HPV := Lib.hid (hp.below hbb)
      have HNV := Lib.hid (hn.trans (.below hbb))
      have HFV := Lib.hid (hf.below hbb)
      have HUO : Hid (∀ x, u.ownBlock = some x → ¬ OwG (fun k => Ab F1 S k ∨ k = g) (.slice av fs.length cv) x ∧ w.heap.size ≤ x) := fun x hx => ⟨hu.off x hx, (hu.lt x hx).1⟩
      have HFO : Hid (∀ x, (Value.slice av fs.length cv).ownBlock = some x → ¬ OwG (fun k => Ab F1 S k ∨ k = g) u x ∧ w2.heap.size ≤ x) := fun x hx => ⟨hf.off x hx, (hf.lt x hx).1⟩
      have HGL : Hid (g < (V.alloc (.cells #[.int .i64 n, .slice ao lo co] 143)).heap.size) := Nat.lt_of_lt_of_le hgl hbb.size
      have HSZ : Hid (w2.heap.size ≤ (V.alloc (.cells #[.int .i64 n, .slice ao lo co] 143)).heap.size) := Nat.le_trans hsz hbb.size
      have HWV := Lib.hid hV
      have HGV := Lib.hid hg1
      have hk0 : (0 : Int) ≤ (k : Int) := by omega
      have hk1 : (k : Int) < (L.length : Int) := by omega
      have hk9 : (L.length : Int) ≤ 16 := by have := HL.out; omega
      have hkn : ((k : Int)).toNat = k := Int.toNat_natCast k
      clear hp hn hf hg hz hug hgl hu hsz hG0 hX hvr hx hb hb2 hbb hlit hgs hV hg1 hlo ho
      go_upto_region 6 with (fail)
      rw [HWV.out]
      try simp only [HGV.out]
      clear x0 x1
      go_wp2_with fail
      refine C.out.mono ?_
      rintro e w5 ⟨r, rfl, hr, hg5, hz5, hc5, ho5⟩
      obtain ⟨psn, hpsn⟩ : ∃ q, psr ++ [(n, ys)].map ptB = q := ⟨_, rfl⟩
      rw [hpsn] at hr
      have HPN : Hid (psr ++ [ptB (n, ys)] = psn) := hpsn
      obtain ⟨ar, cr, rfl⟩ := hr.form
      have hp5 : PP w5 F1 b (offP p) := HPV.out.keep hc5 (fun x hx e => e.elim (fun e => HGF.out (e ▸ hx)) (fun e => (HUO.out x e).1 (.inl (.inl (.inl hx)))))
      have hn5 : Nx w w5 F F1 := ⟨HNV.out.1.trans hc5 (fun x hx e => e.elim (fun e => absurd HGW.out (by omega)) (fun e => absurd (HUO.out x e).2 (by omega))), HNV.out.2⟩
      have hf5 : FrW w5 w2.heap.size (OwG (fun k => Ab F1 S k ∨ k = g) u) (.slice av fs.length cv) p.hd fs := HFV.out.nx ⟨hc5.mono (fun x _ e => e.elim (fun e => .inl (.inr e)) .inr), fun x hx => .inl hx⟩
      have CF := Lib.hid (prfro_any ar psn.length cr hp5)
      have HP5 := Lib.hid hp5
      have HN5 := Lib.hid hn5
      have HF5 := Lib.hid hf5
      have HR5 := Lib.hid hr
      have HG5 : Hid (w5.cell? ⟨g, 0, none⟩ = some (.slice none 0 0) ∧ (∀ j, w5.frozen? ⟨g, j, none⟩ = false) ∧ g < w5.heap.size) := ⟨hg5, hz5, Nat.lt_of_lt_of_le HGL.out hc5.size⟩
      have HSZ5 : Hid (w2.heap.size ≤ w5.heap.size) := Nat.le_trans HSZ.out hc5.size
      clear hr hg5 hz5 hc5 ho5 hp5 hn5 hf5 hpsn C
      go_wp2_with fail
      refine CF.out.mono ?_
      rintro e w6 ⟨rfl, hb6⟩
      have hG6 : ∀ x, (fun k => Ab F1 S k ∨ k = g) x → x < w6.heap.size := fun x hx => by
        have h6 := hb6.size
        rcases hx with (hx | hx) | hx
        · have := HP5.out.lt x hx; omega
        · have h1 := HSW.out
          have h2 := HS2.out
          have h3 := HSZ5.out
          omega
        · have := HG5.out.2.2; omega
      obtain ⟨a7, c7, W7, hrun, hf7, hc7, ho7⟩ := frame_app ((HF5.out.below hb6).mono (Nat.le_refl _) (fun x _ hx => .inl hx)) ar cr psn (HR5.out.below hb6).pao (by have := HK.out; omega) (Nat.le_trans HSZ5.out hb6.size) hG6 32
      have HP7 : Hid (PP W7 F1 b (offP p)) := (HP5.out.below hb6).keep hc7 (fun x hx e => (HFO.out x e).1 (.inl (.inl (.inl hx))))
      have HN7 : Hid (Nx w W7 F F1) := ⟨(HN5.out.trans (.below hb6)).1.trans hc7 (fun x hx e => absurd (HFO.out x e).2 (by have := HS2.out; omega)), HN5.out.2⟩
      have HF7 : Hid (FrW W7 w2.heap.size (OwG (fun k => Ab F1 S k ∨ k = g) (.slice none 0 0)) (.slice a7 (fs ++ [psn]).length c7) p.hd (fs ++ [psn])) := hf7.mono (Nat.le_refl _) (fun x _ hx => hx.elim (fun e => e) (fun e => by cases e))
      have HG7 : Hid (W7.cell? ⟨g, 0, none⟩ = some (.slice none 0 0) ∧ (∀ j, W7.frozen? ⟨g, j, none⟩ = false) ∧ (Value.slice none 0 0).ownBlock ≠ some g ∧ g < W7.heap.size) := by
        obtain ⟨q1, q2, q3⟩ := HG5.out
        have q4 := Nat.lt_of_lt_of_le q3 hb6.size
        have hn : ¬ (Value.slice av fs.length cv).ownBlock = some g := fun e => (HFO.out g e).1 (.inl (.inr rfl))
        exact ⟨(hc7.cell q4 hn).trans ((hb6.cell (p := ⟨g, 0, none⟩) q3).trans q1), fun j => (hc7.frozen q4 hn).trans ((hb6.frozen (p := ⟨g, j, none⟩) q3).trans (q2 j)), (fun e => by cases e), Nat.lt_of_lt_of_le q4 hc7.size⟩
      have HSZ7 : Hid (w2.heap.size ≤ W7.heap.size) := Nat.le_trans HSZ5.out (Nat.le_trans hb6.size hc7.size)
      have HLE : Hid ((fs ++ [psn]).length = fs.length + 1) := by show _ = _; rw [List.length_append]; rfl
      clear hb6 hG6 hf7 hc7 ho7 CF y0 y1
      go_wp2_with (at_builtin; refine app_go rfl (.tmp 18) (.tmp 25) 32 rfl _ _ _ _ rfl rfl hrun ?_)
      go_roundw
      case rel => exact ⟨k + 1, .slice none 0 0, hlt, by go_num, HP7.out, HN7.out, by rw [HFS2.out, HPN.out]; have h9 := HF7.out; rw [HLE.out] at h9; exact h9, HG7.out, by rw [if_neg (Nat.succ_ne_zero k)]; exact PaW.nil _ _ _, HSZ7.out⟩
      case measure => simp [intOf]; omega
    · have ek : k = L.length := by omega
      have C := Lib.hid (prclo_any w.heap.size (OwG (fun k => Ab F1 S k ∨ k = g) (.slice av fs.length cv)) g u psr none 0 [] wr hg hz (.inl (.inr rfl)) hG0 hu (Nat.le_trans HS2.out hsz) (.inl ⟨none, 0, rfl, fun _ => rfl, rfl⟩) (by have := HPL.out; show psr.length + 0 ≤ 3000; omega))
      have HPV := Lib.hid hp
      have HNV := Lib.hid hn
      have HFV := Lib.hid hf
      have HUO : Hid (∀ x, u.ownBlock = some x → ¬ OwG (fun k => Ab F1 S k ∨ k = g) (.slice av fs.length cv) x ∧ w.heap.size ≤ x) := fun x hx => ⟨hu.off x hx, (hu.lt x hx).1⟩
      have HFO : Hid (∀ x, (Value.slice av fs.length cv).ownBlock = some x → ¬ OwG (fun k => Ab F1 S k ∨ k = g) u x ∧ w2.heap.size ≤ x) := fun x hx => ⟨hf.off x hx, (hf.lt x hx).1⟩
      have HGL : Hid (g < wr.heap.size) := hgl
      have HSZ := Lib.hid hsz
      have HFF : Hid (frsL (owedL p) L = fs ++ (if L.length = 0 then (if owedL p = [] then [] else [owedL p]) else [])) := by
        show _ = _
        rw [HFE.out ek]
        exact frs_end _ _
      have HPQ : Hid ((if L.length = 0 then owedL p else []) = psr) := by
        have h := HPS.out
        rw [ek] at h
        exact h
      have HEQ : Hid (∀ (H : psr = []), frsL (owedL p) L = fs) := fun H => by
        rw [HFF.out]
        have h := HPQ.out
        rw [H] at h
        by_cases hL0 : L.length = 0
        · rw [if_pos hL0] at h ⊢
          rw [if_pos h, List.append_nil]
        · rw [if_neg hL0, List.append_nil]
      have HNQ : Hid (∀ (H : psr ≠ []), frsL (owedL p) L = fs ++ [psr]) := fun H => by
        rw [HFF.out]
        have h := HPQ.out
        by_cases hL0 : L.length = 0
        · rw [if_pos hL0] at h ⊢
          rw [h, if_neg H]
        · rw [if_neg hL0] at h
          exact absurd h.symm H
      clear hp hn hf hg hz hug hgl hu hsz hG0 hX hlt hk
      subst ek
      go_wp2_with fail
      refine C.out.mono ?_
      rintro e w5 ⟨r, rfl, hr, hg5, hz5, hc5, ho5⟩
      have hr2 : PaW w5 w.heap.size (OwG (fun k => Ab F1 S k ∨ k = g) (.slice av fs.length cv)) r psr := by
        have h := hr
        rw [List.map_nil, List.append_nil] at h
        exact h
      obtain ⟨ar, cr, rfl⟩ := hr2.form
      have hp5 : PP w5 F1 b (offP p) := HPV.out.keep hc5 (fun x hx e => e.elim (fun e => HGF.out (e ▸ hx)) (fun e => (HUO.out x e).1 (.inl (.inl (.inl hx)))))
      have hn5 : Nx w w5 F F1 := ⟨HNV.out.1.trans hc5 (fun x hx e => e.elim (fun e => absurd HGW.out (by omega)) (fun e => absurd (HUO.out x e).2 (by omega))), HNV.out.2⟩
      have hf5 : FrW w5 w2.heap.size (OwG (fun k => Ab F1 S k ∨ k = g) u) (.slice av fs.length cv) p.hd fs := HFV.out.nx ⟨hc5.mono (fun x _ e => e.elim (fun e => .inl (.inr e)) .inr), fun x hx => .inl hx⟩
      have CF := Lib.hid (prfro_any ar psr.length cr hp5)
      have HP5 := Lib.hid hp5
      have HN5 := Lib.hid hn5
      have HF5 := Lib.hid hf5
      have HR5 := Lib.hid hr2
      have HGS5 : Hid (g < w5.heap.size) := Nat.lt_of_lt_of_le HGL.out hc5.size
      have HSZ5 : Hid (w2.heap.size ≤ w5.heap.size) := Nat.le_trans HSZ.out hc5.size
      clear hr hr2 hg5 hz5 hc5 ho5 hp5 hn5 hf5 C
      by_cases hps : psr = []
      · have HE := Lib.hid (HEQ.out hps)
        have hpl : psr.length = 0 := by rw [hps]; rfl
        rw [hpl]
        clear hps hpl
        go_wp2_with fail
        go_ret
        exact ⟨_, rfl, F1, HP5.out, HN5.out, by rw [HE.out]; exact HF5.out.mono (Nat.le_trans HSW.out HS2.out) (fun x _ hx => .inl (.inl hx))⟩
      · have HE := Lib.hid (HNQ.out hps)
        have hpl : psr.length = 1 := by
          have h1 := HPL.out
          have h2 : psr.length ≠ 0 := fun h => hps (List.eq_nil_of_length_eq_zero h)
          omega
        have HPL1 : Hid (psr.length = 1) := hpl
        rw [hpl] at CF ⊢
        clear hps hpl
        go_wp2_with fail
        refine CF.out.mono ?_
        rintro e w6 ⟨rfl, hb6⟩
        have hG6 : ∀ x, (fun k => Ab F1 S k ∨ k = g) x → x < w6.heap.size := fun x hx => by
          have h6 := hb6.size
          rcases hx with (hx | hx) | hx
          · have := HP5.out.lt x hx; omega
          · have h1 := HSW.out
            have h2 := HS2.out
            have h3 := HSZ5.out
            omega
          · have := HGS5.out; omega
        obtain ⟨a7, c7, W7, hrun, hf7, hc7, ho7⟩ := frame_app ((HF5.out.below hb6).mono (Nat.le_refl _) (fun x _ hx => .inl hx)) ar cr psr (HR5.out.below hb6).pao (by have := HK.out; omega) (Nat.le_trans HSZ5.out hb6.size) hG6 32
        rw [HPL1.out] at hrun
        have HP7 : Hid (PP W7 F1 b (offP p)) := (HP5.out.below hb6).keep hc7 (fun x hx e => (HFO.out x e).1 (.inl (.inl (.inl hx))))
        have HN7 : Hid (Nx w W7 F F1) := ⟨(HN5.out.trans (.below hb6)).1.trans hc7 (fun x hx e => absurd (HFO.out x e).2 (by have := HS2.out; omega)), HN5.out.2⟩
        have hf8 := hf7.mono (B := S) (H := Ab F1 S) (Nat.le_trans HSW.out HS2.out) (fun x _ hx => .inl hx)
        rw [show (fs ++ [psr]).length = fs.length + 1 by rw [List.length_append]; rfl] at hf8
        have HF7 := Lib.hid hf8
        clear hb6 hG6 hf7 hc7 ho7 CF hf8
        go_wp2_with (at_builtin; refine app_go rfl (.tmp 33) (.tmp 37) 32 rfl _ _ _ _ rfl rfl hrun ?_)
        go_ret
        exact ⟨_, rfl, F1, HP7.out, HN7.out, by rw [HE.out]; exact HF7.out⟩
/-- What is sent. -/
def frS (p : Pr) : Pr := ⟨p.me, p.pe, sdS p.s, p.t, false⟩
theorem sdT_le {s : Sd} (h : SdOk s) : (sdT s).length ≤ 16 := by
  have h1 := sdT_top h
  have h2 := h.win
  have h3 : 0 ≤ far (fstN s) s.nx := by unfold far; omega
  omega
theorem prfr_any (h : PP w F b p) : Calls Tryz.prog 12 #[.pointer (some ⟨b, 0, none⟩)] w fun e w' => ∃ r, e = .returned r ∧ ∃ F', PP w' F' b (frS p) ∧ Nx w w' F F' ∧ FrW w' w.heap.size (Ab F' w.heap.size) r p.hd (frsL (owedL p) (sdT p.s)) := by
  obtain ⟨Fs, Ft, b1, b2, h, rfl⟩ := h
  have HH := Lib.hid h
  have C := Lib.hid (dc.send h.s)
  have HSL := Lib.hid (sdT_le (dc.ok h.s))
  have c4 := h.c4
  clear h
  go_enter Tryz.func12, Tryz.ntmps12
  go_wp2_with fail
  refine C.out.mono ?_
  rintro e w2 ⟨r, rfl, hc, Fs2, hs, hF, hr⟩
  obtain ⟨hx, hn⟩ := HH.out.sstep hc hs hF
  obtain ⟨a, c, rfl⟩ := hr.form
  have hr2 : BtsO w2 (Ab (GP Fs2 Ft b) w.heap.size) (.slice a (sdT p.s).length c) (sdT p.s) := hr.mono (fun k hk => by
    rcases hk with (e | hk | hk) | hk
    · exact .inr (e ▸ HH.out.blt)
    · exact .inl hk
    · exact .inr (HH.out.t.2.lt k hk)
    · exact .inr hk)
  have C2 := Lib.hid (prfso_any w.heap.size (sdT p.s) a c ⟨Fs2, Ft, b1, b2, hx, rfl⟩ hr2 hn.1.size HSL.out)
  have HN := Lib.hid hn
  have c4' := hx.c4
  clear hc hs hF hr hr2 hx hn C c4
  go_wp2_with fail
  refine C2.out.mono ?_
  rintro e w3 ⟨r3, rfl, F3, hp3, hn3, hf3⟩
  have HP3 := Lib.hid hp3
  have HN3 := Lib.hid (HN.out.trans hn3)
  have HF3 := Lib.hid hf3
  clear hp3 hn3 hf3 C2
  go_wp2_with fail
  go_ret
  exact ⟨_, rfl, F3, HP3.out, HN3.out, HF3.out⟩
end
end Go.Proofs.YtdigjklhfimnbaaGreat
