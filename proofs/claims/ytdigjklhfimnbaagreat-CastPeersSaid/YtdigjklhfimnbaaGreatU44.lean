/- Texts Ya8 of this proof, in one. No conditions but on lengths. -/
import Derived.Test.YtdigjklhfimnbaaGreatRows
import Derived.Test.YtdigjklhfimnbaaGreatU30
import Derived.Test.YtdigjklhfimnbaaGreatU38
import Derived.ArgAppend
import Derived.Below
import Derived.BigQuiet
import Derived.BigRegion
import Derived.Calls
import Derived.ChangeAlike
import Derived.ChangeArms
import Derived.ChangeKeysEq
import Derived.ChangeMade
import Derived.ChangeOld
import Derived.Deep.Cut
import Derived.Deep.CutBlock
import Derived.Deep.LoopGhost
import Derived.Deep.QuietTactic
import Derived.Deep.RegionHeld
import Derived.Deep.RegionLaw
import Derived.Deep.RegionWith
import Derived.Deep.Slices
import Derived.Defers
import Derived.Ground.GgzProg
import Derived.Ground.Names2Prog
import Derived.Laws.AppendOwnNone
import Derived.Laws.BitsLemmas
import Derived.Laws.BytesArg
import Derived.Laws.LoneSync
import Derived.Laws.OwnMore
import Derived.Laws.Pointers
import Derived.Laws.StructEq
import Derived.Lib.ConvBytes
import Derived.Lib.Hide
import Derived.Lib.OwnBridge
import Derived.Lib.QuietBelow
import Derived.Lib.SliceRun
import Derived.Lib.SlicesCompact
import Derived.LoopIn
import Derived.LoopTactic
import Derived.Maps.AppendAt
import Derived.Maps.Own
import Derived.Maps.OwnOps
import Derived.Maps.OwnSet
import Derived.Maps.RangeWalk
import Derived.Maps.Views
import Derived.OpenShut
import Derived.Orders
import Derived.Outline
import Derived.OwnWalkIn
import Derived.ProofKit
import Derived.RangeFuncBox
import Derived.RangeFuncCalls
import Derived.RangeFuncLeaves
import Derived.RangeFuncNested
import Derived.RegionCalls
import Derived.RegionTactic
import Derived.Shelf.RegionOpen
import Derived.Shelf.RegionOpenPlain
import Derived.Shelf.SlIterI.Nil
import Derived.Shelf.Slices.CompactI
import Derived.Shelf.Slices.In.SortNone
import Derived.Shelf.Sort.Plain
import Derived.ShutString
import Derived.Sort.Grow
import Derived.StillTail
import Derived.TacticsInMore
import Derived.WalkKit
import Derived.WalkLawsBesides
import Derived.WalkSpells
import Derived.WideShapes
namespace Go.Proofs.YtdigjklhfimnbaaGreat
set_option maxRecDepth 100000
set_option linter.unusedVariables false
open Go.RowKit

theorem btso_at {w : World} {F : Nat → Prop} {a : Option Addr} {c : Nat} {l : List Bt} (h : BtsO w F (.slice a l.length c) l) {i : Nat} (hi : i < l.length) : ∃ b off u, a = some ⟨b, off, none⟩ ∧ l.length ≤ c ∧ w.cell? ⟨b, off + i * 2, none⟩ = some (.int .i64 (l.getD i zb).1) ∧ w.cell? ⟨b, off + i * 2 + 1, none⟩ = some u ∧ OsO w F u (l.getD i zb).2 := by
  rcases h with ⟨_, _, _, _, e⟩ | ⟨b, off, cap, h1, h2, _, _, h5⟩
  · rw [e] at hi; exact absurd hi (Nat.not_lt_zero i)
  · simp only [Value.slice.injEq] at h1
    obtain ⟨rfl, -, rfl⟩ := h1
    obtain ⟨k1, u, k2, _, k4⟩ := h5 i hi
    exact ⟨b, off, u, rfl, h2, k1, k2, k4⟩
/-- A part of a batch, laid down. -/
theorem btpart {w : World} {G : Nat → Prop} {ao : Option Addr} {lo co : Nat} {n : Int} {ys : List Ob} (h : OsO w G (.slice ao lo co) ys) : GC RP (w.alloc (.cells #[.int .i64 2, .int .i64 0, .slice none 0 0, .int .i64 n, .slice ao lo co, .slice none 0 0, .int .i64 0, .int .i64 0, .int .i64 0, .int .i64 0, .string ⟨#[]⟩] 148)) w.heap.size 0 ⟨2, 0, none, 0, 0, n, ao, lo, co, none, 0, 0, 0, 0, 0, 0, ⟨#[]⟩⟩ ∧ PtO (w.alloc (.cells #[.int .i64 2, .int .i64 0, .slice none 0 0, .int .i64 n, .slice ao lo co, .slice none 0 0, .int .i64 0, .int .i64 0, .int .i64 0, .int .i64 0, .string ⟨#[]⟩] 148)) G ⟨2, 0, none, 0, 0, n, ao, lo, co, none, 0, 0, 0, 0, 0, 0, ⟨#[]⟩⟩ (ptB (n, ys)) := by
  have hb : Below w.heap.size w (w.alloc (.cells #[.int .i64 2, .int .i64 0, .slice none 0 0, .int .i64 n, .slice ao lo co, .slice none 0 0, .int .i64 0, .int .i64 0, .int .i64 0, .int .i64 0, .string ⟨#[]⟩] 148)) := (Below.refl _ w).alloc (Nat.le_refl _) _
  refine ⟨gc_alloc RP w (⟨2, 0, none, 0, 0, n, ao, lo, co, none, 0, 0, 0, 0, 0, 0, ⟨#[]⟩⟩ : RPt) w.heap.size rfl 148, ⟨rfl, rfl, el_nil9 _, rfl, h.1.below hb, Gs_nil (R := RA) _, rfl, rfl, rfl, rfl, rfl⟩, rfl, fun hl x hx => ?_, fun h0 => absurd rfl h0⟩
  have hx2 : ao = some x := hx
  subst hx2
  have hne : ys ≠ [] := fun e => by
    obtain ⟨a, c, e2⟩ := h.1.form
    simp only [Value.slice.injEq] at e2
    have : lo = ys.length := e2.2.1
    rw [e] at this
    exact hl this
  obtain ⟨h1, cur, fz, h2⟩ := h.2 _ _ _ rfl hne
  exact ⟨Nat.lt_of_lt_of_le (some_lt h2) hb.size, h1⟩
set_option maxHeartbeats 8000000 in
theorem prclo_any (S : Nat) (G : Nat → Prop) (g : Nat) (u : Value) (ps : List Pt) (a : Option Addr) (c : Nat) (xs : List Bt) (w : World) (hg : w.cell? ⟨g, 0, none⟩ = some u) (hz : ∀ j, w.frozen? ⟨g, j, none⟩ = false) (hgG : G g) (hGlt : ∀ k, G k → k < w.heap.size) (hu : PaW w S G u ps) (hS : S ≤ w.heap.size) (hv : BtsO w (OwG G u) (.slice a xs.length c) xs) (hl : ps.length + xs.length ≤ 3000) : Calls Tryz.prog 121 #[.slice a xs.length c, .pointer (some ⟨g, 0, none⟩)] w fun e w' => ∃ r, e = .returned r ∧ PaW w' S G r (ps ++ xs.map ptB) ∧ w'.cell? ⟨g, 0, none⟩ = some (.slice none 0 0) ∧ (∀ j, w'.frozen? ⟨g, j, none⟩ = false) ∧ Chg (fun k => k = g ∨ u.ownBlock = some k) w w' ∧ ∀ k, r.ownBlock = some k → u.ownBlock = some k ∨ w.heap.size ≤ k := by
  obtain ⟨au, cu, rfl⟩ := hu.form
  obtain ⟨W1, hW1⟩ : ∃ W1, w.setCell ⟨g, 0, none⟩ (.slice none 0 0) = W1 := ⟨_, rfl⟩
  have hc1 : Chg (fun k => k = g) w W1 := hW1 ▸ Chg.setCell (F := fun k => k = g) (p := ⟨g, 0, none⟩) (Chg.refl _ w) (.inl rfl) _
  have HC1 : Hid (Chg (fun k => k = g ∨ (Value.slice au ps.length cu).ownBlock = some k) w W1) := hc1.mono (fun k _ hk => .inl hk)
  have HU1 : Hid (PaW W1 S G (.slice au ps.length cu) ps) := hu.nx ⟨hc1.mono (fun k _ hk => hk ▸ hgG), fun k hk => .inl hk⟩
  have HV : Hid (BtsO w (fun k => OwG G (.slice au ps.length cu) k ∨ w.heap.size ≤ k) (.slice a xs.length c) xs) := hv.to (fun k hk => hk)
  have HG1 : Hid (W1.cell? ⟨g, 0, none⟩ = some (.slice none 0 0)) := hW1 ▸ World.cell?_setCell_same _ _ _ hg
  have HZ1 : Hid (∀ j, W1.frozen? ⟨g, j, none⟩ = false) := fun j => by rw [← hW1]; have := hz j; simpa [go_sem] using this
  have HLT := Lib.hid hGlt
  have HGG : Hid (G g) := hgG
  have HSW : Hid (S ≤ w.heap.size) := hS
  have HUL : Hid (∀ k, (Value.slice au ps.length cu).ownBlock = some k → k < w.heap.size) := fun k hk => (hu.lt k hk).2
  have HL : Hid (ps.length + xs.length ≤ 3000) := hl
  have hf0 := hz 0
  have HW := Lib.hid hW1
  clear hc1 hu hv hW1 hz hgG hGlt hS hl
  go_enter Tryz.func121, Tryz.ntmps121
  go_upto_region 3 with (fail)
  rw [HW.out]
  clear hg hf0
  go_wp2_with fail
  go_loopw [4, 10] (fun v i wr => ∃ (k : Nat), k ≤ xs.length ∧ i = .int .i64 k ∧ PaW wr S G v (ps ++ (xs.take k).map ptB) ∧ wr.cell? ⟨g, 0, none⟩ = some (.slice none 0 0) ∧ (∀ j, wr.frozen? ⟨g, j, none⟩ = false) ∧ Chg (fun k => k = g ∨ (Value.slice au ps.length cu).ownBlock = some k) w wr ∧ ∀ k, v.ownBlock = some k → (Value.slice au ps.length cu).ownBlock = some k ∨ w.heap.size ≤ k) (fun _ i _ => xs.length - (intOf i).toNat)
  case atStart => exact ⟨0, Nat.zero_le _, rfl, by rw [List.take_zero, List.map_nil, List.append_nil]; exact HU1.out, HG1.out, HZ1.out, HC1.out, fun k hk => .inl hk⟩
  case round =>
    obtain ⟨k, hk, rfl, hrow, hcg, hfz, hc, hown⟩ := hrel
    have HR := Lib.hid hrow
    have HC := Lib.hid hc
    have HO := Lib.hid hown
    have HCG := Lib.hid hcg
    have HFZ := Lib.hid hfz
    obtain ⟨av, cv, rfl⟩ := hrow.form
    clear hrow hown hcg hfz
    by_cases hlt : k < xs.length
    · have hvr := HV.out.chg (hc.mono (fun x _ hx => .inl (hx.elim (fun e => .inl (e ▸ HGG.out)) .inr)))
      obtain ⟨bx, off, ub, rfl, hcap, x0, x1, ho⟩ := btso_at hvr hlt
      obtain ⟨⟨n, ys⟩, hx⟩ : ∃ x, xs.getD k zb = x := ⟨_, rfl⟩
      rw [hx] at x0 ho
      have HTK : Hid ((xs.take (k + 1)).map ptB = (xs.take k).map ptB ++ [ptB (n, ys)]) := by
        show _ = _
        rw [List.take_add_one, List.map_append]
        congr 1
        rw [← hx, List.getD_eq_getElem?_getD, List.getElem?_eq_getElem hlt]
        rfl
      obtain ⟨ao, co, rfl⟩ := ho.form
      dsimp only at x0 x1 ho
      obtain ⟨lo, hlo⟩ : ∃ l, ys.length = l := ⟨_, rfl⟩
      have hlo2 : ys.length = lo := hlo
      rw [hlo] at x1 ho
      have ho2 : OsO wr (OwG G (.slice av (ps ++ (xs.take k).map ptB).length cv)) (.slice ao lo co) ys := ho.mono (fun x hx => hx.elim (fun h => .inl (.inl h)) (fun h => (HO.out x h).imp .inr (fun e => e)))
      obtain ⟨V, hV⟩ : ∃ V, wr.alloc (.cells #[.int .i64 n, .slice ao lo co] 143) = V := ⟨_, rfl⟩
      obtain ⟨g1, hg1⟩ : ∃ g1, wr.heap.size = g1 := ⟨_, rfl⟩
      have hb : Below wr.heap.size wr V := hV ▸ (Below.refl _ wr).alloc (Nat.le_refl _) _
      obtain ⟨y0, y1⟩ : V.cell? ⟨g1, 0, none⟩ = some (.int .i64 n) ∧ V.cell? ⟨g1, 1, none⟩ = some (.slice ao lo co) := by
        rw [← hV, ← hg1]
        refine ⟨?_, ?_⟩ <;> simp
      obtain ⟨hgc, hpt⟩ := btpart (n := n) (ho2.below hb)
      have hb2 : Below V.heap.size V (V.alloc (.cells #[.int .i64 2, .int .i64 0, .slice none 0 0, .int .i64 n, .slice ao lo co, .slice none 0 0, .int .i64 0, .int .i64 0, .int .i64 0, .int .i64 0, .string ⟨#[]⟩] 148)) := (Below.refl _ V).alloc (Nat.le_refl _) _
      have hbb : Below wr.heap.size wr (V.alloc (.cells #[.int .i64 2, .int .i64 0, .slice none 0 0, .int .i64 n, .slice ao lo co, .slice none 0 0, .int .i64 0, .int .i64 0, .int .i64 0, .int .i64 0, .string ⟨#[]⟩] 148)) := hb.trans (hb2.mono hb.size)
      have hgl : ∀ x, G x → x < (V.alloc (.cells #[.int .i64 2, .int .i64 0, .slice none 0 0, .int .i64 n, .slice ao lo co, .slice none 0 0, .int .i64 0, .int .i64 0, .int .i64 0, .int .i64 0, .string ⟨#[]⟩] 148)).heap.size := fun x hx => by
        have h1 := HLT.out x hx
        have h2 := hc.size
        have h3 := hbb.size
        omega
      obtain ⟨a7, c7, W7, hrun, hr7, hg7, ho7⟩ := paw_app (HR.out.below hbb) _ _ _ hgc hpt (by have := HL.out; rw [List.length_append, List.length_map, List.length_take]; omega) (by have h1 := HSW.out; have h2 := hc.size; have h3 := hbb.size; omega) hgl 49
      have hgb : ∀ x, (Value.slice av (ps ++ (xs.take k).map ptB).length cv).ownBlock = some x → ¬ x = g := fun x hx e => by
        obtain ⟨rs, h1, h2, h3, h4⟩ := HR.out
        exact h3 x hx (e ▸ HGG.out)
      have HGB : Hid (W7.cell? ⟨g, 0, none⟩ = some (.slice none 0 0) ∧ ∀ j, W7.frozen? ⟨g, j, none⟩ = false) := by
        have hgs : g < wr.heap.size := Nat.lt_of_lt_of_le (HLT.out g HGG.out) hc.size
        have hn : ¬ (Value.slice av (ps ++ (xs.take k).map ptB).length cv).ownBlock = some g := fun h => hgb g h rfl
        have hgs2 := Nat.lt_of_lt_of_le hgs hbb.size
        exact ⟨((chg_grown hg7).cell hgs2 hn).trans ((hbb.cell (p := ⟨g, 0, none⟩) hgs).trans HCG.out), fun j => ((chg_grown hg7).frozen hgs2 hn).trans ((hbb.frozen (p := ⟨g, j, none⟩) hgs).trans (HFZ.out j))⟩
      have HC7 : Hid (Chg (fun k => k = g ∨ (Value.slice au ps.length cu).ownBlock = some k) w W7) := (hc.trans (chg0 hbb (F := fun _ => False)) (fun _ _ h => h.elim)).trans (chg_grown hg7) (fun x hx h => (HO.out x h).elim .inr (fun h2 => by omega))
      have HO7 : Hid (∀ k', (Value.slice a7 ((ps ++ (xs.take k).map ptB) ++ [ptB (n, ys)]).length c7).ownBlock = some k' → (Value.slice au ps.length cu).ownBlock = some k' ∨ w.heap.size ≤ k') := fun x hx => (ho7 x hx).elim (HO.out x) (fun h => .inr (by have h2 := hc.size; have h3 := hbb.size; omega))
      have HLE : Hid ((ps ++ (xs.take k).map ptB ++ [ptB (n, ys)]).length = ps.length + (k + 1)) := by show _ = _; rw [List.length_append, List.length_append, List.length_map, List.length_take]; have h9 : [ptB (n, ys)].length = 1 := rfl; omega
      have HR7 := Lib.hid hr7
      have HWV := Lib.hid hV
      have HGV := Lib.hid hg1
      have hk0 : (0 : Int) ≤ (k : Int) := by omega
      have hk1 : (k : Int) < (xs.length : Int) := by omega
      have hk9 : (xs.length : Int) ≤ 3000 := by have := HL.out; omega
      have hkn : ((k : Int)).toNat = k := Int.toNat_natCast k
      clear hr7 hg7 ho7 hgb hgl hbb hb2 hgc hpt hb ho ho2 hvr hc hx hV hg1 hlo hlo2
      go_upto_region 6 with (fail)
      rw [HWV.out]
      try simp only [HGV.out]
      clear x0 x1
      go_wp2_with (at_builtin; refine app_go rfl (.tmp 14) (.tmp 17) 49 rfl _ _ _ _ rfl rfl hrun ?_)
      go_roundw
      case rel => exact ⟨k + 1, hlt, by go_num, by rw [HTK.out, ← List.append_assoc]; have h9 := HR7.out; rw [HLE.out] at h9; exact h9, HGB.out.1, HGB.out.2, HC7.out, by have h9 := HO7.out; rw [HLE.out] at h9; exact h9⟩
      case measure => simp [intOf]; omega
    · have ek : k = xs.length := by omega
      have HR2 : Hid (PaW wr S G (.slice av (ps ++ (xs.take k).map ptB).length cv) (ps ++ xs.map ptB)) := by
        have h := HR.out
        show PaW _ _ _ _ _
        have e : ps ++ (xs.take k).map ptB = ps ++ xs.map ptB := by rw [ek, List.take_length]
        exact Eq.mp (congrArg (fun z => PaW wr S G (.slice av (ps ++ (xs.take k).map ptB).length cv) z) e) h
      clear hc hlt
      subst ek
      go_wp2_with fail
      go_ret
      exact ⟨_, rfl, HR2.out, HCG.out, HFZ.out, HC.out, HO.out⟩
end Go.Proofs.YtdigjklhfimnbaaGreat
