/- Texts Spg, Ya1, Ya2, Ya5 of this proof, in one. No conditions but on lengths. -/
import Derived.Test.YtdigjklhfimnbaaGreatRows
import Derived.Test.YtdigjklhfimnbaaGreatU24
import Derived.Test.YtdigjklhfimnbaaGreatU32
import Derived.Test.YtdigjklhfimnbaaGreatU33
import Derived.Test.YtdigjklhfimnbaaGreatU37
import Derived.ArgAppend
import Derived.Below
import Derived.BigQuiet
import Derived.BigRegion
import Derived.Calls
import Derived.ChangeAlike
import Derived.ChangeArms
import Derived.ChangeKeysEq
import Derived.ChangeMade
import Derived.ChangeOld
import Derived.Deep.Cut
import Derived.Deep.CutBlock
import Derived.Deep.LoopGhost
import Derived.Deep.QuietTactic
import Derived.Deep.RegionHeld
import Derived.Deep.RegionLaw
import Derived.Deep.RegionWith
import Derived.Deep.Slices
import Derived.Defers
import Derived.Ground.GgzProg
import Derived.Ground.Names2Prog
import Derived.Laws.AppendOwnNone
import Derived.Laws.BitsLemmas
import Derived.Laws.BytesArg
import Derived.Laws.LoneSync
import Derived.Laws.OwnMore
import Derived.Laws.Pointers
import Derived.Laws.StructEq
import Derived.Lib.ConvBytes
import Derived.Lib.Hide
import Derived.Lib.OwnBridge
import Derived.Lib.QuietBelow
import Derived.Lib.SliceRun
import Derived.Lib.SlicesCompact
import Derived.LoopIn
import Derived.LoopTactic
import Derived.Maps.AppendAt
import Derived.Maps.Own
import Derived.Maps.OwnOps
import Derived.Maps.OwnSet
import Derived.Maps.RangeWalk
import Derived.Maps.Views
import Derived.OpenShut
import Derived.Orders
import Derived.Outline
import Derived.OwnWalkIn
import Derived.ProofKit
import Derived.RangeFuncBox
import Derived.RangeFuncCalls
import Derived.RangeFuncLeaves
import Derived.RangeFuncNested
import Derived.RegionCalls
import Derived.RegionTactic
import Derived.Shelf.RegionOpen
import Derived.Shelf.RegionOpenPlain
import Derived.Shelf.SlIterI.Nil
import Derived.Shelf.Slices.CompactI
import Derived.Shelf.Slices.In.SortNone
import Derived.Shelf.Sort.Plain
import Derived.ShutString
import Derived.Sort.Grow
import Derived.StillTail
import Derived.TacticsInMore
import Derived.WalkKit
import Derived.WalkLawsBesides
import Derived.WalkSpells
import Derived.WideShapes
namespace Go.Proofs.YtdigjklhfimnbaaGreat
set_option maxRecDepth 100000
set_option linter.unusedVariables false
open Go.RowKit

theorem own_oso {w : World} {S : Nat} {G : Nat → Prop} {u : Value} {ys : List Ob} (h : OwO w S u ys) (hG : ∀ k, G k → k < S) : OsO w G u ys := ⟨h.os, fun a n c e _ => by
  have hb : u.ownBlock = some a.block := by rw [e]; rfl
  refine ⟨fun hg => ?_, own_blk h hb⟩
  have h1 := (World.ownsRow.lt h a.block hb).1
  have h2 := hG _ hg
  omega⟩
theorem rowb_btso {w : World} {S : Nat} {G : Nat → Prop} {r : Value} {bs : List Bt} (h : RowB w S r bs) (hG : ∀ k, G k → k < S) : BtsO w G r bs := by
  obtain ⟨vs, k1, k2, k3⟩ := h
  rcases k2.2 with ⟨h4, h5⟩ | ⟨g, cap, cur, h4, hb, hg, hnc, _, hcs, htake⟩
  · exact .inl ⟨none, 0, by rw [h4], fun _ => rfl, List.eq_nil_of_length_eq_zero h5⟩
  · refine .inr ⟨g, 0, cap, h4, hnc, some_lt hg, fun hf => by have := hG _ hf; omega, fun i hi => ?_⟩
    have hc : ∀ j, j < 2 → w.cell? ⟨g, 0 + i * 2 + j, none⟩ = (c2 (vs.getD i zv))[j]? := fun j hj => by
      rw [cell_of_row w g _ cur 143 (0, 0) hg, Nat.zero_add, ← flat2_at vs i j (by omega) hj, ← htake, List.getElem?_take, if_pos (by omega)]
      simp
    have e0 := hc 0 (by decide)
    have e1 := hc 1 (by decide)
    obtain ⟨q1, q2⟩ := k3 i hi
    refine ⟨by rw [← q1]; exact e0, (vs.getD i zv).2, e1, ?_, own_oso q2 hG⟩
    obtain ⟨a, c, e⟩ := own_form q2
    rw [e]
    rfl
theorem dc : Dc PS where
  lt := fun {w F b s} h k hk => by
    obtain ⟨_, Z, vW, vO, h⟩ := h
    exact h.lt k hk
  ok := fun {w F b s} h => h.1
  keep := fun {w w' F G b s} h hc hG => by
    obtain ⟨h0, Z, vW, vO, h⟩ := h
    exact ⟨h0, Z, vW, vO, h.keep hc hG⟩
  new := pnew_any
  push := fun {w F b s} y h => by
    obtain ⟨h0, Z, vW, vO, h⟩ := h
    refine (ppush_any y h h0.wl).mono ?_
    rintro e w' ⟨h1, h2, F', vW', h3, h4⟩
    exact ⟨h1, h2, F', ⟨sdok_push h0 y, Z, vW', vO, h3⟩, h4⟩
  send := fun {w F b s} h => by
    obtain ⟨h0, Z, vW, vO, h⟩ := h
    refine (psend_any h h0).mono ?_
    rintro e w' ⟨r, S, h1, h2, h3, h4, F', Z', vW', vO', h5, h6, h7⟩
    exact ⟨r, h1, h2, F', ⟨sdok_send h0, Z', vW', vO', h5⟩, h6, rowb_btso h4 (fun k hk => hk.elim (h7 k) (fun h => by omega))⟩
  again := fun {w F b s} h => by
    obtain ⟨h0, Z, vW, vO, h⟩ := h
    refine (pagain_any h h0).mono ?_
    rintro e w' ⟨r, h1, h2, ⟨Z', h3⟩, h4⟩
    exact ⟨r, h1, h2, F, ⟨sdok_again h0, Z', vW, vO, h3⟩, fun k hk => .inl hk, rowb_btso h4 (fun k hk => h.lt k hk)⟩
  got := fun {w F b s} a h => by
    obtain ⟨h0, Z, vW, vO, h⟩ := h
    refine (pgot_any a.1 a.2.1 a.2.2.1 a.2.2.2 h h0).mono ?_
    rintro e w' ⟨h1, h2, F', Z', vO', h3, h4⟩
    exact ⟨h1, h2, F', ⟨sdok_got h0 a, Z', vW, vO', h3⟩, h4⟩
  wait := fun {w F b s} h => by
    obtain ⟨h0, Z, vW, vO, h⟩ := h
    refine (pwait_any h (Nat.le_trans h0.wl (by decide))).mono ?_
    rintro e w' ⟨⟨a, c, h1, h2⟩, h3⟩
    exact ⟨_, h1, chg0 h3, F, ⟨h0, Z, vW, vO, h.below h3⟩, fun k hk => .inl hk, own_oso h2 (fun k hk => hk.elim (h.lt k) (fun h => h))⟩
  out := fun {w F b s} h => by
    obtain ⟨h0, Z, vW, vO, h⟩ := h
    refine (pout_any h h0).mono ?_
    rintro e w' ⟨⟨a, c, h1, h2⟩, h3⟩
    exact ⟨_, h1, chg0 h3, F, ⟨h0, Z, vW, vO, h.below h3⟩, fun k hk => .inl hk, rowb_btso h2 (h.lt)⟩
  pushN := push_nil
  sendN := send_nil
  againN := again_nil
  gotN := got_nil
  waitN := wait_nil
  outN := out_nil
end Go.Proofs.YtdigjklhfimnbaaGreat
namespace Go.Proofs.YtdigjklhfimnbaaGreat
set_option maxRecDepth 100000
set_option linter.unusedVariables false
open Go.RowKit

open Go.WideShapes Go.ChangeShapes
/-- What may have turned from w to w', and what is one's own then. -/
def Nx (w w' : World) (G G' : Nat → Prop) : Prop := Chg G w w' ∧ ∀ k, G' k → G k ∨ w.heap.size ≤ k
theorem Nx.refl (w : World) (G : Nat → Prop) : Nx w w G G := ⟨Chg.refl _ _, fun k hk => .inl hk⟩
theorem Nx.below {w w' : World} {G : Nat → Prop} (hb : Below w.heap.size w w') : Nx w w' G G := ⟨chg0 hb, fun k hk => .inl hk⟩
theorem Nx.trans {w w' w'' : World} {G G' G'' : Nat → Prop} (h : Nx w w' G G') (k : Nx w' w'' G' G'') : Nx w w'' G G'' :=
  ⟨h.1.trans k.1 (fun x hx hg => (h.2 x hg).elim (fun h => h) (fun h => by omega)), fun x hx => (k.2 x hx).elim (h.2 x) (fun h2 => .inr (by have := h.1.size; omega))⟩
/-- .. where more is known to have been kept. -/
theorem Nx.or {w w' : World} {G G' H : Nat → Prop} (h : Nx w w' G G') : Nx w w' (fun k => G k ∨ H k) (fun k => G' k ∨ H k) :=
  ⟨h.1.mono (fun _ _ e => .inl e), fun k hk => hk.elim (fun h1 => (h.2 k h1).imp .inl (fun e => e)) (fun h1 => .inl (.inr h1))⟩
section
variable {R : RowT} {w w' : World} {G G' : Nat → Prop} {v : Value}
theorem Gs.chg {ys : List R.α} (h : Gs R w v ys) (hc : Chg G w w') (hv : ∀ a n c, v = .slice (some a) n c → ys ≠ [] → ¬ G a.block) : Gs R w' v ys := by
  by_cases hn : ys = []
  · subst hn
    rcases h with h | ⟨b, off, cap, rfl, h2, h3, _⟩
    · exact .inl h
    · exact .inl ⟨some ⟨b, off, none⟩, cap, rfl, (fun e => nomatch e), rfl⟩
  · rcases h with h | ⟨b, off, cap, rfl, h2, h3, h4⟩
    · exact .inl h
    · exact .inr ⟨b, off, cap, rfl, h2, Nat.lt_of_lt_of_le h3 hc.size, fun i hi j hj => (hc.cell h3 (hv _ _ _ rfl hn)).trans (h4 i hi j hj)⟩
/-- A slice that lies in memory, off the blocks of G, if it is not empty. -/
def Off (w : World) (G : Nat → Prop) (a : Option Addr) (l : Nat) : Prop := l ≠ 0 → ∀ x, a = some x → x.block < w.heap.size ∧ ¬ G x.block
theorem Off.nx {a : Option Addr} {l : Nat} (h : Off w G a l) (hn : Nx w w' G G') : Off w' G' a l := fun hl x hx => by
  obtain ⟨h1, h2⟩ := h hl x hx
  exact ⟨Nat.lt_of_lt_of_le h1 hn.1.size, fun hg => (hn.2 _ hg).elim h2 (fun h3 => by omega)⟩
theorem Off.mono {H : Nat → Prop} {a : Option Addr} {l : Nat} (h : Off w G a l) (hG : ∀ k, k < w.heap.size → H k → G k) : Off w H a l := fun hl x hx => ⟨(h hl x hx).1, fun hh => (h hl x hx).2 (hG _ (h hl x hx).1 hh)⟩
end
/-- A part's slices lie off the blocks of G. -/
structure PtO (w : World) (G : Nat → Prop) (r : RPt) (p : Pt) : Prop where
  rd : r.Rd w p
  e1 : r.a1 = none
  o2 : Off w G r.a2 r.l2
  o3 : Off w G r.a3 r.l3
section
variable {w w' : World} {G G' : Nat → Prop} {r : RPt} {p : Pt}
theorem el_nil9 (w : World) : El w (.slice none 0 0) [] := ⟨Gs_nil (R := RE) w, fun b off len cap e i hi => absurd hi (Nat.not_lt_zero i)⟩
theorem el_none (w w' : World) {l c : Nat} {es : List (Int × Int)} (h : El w (.slice none l c) es) : El w' (.slice none l c) es := by
  have hl : l = es.length := by
    obtain ⟨a, c, e⟩ := h.1.form; simp only [Value.slice.injEq] at e; exact e.2.1
  have h0 : es = [] := by
    rcases h.1 with ⟨a, cap, _, _, e2⟩ | ⟨b, off, cap, e, _⟩
    · exact e2
    · simp at e
  have hc : c = 0 := by
    rcases h.1 with ⟨a, cap, e, e1, e2⟩ | ⟨b, off, cap, e, _⟩
    · simp only [Value.slice.injEq] at e
      obtain ⟨rfl, -, rfl⟩ := e
      exact e1 rfl
    · simp at e
  subst h0
  subst hc
  subst hl
  exact el_nil9 w'
theorem PtO.nx (h : PtO w G r p) (hn : Nx w w' G G') : PtO w' G' r p := by
  have h2 : Os w' (.slice r.a2 r.l2 r.c2) p.os := h.rd.os.chg hn.1 (fun a n c e hne => by
    simp only [Value.slice.injEq] at e
    refine (h.o2 (fun h0 => hne ?_) a e.1).2
    rw [h.rd.l2] at h0
    exact List.eq_nil_of_length_eq_zero h0)
  have h3 : As w' (.slice r.a3 r.l3 r.c3) p.ks := Gs.chg (R := RA) h.rd.ks hn.1 (fun a n c e hne => by
    simp only [Value.slice.injEq] at e
    refine (h.o3 (fun h0 => hne ?_) a e.1).2
    rw [h.rd.l3] at h0
    exact List.eq_nil_of_length_eq_zero h0)
  have h1 : El w' (.slice r.a1 r.l1 r.c1) p.es := by
    have := h.rd.es
    rw [h.e1] at this ⊢
    exact el_none w w' this
  exact ⟨⟨h.rd.k, h.rd.be, h1, h.rd.bn, h2, h3, h.rd.s, h.rd.d, h.rd.t, h.rd.n, h.rd.x⟩, h.e1, h.o2.nx hn, h.o3.nx hn⟩
theorem PtO.mono {H : Nat → Prop} (h : PtO w G r p) (hG : ∀ k, k < w.heap.size → H k → G k) : PtO w H r p := ⟨h.rd, h.e1, h.o2.mono hG, h.o3.mono hG⟩
end
/-- A slice of parts, off the blocks of G, their slices too. -/
def PaO (w : World) (G : Nat → Prop) (a : Option Addr) (c : Nat) (ps : List Pt) : Prop := ∃ rs : List RPt, rs.length = ps.length ∧ Gs RP w (.slice a ps.length c) rs ∧ Off w G a ps.length ∧ ∀ i, i < ps.length → PtO w G (rs.getD i zR) (ps.getD i zPt)
section
variable {w w' : World} {G G' : Nat → Prop} {a : Option Addr} {c : Nat} {ps : List Pt}
theorem PaO.nx (h : PaO w G a c ps) (hn : Nx w w' G G') : PaO w' G' a c ps := by
  obtain ⟨rs, h1, h2, h3, h4⟩ := h
  refine ⟨rs, h1, Gs.chg (R := RP) h2 hn.1 (fun x n c e hne => ?_), h3.nx hn, fun i hi => (h4 i hi).nx hn⟩
  simp only [Value.slice.injEq] at e
  refine (h3 (fun h0 => hne ?_) x e.1).2
  rw [← h1] at h0
  exact List.eq_nil_of_length_eq_zero h0
theorem PaO.mono {H : Nat → Prop} (h : PaO w G a c ps) (hG : ∀ k, k < w.heap.size → H k → G k) : PaO w H a c ps := by
  obtain ⟨rs, h1, h2, h3, h4⟩ := h
  exact ⟨rs, h1, h2, h3.mono hG, fun i hi => (h4 i hi).mono hG⟩
theorem PaO.below (h : PaO w G a c ps) (hb : Below w.heap.size w w') : PaO w' G a c ps := h.nx (.below hb)
theorem PaO.rd (h : PaO w G a c ps) : Ps w (.slice a ps.length c) ps := by
  obtain ⟨rs, h1, h2, h3, h4⟩ := h
  exact ⟨rs, h1, h2, fun i hi => (h4 i hi).rd⟩
theorem PaO.nil (w : World) (G : Nat → Prop) : PaO w G none 0 [] := ⟨[], rfl, Gs_nil (R := RP) w, fun h => absurd rfl h, fun i hi => absurd hi (Nat.not_lt_zero i)⟩
theorem PaO.at (h : PaO w G a c ps) {i : Nat} (hi : i < ps.length) : ∃ b off r, a = some ⟨b, off, none⟩ ∧ b < w.heap.size ∧ ¬ G b ∧ C11 w b (off + i * 11) r ∧ PtO w G r (ps.getD i zPt) := by
  obtain ⟨rs, h1, h2, h3, h4⟩ := h
  rw [← h1] at h2
  have hi' : i < rs.length := by omega
  obtain ⟨b, off, e, hb, hc⟩ := Gs.at (R := RP) h2 (i := i) hi'
  exact ⟨b, off, rs.getD i zR, e, hb, (h3 (by omega) _ e).2, c11_of hc, h4 i hi⟩
end
/-- A row of parts of one's own, off the blocks of G, what its parts have off these and off the row. -/
def OwG (G : Nat → Prop) (v : Value) : Nat → Prop := fun k => G k ∨ v.ownBlock = some k
def PaW (w : World) (S : Nat) (G : Nat → Prop) (v : Value) (ps : List Pt) : Prop := ∃ rs : List RPt, rs.length = ps.length ∧ w.ownsRow S 148 11 v rs.length (gflat RP rs) ∧ (∀ g, v.ownBlock = some g → ¬ G g) ∧ ∀ i, i < ps.length → PtO w (OwG G v) (rs.getD i zR) (ps.getD i zPt)
section
variable {w w' : World} {S : Nat} {G G' : Nat → Prop} {v : Value} {ps : List Pt}
theorem nx_own {S n size : Nat} {T : TypeId} {xs : List Value} (hn : Nx w w' G G') (h : w.ownsRow S T size v n xs) (hv : ∀ g, v.ownBlock = some g → ¬ G g) : w'.ownsRow S T size v n xs ∧ (∀ g, v.ownBlock = some g → ¬ G' g) ∧ Nx w w' (OwG G v) (OwG G' v) :=
  ⟨own_chg h hn.1 hv, fun g hg hk => (hn.2 g hk).elim (hv g hg) (fun h2 => by have := (World.ownsRow.lt h g hg).2; omega), hn.or⟩
theorem PaW.nx (h : PaW w S G v ps) (hn : Nx w w' G G') : PaW w' S G' v ps := by
  obtain ⟨rs, h1, h2, h3, h4⟩ := h
  obtain ⟨k1, k2, k3⟩ := nx_own hn h2 h3
  exact ⟨rs, h1, k1, k2, fun i hi => (h4 i hi).nx k3⟩
theorem PaW.below (h : PaW w S G v ps) (hb : Below w.heap.size w w') : PaW w' S G v ps := h.nx (.below hb)
theorem PaW.nil (w : World) (S : Nat) (G : Nat → Prop) : PaW w S G (.slice none 0 0) [] := ⟨[], rfl, gown_nil (R := RP) w S, (fun g h => by cases h), fun i hi => absurd hi (Nat.not_lt_zero i)⟩
theorem PaW.form (h : PaW w S G v ps) : ∃ a c, v = .slice a ps.length c := by
  obtain ⟨rs, h1, h2, _⟩ := h
  obtain ⟨a, c, e⟩ := gown_form h2
  exact ⟨a, c, by rw [e]; exact congrArg (fun n => Value.slice a n c) h1⟩
theorem PaW.lt (h : PaW w S G v ps) : ∀ g, v.ownBlock = some g → S ≤ g ∧ g < w.heap.size := by
  obtain ⟨rs, h1, h2, _⟩ := h
  exact World.ownsRow.lt h2
theorem PaW.mono {H : Nat → Prop} {B : Nat} (h : PaW w S G v ps) (hB : B ≤ S) (hG : ∀ k, k < w.heap.size → H k → G k) : PaW w B H v ps := by
  obtain ⟨rs, h1, h2, h3, h4⟩ := h
  have hl := World.ownsRow.lt h2
  exact ⟨rs, h1, gown_mono h2 hB, fun g hg hh => h3 g hg (hG g (hl g hg).2 hh), fun i hi => (h4 i hi).mono (fun k hk hh => hh.imp (hG k hk) (fun e => e))⟩
theorem PaW.pao {a : Option Addr} {c : Nat} (h : PaW w S G (.slice a ps.length c) ps) : PaO w G a c ps := by
  obtain ⟨rs, h1, h2, h3, h4⟩ := h
  have hg := (Gs_of_own (R := RP) h2).1
  refine ⟨rs, h1, hg, fun hl x hx => ?_, fun i hi => (h4 i hi).mono (fun k _ hk => .inl hk)⟩
  subst hx
  rcases h2.2 with ⟨h5, h6⟩ | ⟨g, cap, cur, h5, k1, k2, k3, k4, _⟩
  · simp at h5
  · simp only [Value.slice.injEq, Option.some.injEq] at h5
    obtain ⟨rfl, -, rfl⟩ := h5
    exact ⟨some_lt k2, h3 g rfl⟩
/-- One part more. -/
theorem paw_app (h : PaW w S G v ps) (r : RPt) (p : Pt) (b : Nat) (hb : GC RP w b 0 r) (hr : PtO w (OwG G v) r p) (hl : ps.length ≤ 3000) (hS : S ≤ w.heap.size) (hG : ∀ k, G k → k < w.heap.size) (tt : TypeId) : ∃ a c w', (Builtin.append_ #[49, 49] tt #[v, .slice (some ⟨b, 0, none⟩) 1 1]).run Tryz.prog w = .ok (.slice a (ps ++ [p]).length c) w' ∧ PaW w' S G (.slice a (ps ++ [p]).length c) (ps ++ [p]) ∧ w.grownBy w' v.ownBlock ∧ ∀ g, (Value.slice a (ps ++ [p]).length c).ownBlock = some g → v.ownBlock = some g ∨ w.heap.size ≤ g := by
  obtain ⟨rs, h1, h2, h3, h4⟩ := h
  obtain ⟨g, cap, w', hrun, ho, hg, _, hgg⟩ := run_gappr (R := RP) w S v rs h2 b r hb (by show rs.length ≤ _; omega) hS (ty := tt)
  have e : (ps ++ [p]).length = rs.length + 1 := by rw [List.length_append, h1]; rfl
  have hnx : Nx w w' (OwG G v) (OwG G (.slice (some ⟨g, 0, none⟩) (ps ++ [p]).length cap)) := ⟨(chg_grown hg).mono (fun k _ hk => .inr hk), fun k hk => by
    rcases hk with hk | hk
    · exact .inl (.inl hk)
    · cases hk
      exact hgg.imp .inr (fun e => e)⟩
  refine ⟨some ⟨g, 0, none⟩, cap, w', by rw [e]; exact hrun, ⟨rs ++ [r], by rw [List.length_append, List.length_append, h1]; rfl, ?_, fun k hk hG9 => ?_, fun i hi => ?_⟩, hg, fun k hk => by cases hk; exact hgg⟩
  · have ho2 : w'.ownsRow S 148 11 (.slice (some ⟨g, 0, none⟩) (rs.length + 1) cap) (rs ++ [r]).length (gflat RP (rs ++ [r])) := ho
    rw [← e] at ho2
    exact ho2
  · cases hk
    rcases hgg with h5 | h5
    · exact h3 g h5 hG9
    · have := hG g hG9; omega
  · by_cases hi2 : i < ps.length
    · rw [show (rs ++ [r]).getD i zR = rs.getD i zR by simp [List.getD, List.getElem?_append, h1, hi2], show (ps ++ [p]).getD i zPt = ps.getD i zPt by simp [List.getD, List.getElem?_append, hi2]]
      exact (h4 i hi2).nx hnx
    · have : i = ps.length := by rw [List.length_append] at hi; have h9 : [p].length = 1 := rfl; omega
      subst this
      rw [show (rs ++ [r]).getD ps.length zR = r by simp [List.getD, h1], show (ps ++ [p]).getD ps.length zPt = p by simp [List.getD]]
      exact hr.nx hnx
end
/-- A frame's cells. -/
structure RFc where
  f1 : Int
  f2 : Int
  f3 : Int
  f4 : Int
  a : Option Addr
  l : Nat
  c : Nat
def zF : RFc := ⟨0, 0, 0, 0, none, 0, 0⟩
def RFc.cl (r : RFc) : List Value := [  .int .i64 r.f1, .int .i64 r.f2, .int .i64 r.f3, .int .i64 r.f4, .slice r.a r.l r.c]
theorem infoFR : (Tryz.prog.info? 51).map (fun i => (i.zero, i.size, i.bytes)) = some (some (.agg #[.int .i64 0, .int .i64 0, .int .i64 0, .int .i64 0, .slice none 0 0]), 5, 56) := by kernel_rfl
theorem underFS : Tryz.prog.underlying 32 = some (.slice 51) := by kernel_rfl
theorem cellsFR : Tryz.prog.cellsOf 51 = 5 := by kernel_rfl
theorem rfc_ones (r : RFc) : ∀ u ∈ r.cl, u.oneCell' = true := by
  intro u hu
  simp only [RFc.cl, List.mem_cons, List.not_mem_nil, or_false] at hu
  rcases hu with rfl | rfl | rfl | rfl | rfl <;> rfl
noncomputable def RFR : RowT where
  α := RFc
  d := zF
  cl := RFc.cl
  K := 5
  T := 51
  SL := 32
  zero := .agg #[.int .i64 0, .int .i64 0, .int .i64 0, .int .i64 0, .slice none 0 0]
  bytes := 56
  hcl := fun _ => rfl
  hK := by decide
  hone := rfc_ones
  hSL := underFS
  hinfo := infoFR
  hz := rfl
  hb := by decide
  hc := cellsFR
abbrev Hd4 := Int × Int × Int × Int
def RFc.hd (r : RFc) : Hd4 := (r.f1, r.f2, r.f3, r.f4)
/-- A frame, its parts off the blocks of G. -/
structure FrO (w : World) (G : Nat → Prop) (r : RFc) (h : Hd4) (ps : List Pt) : Prop where
  hd : r.hd = h
  l : r.l = ps.length
  pa : PaO w G r.a r.c ps
theorem FrO.nx {w w' : World} {G G' : Nat → Prop} {r : RFc} {h : Hd4} {ps : List Pt} (x : FrO w G r h ps) (hn : Nx w w' G G') : FrO w' G' r h ps := ⟨x.hd, x.l, x.pa.nx hn⟩
theorem FrO.mono {w : World} {G H : Nat → Prop} {r : RFc} {h : Hd4} {ps : List Pt} (x : FrO w G r h ps) (hG : ∀ k, k < w.heap.size → H k → G k) : FrO w H r h ps := ⟨x.hd, x.l, x.pa.mono hG⟩
/-- A row of frames of one's own, off the blocks of G, what its frames have off these and off the row. -/
def FrW (w : World) (S : Nat) (G : Nat → Prop) (v : Value) (h : Hd4) (fs : List (List Pt)) : Prop := ∃ rs : List RFc, rs.length = fs.length ∧ w.ownsRow S 51 5 v rs.length (gflat RFR rs) ∧ (∀ g, v.ownBlock = some g → ¬ G g) ∧ ∀ i, i < fs.length → FrO w (OwG G v) (rs.getD i zF) h (fs.getD i [])
section
variable {w w' : World} {S : Nat} {G G' : Nat → Prop} {v : Value} {h : Hd4} {fs : List (List Pt)}
theorem FrW.nx (x : FrW w S G v h fs) (hn : Nx w w' G G') : FrW w' S G' v h fs := by
  obtain ⟨rs, h1, h2, h3, h4⟩ := x
  obtain ⟨k1, k2, k3⟩ := nx_own hn h2 h3
  exact ⟨rs, h1, k1, k2, fun i hi => (h4 i hi).nx k3⟩
theorem FrW.below (x : FrW w S G v h fs) (hb : Below w.heap.size w w') : FrW w' S G v h fs := x.nx (.below hb)
theorem FrW.nil (w : World) (S : Nat) (G : Nat → Prop) (h : Hd4) : FrW w S G (.slice none 0 0) h [] := ⟨[], rfl, gown_nil (R := RFR) w S, (fun g h => by cases h), fun i hi => absurd hi (Nat.not_lt_zero i)⟩
theorem FrW.form (x : FrW w S G v h fs) : ∃ a c, v = .slice a fs.length c := by
  obtain ⟨rs, h1, h2, _⟩ := x
  obtain ⟨a, c, e⟩ := gown_form h2
  exact ⟨a, c, by rw [e]; exact congrArg (fun n => Value.slice a n c) h1⟩
theorem FrW.lt (x : FrW w S G v h fs) : ∀ g, v.ownBlock = some g → S ≤ g ∧ g < w.heap.size := by
  obtain ⟨rs, h1, h2, _⟩ := x
  exact World.ownsRow.lt h2
theorem FrW.off (x : FrW w S G v h fs) : ∀ g, v.ownBlock = some g → ¬ G g := by
  obtain ⟨rs, h1, h2, h3, _⟩ := x
  exact h3
theorem FrW.mono {H : Nat → Prop} {B : Nat} (x : FrW w S G v h fs) (hB : B ≤ S) (hG : ∀ k, k < w.heap.size → H k → G k) : FrW w B H v h fs := by
  obtain ⟨rs, h1, h2, h3, h4⟩ := x
  have hl := World.ownsRow.lt h2
  exact ⟨rs, h1, gown_mono h2 hB, fun g hg hh => h3 g hg (hG g (hl g hg).2 hh), fun i hi => (h4 i hi).mono (fun k hk hh => hh.imp (hG k hk) (fun e => e))⟩
theorem FrW.at {a : Option Addr} {c : Nat} (x : FrW w S G (.slice a fs.length c) h fs) {i : Nat} (hi : i < fs.length) : ∃ b a' c', a = some ⟨b, 0, none⟩ ∧ fs.length ≤ c ∧ b < w.heap.size ∧ ¬ G b ∧ (w.cell? ⟨b, 0 + i * 5, none⟩ = some (.int .i64 h.1) ∧ w.cell? ⟨b, 0 + i * 5 + 1, none⟩ = some (.int .i64 h.2.1) ∧ w.cell? ⟨b, 0 + i * 5 + 2, none⟩ = some (.int .i64 h.2.2.1) ∧ w.cell? ⟨b, 0 + i * 5 + 3, none⟩ = some (.int .i64 h.2.2.2) ∧ w.cell? ⟨b, 0 + i * 5 + 4, none⟩ = some (.slice a' (fs.getD i []).length c')) ∧ PaO w G a' c' (fs.getD i []) := by
  obtain ⟨rs, h1, h2, h3, h4⟩ := x
  have hgs := (Gs_of_own (R := RFR) h2).1
  rw [← h1] at hgs
  obtain ⟨b, off, e, hb, hc⟩ := Gs.at (R := RFR) hgs (i := i) (show i < rs.length by omega)
  obtain ⟨q1, q2, q3⟩ := h4 i hi
  rcases h2.2 with ⟨h5, h6⟩ | ⟨g, cap, cur, h5, k1, k2, k3, k4, _⟩
  · have h7 : rs.length = 0 := h6
    omega
  · simp only [Value.slice.injEq] at h5
    obtain ⟨rfl, -, rfl⟩ := h5
    cases e
    have hcap : fs.length ≤ c := by have h8 : rs.length ≤ c := k3; omega
    subst q1
    refine ⟨b, (rs.getD i zF).a, (rs.getD i zF).c, rfl, hcap, hb, h3 b rfl, ⟨hc 0 (by decide), hc 1 (by decide), hc 2 (by decide), hc 3 (by decide), ?_⟩, q3.mono (fun k _ hk => .inl hk)⟩
    rw [← q2]
    exact hc 4 (by decide)
/-- One frame more. -/
theorem frw_app (x : FrW w S G v h fs) (r : RFc) (ps : List Pt) (b : Nat) (hb : GC RFR w b 0 r) (hr : FrO w (OwG G v) r h ps) (hl : fs.length ≤ 3000) (hS : S ≤ w.heap.size) (hG : ∀ k, G k → k < w.heap.size) (tt : TypeId) : ∃ a c w', (Builtin.append_ #[32, 32] tt #[v, .slice (some ⟨b, 0, none⟩) 1 1]).run Tryz.prog w = .ok (.slice a (fs ++ [ps]).length c) w' ∧ FrW w' S G (.slice a (fs ++ [ps]).length c) h (fs ++ [ps]) ∧ w.grownBy w' v.ownBlock ∧ ∀ g, (Value.slice a (fs ++ [ps]).length c).ownBlock = some g → v.ownBlock = some g ∨ w.heap.size ≤ g := by
  obtain ⟨rs, h1, h2, h3, h4⟩ := x
  obtain ⟨g, cap, w', hrun, ho, hg, _, hgg⟩ := run_gappr (R := RFR) w S v rs h2 b r hb (by show rs.length ≤ _; omega) hS (ty := tt)
  have e : (fs ++ [ps]).length = rs.length + 1 := by rw [List.length_append, h1]; rfl
  have hnx : Nx w w' (OwG G v) (OwG G (.slice (some ⟨g, 0, none⟩) (fs ++ [ps]).length cap)) := ⟨(chg_grown hg).mono (fun k _ hk => .inr hk), fun k hk => by
    rcases hk with hk | hk
    · exact .inl (.inl hk)
    · cases hk
      exact hgg.imp .inr (fun e => e)⟩
  refine ⟨some ⟨g, 0, none⟩, cap, w', by rw [e]; exact hrun, ⟨rs ++ [r], by rw [List.length_append, List.length_append, h1]; rfl, ?_, fun k hk hG9 => ?_, fun i hi => ?_⟩, hg, fun k hk => by cases hk; exact hgg⟩
  · have ho2 : w'.ownsRow S 51 5 (.slice (some ⟨g, 0, none⟩) (rs.length + 1) cap) (rs ++ [r]).length (gflat RFR (rs ++ [r])) := ho
    rw [← e] at ho2
    exact ho2
  · cases hk
    rcases hgg with h5 | h5
    · exact h3 g h5 hG9
    · have := hG g hG9; omega
  · by_cases hi2 : i < fs.length
    · rw [show (rs ++ [r]).getD i zF = rs.getD i zF by simp [List.getD, List.getElem?_append, h1, hi2], show (fs ++ [ps]).getD i [] = fs.getD i [] by simp [List.getD, List.getElem?_append, hi2]]
      exact (h4 i hi2).nx hnx
    · have : i = fs.length := by rw [List.length_append] at hi; have h9 : [ps].length = 1 := rfl; omega
      subst this
      rw [show (rs ++ [r]).getD fs.length zF = r by simp [List.getD, h1], show (fs ++ [ps]).getD fs.length [] = ps by simp [List.getD]]
      exact hr.nx hnx
end
end Go.Proofs.YtdigjklhfimnbaaGreat
namespace Go.Proofs.YtdigjklhfimnbaaGreat
set_option maxRecDepth 100000
set_option linter.unusedVariables false
open Go.RowKit

abbrev Nd := Int × Int
def NdOk (n : Nd) : Prop := (0 ≤ n.1 ∧ n.1 < 64) ∧ EpOk n.2
instance (n : Nd) : Decidable (NdOk n) := by unfold NdOk EpOk; infer_instance
theorem ndok_iff (n : Nd) : NdOk n ↔ BeOk 0 [n] := by
  constructor
  · intro h
    refine ⟨fun i hi => ?_, by unfold EpOk; decide⟩
    obtain rfl : i = 0 := by have h9 : i < 1 := hi; omega
    exact ⟨h.1, fun h0 => absurd h0 (Nat.lt_irrefl 0), h.2⟩
  · intro h
    obtain ⟨h1, _, h3⟩ := h.1 0 (show 0 < 1 by decide)
    exact ⟨h1, h3⟩
structure Pr where
  me : Nd
  pe : Nd
  s : Sd
  t : Tk
  o : Bool
def Pr.hd (p : Pr) : Hd4 := (p.me.1, p.me.2, p.pe.1, p.pe.2)
def ackP (p : Pr) : Ak := (p.pe.1, p.pe.2, p.t.nx, mk p.t.nx (srt p.t.nx (nums p.t.H)) 16)
def ptA (a : Ak) : Pt := ⟨3, 0, [], 0, [], [a], 0, 0, 0, 0, ⟨#[]⟩⟩
def ptB (x : Bt) : Pt := ⟨2, 0, [], x.1, x.2, [], 0, 0, 0, 0, ⟨#[]⟩⟩
def owedL (p : Pr) : List Pt := if p.o then [ptA (ackP p)] else []
def frsL (ow : List Pt) : List Bt → List (List Pt)
  | [] => if ow = [] then [] else [ow]
  | x :: l => (ow ++ [ptB x]) :: l.map fun x => [ptB x]
def offP (p : Pr) : Pr := ⟨p.me, p.pe, p.s, p.t, false⟩
def idleB (p : Pr) : Bool := (decide (p.s.W.length = 0) && decide (p.s.L.length = 0)) && !p.o
/-- The program's pair at block b, its sender and its taker apart. -/
structure PPE (w : World) (Fs Ft : Nat → Prop) (b b1 b2 : Nat) (p : Pr) : Prop where
  c0 : w.cell? ⟨b, 0, none⟩ = some (.int .i64 p.me.1)
  c1 : w.cell? ⟨b, 1, none⟩ = some (.int .i64 p.me.2)
  c2 : w.cell? ⟨b, 2, none⟩ = some (.int .i64 p.pe.1)
  c3 : w.cell? ⟨b, 3, none⟩ = some (.int .i64 p.pe.2)
  c4 : w.cell? ⟨b, 4, none⟩ = some (.pointer (some ⟨b1, 0, none⟩))
  c5 : w.cell? ⟨b, 5, none⟩ = some (.pointer (some ⟨b2, 0, none⟩))
  c6 : w.cell? ⟨b, 6, none⟩ = some (.int .u32 (ob p.o))
  fz : ∀ j, w.frozen? ⟨b, j, none⟩ = false
  s : PS w Fs b1 p.s
  t : PT w Ft b2 p.t
  dis : ∀ k, Fs k → ¬ Ft k
  ns : ¬ Fs b
  nt : ¬ Ft b
  me : NdOk p.me
  pe : NdOk p.pe
  ne : p.me.1 ≠ p.pe.1
def GP (Fs Ft : Nat → Prop) (b : Nat) : Nat → Prop := fun k => k = b ∨ Fs k ∨ Ft k
def PP (w : World) (F : Nat → Prop) (b : Nat) (p : Pr) : Prop := ∃ Fs Ft b1 b2, PPE w Fs Ft b b1 b2 p ∧ F = GP Fs Ft b
section
variable {w w' : World} {F Fs Ft : Nat → Prop} {b b1 b2 : Nat} {p : Pr}
theorem PPE.blt (h : PPE w Fs Ft b b1 b2 p) : b < w.heap.size := World.block_lt_of_cell? w _ h.c0
theorem PPE.lt (h : PPE w Fs Ft b b1 b2 p) : ∀ k, GP Fs Ft b k → k < w.heap.size := fun k hk => by
  rcases hk with rfl | hk | hk
  · exact h.blt
  · exact dc.lt h.s k hk
  · exact h.t.2.lt k hk
theorem PP.lt (h : PP w F b p) : ∀ k, F k → k < w.heap.size := by
  obtain ⟨Fs, Ft, b1, b2, h, rfl⟩ := h
  exact h.lt
theorem PP.ok (h : PP w F b p) : SdOk p.s ∧ TkOk p.t ∧ NdOk p.me ∧ NdOk p.pe ∧ p.me.1 ≠ p.pe.1 := by
  obtain ⟨Fs, Ft, b1, b2, h, rfl⟩ := h
  exact ⟨dc.ok h.s, h.t.1, h.me, h.pe, h.ne⟩
theorem PP.fb (h : PP w F b p) : F b := by
  obtain ⟨Fs, Ft, b1, b2, h, rfl⟩ := h
  exact .inl rfl
/-- The pair's own cells are kept; its sender and its taker may have turned. -/
theorem PPE.cells {G Fs' Ft' : Nat → Prop} {s' : Sd} {t' : Tk} (h : PPE w Fs Ft b b1 b2 p) (hc : Chg G w w') (hb : ¬ G b) (hs : PS w' Fs' b1 s') (ht : PT w' Ft' b2 t') (hd : ∀ k, Fs' k → ¬ Ft' k) (h1 : ¬ Fs' b) (h2 : ¬ Ft' b) : PPE w' Fs' Ft' b b1 b2 ⟨p.me, p.pe, s', t', p.o⟩ := by
  have f : ∀ {j : Nat} {v : Value}, w.cell? ⟨b, j, none⟩ = some v → w'.cell? ⟨b, j, none⟩ = some v := fun e => (hc.cell h.blt hb).trans e
  exact ⟨f h.c0, f h.c1, f h.c2, f h.c3, f h.c4, f h.c5, f h.c6, fun j => (hc.frozen h.blt hb).trans (h.fz j), hs, ht, hd, h1, h2, h.me, h.pe, h.ne⟩
theorem PPE.keep {G : Nat → Prop} (h : PPE w Fs Ft b b1 b2 p) (hc : Chg G w w') (hG : ∀ k, GP Fs Ft b k → ¬ G k) : PPE w' Fs Ft b b1 b2 p := by
  have := h.cells hc (hG b (.inl rfl)) (dc.keep h.s hc (fun k hk => hG k (.inr (.inl hk)))) (h.t.keep hc (fun k hk => hG k (.inr (.inr hk)))) h.dis h.ns h.nt
  exact this
theorem PP.keep {G : Nat → Prop} (h : PP w F b p) (hc : Chg G w w') (hG : ∀ k, F k → ¬ G k) : PP w' F b p := by
  obtain ⟨Fs, Ft, b1, b2, h, rfl⟩ := h
  exact ⟨Fs, Ft, b1, b2, h.keep hc hG, rfl⟩
theorem PP.below (h : PP w F b p) (hb : Below w.heap.size w w') : PP w' F b p := h.keep (G := fun _ => False) (chg0 hb) (fun _ _ g => g)
theorem PPE.below (h : PPE w Fs Ft b b1 b2 p) (hb : Below w.heap.size w w') : PPE w' Fs Ft b b1 b2 p := h.keep (G := fun _ => False) (chg0 hb) (fun _ _ g => g)
/-- The sender has turned. -/
theorem PPE.sstep {Fs' : Nat → Prop} {s' : Sd} (h : PPE w Fs Ft b b1 b2 p) (hc : Chg Fs w w') (hs : PS w' Fs' b1 s') (hF : ∀ k, Fs' k → Fs k ∨ w.heap.size ≤ k) : PPE w' Fs' Ft b b1 b2 ⟨p.me, p.pe, s', p.t, p.o⟩ ∧ Nx w w' (GP Fs Ft b) (GP Fs' Ft b) := by
  refine ⟨h.cells hc h.ns hs (h.t.keep hc (fun k hk e => h.dis k e hk)) (fun k hk ht => ?_) (fun hk => ?_) h.nt, hc.mono (fun x _ hx => .inr (.inl hx)), fun k hk => ?_⟩
  · rcases hF k hk with h1 | h1
    · exact h.dis k h1 ht
    · have := h.t.2.lt k ht
      omega
  · rcases hF b hk with h1 | h1
    · exact h.ns h1
    · have := h.blt
      omega
  · rcases hk with h1 | h1 | h1
    · exact .inl (.inl h1)
    · exact (hF k h1).imp (fun e => .inr (.inl e)) (fun e => e)
    · exact .inl (.inr (.inr h1))
/-- The taker has turned. -/
theorem PPE.tstep {Ft' : Nat → Prop} {t' : Tk} (h : PPE w Fs Ft b b1 b2 p) (hc : Chg Ft w w') (ht : PT w' Ft' b2 t') (hF : ∀ k, Ft' k → Ft k ∨ w.heap.size ≤ k) : PPE w' Fs Ft' b b1 b2 ⟨p.me, p.pe, p.s, t', p.o⟩ ∧ Nx w w' (GP Fs Ft b) (GP Fs Ft' b) := by
  refine ⟨h.cells hc h.nt (dc.keep h.s hc (fun k hk e => h.dis k hk e)) ht (fun k hk ht => ?_) h.ns (fun hk => ?_), hc.mono (fun x _ hx => .inr (.inr hx)), fun k hk => ?_⟩
  · rcases hF k ht with h1 | h1
    · exact h.dis k hk h1
    · have := dc.lt h.s k hk
      omega
  · rcases hF b hk with h1 | h1
    · exact h.nt h1
    · have := h.blt
      omega
  · rcases hk with h1 | h1 | h1
    · exact .inl (.inl h1)
    · exact .inl (.inr (.inl h1))
    · exact (hF k h1).imp (fun e => .inr (.inr e)) (fun e => e)
/-- Whether an ack is owed has turned. -/
theorem PPE.ostep (h : PPE w Fs Ft b b1 b2 p) (x : Bool) : PPE (w.drew.setCell ⟨b, 6, none⟩ (.int .u32 (ob x))) Fs Ft b b1 b2 ⟨p.me, p.pe, p.s, p.t, x⟩ ∧ Nx w (w.drew.setCell ⟨b, 6, none⟩ (.int .u32 (ob x))) (GP Fs Ft b) (GP Fs Ft b) := by
  have hc : Chg (fun k => k = b) w (w.drew.setCell ⟨b, 6, none⟩ (.int .u32 (ob x))) := Chg.setCell (F := fun k => k = b) (p := ⟨b, 6, none⟩) ((Chg.refl _ w).drew) (.inl rfl) _
  have f : ∀ {j : Nat} {v : Value}, j ≠ 6 → w.cell? ⟨b, j, none⟩ = some v → (w.drew.setCell ⟨b, 6, none⟩ (.int .u32 (ob x))).cell? ⟨b, j, none⟩ = some v := fun hj e => (World.cell?_setCell_other _ _ _ _ (by simp)).trans e
  refine ⟨⟨f (by decide) h.c0, f (by decide) h.c1, f (by decide) h.c2, f (by decide) h.c3, f (by decide) h.c4, f (by decide) h.c5, ?_, fun j => ?_, dc.keep h.s hc (fun k hk e => h.ns (e ▸ hk)), h.t.keep hc (fun k hk e => h.nt (e ▸ hk)), h.dis, h.ns, h.nt, h.me, h.pe, h.ne⟩, hc.mono (fun k _ hk => .inl hk), fun k hk => .inl hk⟩
  · have h6 : w.drew.cell? ⟨b, 6, none⟩ = some (.int .u32 (ob p.o)) := h.c6
    exact World.cell?_setCell_same _ _ _ h6
  · have hz := h.fz j
    simpa [go_sem] using hz
end
theorem prnode_any (n : Nd) (w : World) : Calls Tryz.prog 45 #[.agg #[.int .i64 n.1, .int .i64 n.2]] w fun e w' => e = .returned (.bool (decide (NdOk n))) ∧ Below w.heap.size w w' := by
  obtain ⟨W1, hW1⟩ : ∃ W1, w.alloc (.cells #[.int .i64 n.1, .int .i64 n.2] 23) = W1 := ⟨_, rfl⟩
  have HB : Hid (Below w.heap.size w W1) := hW1 ▸ (Below.refl _ w).alloc (Nat.le_refl _) _
  obtain ⟨g0, hg0⟩ : ∃ g0, w.heap.size = g0 := ⟨_, rfl⟩
  have q0 : W1.cell? ⟨g0, 0, none⟩ = some (.int .i64 n.1) := by rw [← hW1, ← hg0]; simp
  have q1 : W1.cell? ⟨g0, 1, none⟩ = some (.int .i64 n.2) := by rw [← hW1, ← hg0]; simp
  have hE : El (W1.alloc (.cells #[.int .i64 n.1, .int .i64 n.2] 23)) (.slice (some ⟨W1.heap.size, 0, none⟩) 1 1) [n] := by
    refine OwE.el (S := W1.heap.size) ?_
    have h := World.ownsRow_lit (e := 23) (size := 2) W1 #[.int .i64 n.1, .int .i64 n.2] 1 (Nat.le_refl _) (by decide) rfl
    exact h
  obtain ⟨q, hq⟩ : ∃ q, decide (NdOk n) = q := ⟨_, rfl⟩
  have C := Lib.hid (check_fix6 0 _ [n] q (by rw [← hq, decide_eq_true_iff, ndok_iff]) _ hE (show 1 ≤ 3000 by decide))
  have HB2 : Hid (Below W1.heap.size W1 (W1.alloc (.cells #[.int .i64 n.1, .int .i64 n.2] 23))) := (Below.refl _ W1).alloc (Nat.le_refl _) _
  have HW := Lib.hid hW1
  have HG := Lib.hid hg0
  rw [hq]
  clear hW1 hg0 hE hq
  go_enter Tryz.func45, Tryz.ntmps45
  go_upto_region 1 with (fail)
  rw [HW.out]
  simp only [HG.out]
  go_wp2_with fail
  refine C.out.mono ?_
  rintro e w3 ⟨rfl, hb⟩
  have HB3 : Hid (Below w.heap.size w w3) := HB.out.trans ((HB2.out.trans (hb.mono HB2.out.size)).mono HB.out.size)
  clear hb C
  cases q
  · simp only [Bool.false_eq_true, if_false]
    go_wp2_with fail
    go_ret
    exact ⟨rfl, HB3.out⟩
  · simp only [if_true]
    go_wp2_with fail
    go_ret
    exact ⟨rfl, HB3.out⟩
end Go.Proofs.YtdigjklhfimnbaaGreat
namespace Go.Proofs.YtdigjklhfimnbaaGreat
set_option maxRecDepth 100000
set_option linter.unusedVariables false
open Go.RowKit

/-- The blocks of F, and all that there were. -/
def Ab (F : Nat → Prop) (S : Nat) : Nat → Prop := fun k => F k ∨ k < S
theorem Ab.nx {w w' : World} {F F' : Nat → Prop} {S : Nat} (h : Nx w w' F F') : Nx w w' (Ab F S) (Ab F' S) := h.or
theorem Nx.base {w w1 w2 : World} {F G : Nat → Prop} (h : Nx w w1 F G) : w.heap.size ≤ w1.heap.size := h.1.size
theorem OwnF.set9 {w : World} {b : Nat} {fr ep tq pe : Int} {v : Value} (h : OwnF w b fr ep tq pe v) (fr' ep' tq' pe' : Int) (v' : Value) : OwnF (((((w.setCell ⟨b, 0, none⟩ (.int .i64 fr')).setCell ⟨b, 1, none⟩ (.int .i64 ep')).setCell ⟨b, 2, none⟩ (.int .i64 tq')).setCell ⟨b, 3, none⟩ (.int .i64 pe')).setCell ⟨b, 4, none⟩ v') b fr' ep' tq' pe' v' := by
  obtain ⟨⟨h0, h1, h2, h3, h4⟩, hf⟩ := h
  refine ⟨⟨?_, ?_, ?_, ?_, ?_⟩, fun j => ?_⟩ <;> simp [go_sem, hf, h0, h1, h2, h3, h4]
theorem bel_setf9 {B : Nat} {u w : World} {b : Nat} (h : Below B u w) (hB : B ≤ b) (fr ep tq pe : Int) (v : Value) : Below B u (((((w.setCell ⟨b, 0, none⟩ (.int .i64 fr)).setCell ⟨b, 1, none⟩ (.int .i64 ep)).setCell ⟨b, 2, none⟩ (.int .i64 tq)).setCell ⟨b, 3, none⟩ (.int .i64 pe)).setCell ⟨b, 4, none⟩ v) :=
  ((((h.setCell (p := ⟨b, 0, none⟩) hB _).setCell (p := ⟨b, 1, none⟩) hB _).setCell (p := ⟨b, 2, none⟩) hB _).setCell (p := ⟨b, 3, none⟩) hB _).setCell (p := ⟨b, 4, none⟩) hB _
section
variable {w w' : World} {F : Nat → Prop} {b : Nat} {p : Pr}
set_option maxHeartbeats 4000000 in
theorem prfro_any (a : Option Addr) (l c : Nat) (h : PP w F b p) : Calls Tryz.prog 78 #[.pointer (some ⟨b, 0, none⟩), .slice a l c] w fun e w' => e = .returned (.agg #[.int .i64 p.me.1, .int .i64 p.me.2, .int .i64 p.pe.1, .int .i64 p.pe.2, .slice a l c]) ∧ Below w.heap.size w w' := by
  obtain ⟨Fs, Ft, b1, b2, h, rfl⟩ := h
  obtain ⟨W1, hW1⟩ : ∃ W1, w.alloc (.cells #[.int .i64 0, .int .i64 0, .int .i64 0, .int .i64 0, .slice none 0 0] 51) = W1 := ⟨_, rfl⟩
  obtain ⟨g0, hg0⟩ : ∃ g0, w.heap.size = g0 := ⟨_, rfl⟩
  have hb : Below w.heap.size w W1 := hW1 ▸ (Below.refl _ w).alloc (Nat.le_refl _) _
  have hr : OwnF W1 g0 0 0 0 0 (.slice none 0 0) := hg0 ▸ hW1 ▸ ownf_alloc w 0 0 0 0 (.slice none 0 0) 51 w.heap.size rfl
  have h1 := h.below hb
  have HS := Lib.hid (OwnF.set9 (w := W1) hr p.me.1 p.me.2 p.pe.1 p.pe.2 (.slice a l c)).1
  have HBF := Lib.hid (bel_setf9 (w := W1) hb (Nat.le_of_eq hg0) p.me.1 p.me.2 p.pe.1 p.pe.2 (.slice a l c))
  obtain ⟨⟨r0, r1, r2, r3, r4⟩, rf⟩ := hr
  have c0 := h1.c0
  have c1 := h1.c1
  have c2 := h1.c2
  have c3 := h1.c3
  have HW := Lib.hid hW1
  have HG := Lib.hid hg0
  clear hW1 hg0 hb h1 h
  go_enter Tryz.func78, Tryz.ntmps78
  go_upto_region 1 with (fail)
  rw [HW.out]
  try simp only [HG.out]
  go_region
  all_goals
    have hs := HS.out
    have hbf := HBF.out
    go_wp2_with fail
    generalize (((((W1.setCell ⟨g0, 0, none⟩ (.int .i64 p.me.1)).setCell ⟨g0, 1, none⟩ (.int .i64 p.me.2)).setCell ⟨g0, 2, none⟩ (.int .i64 p.pe.1)).setCell ⟨g0, 3, none⟩ (.int .i64 p.pe.2)).setCell ⟨g0, 4, none⟩ (.slice a l c)) = W5 at *
    obtain ⟨s0_, s1_, s2_, s3_, s4_⟩ := hs
    exact bodyPost_ret (v := .agg #[.int .i64 p.me.1, .int .i64 p.me.2, .int .i64 p.pe.1, .int .i64 p.pe.2, .slice a l c]) (by simp [results, Tryz.results78, go_sem, s0_, s1_, s2_, s3_, s4_]) rfl ⟨rfl, hbf.drew⟩
end
end Go.Proofs.YtdigjklhfimnbaaGreat
