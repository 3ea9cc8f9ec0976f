/- Texts Bpr, Fx, Ya0 of this proof, in one. No conditions but on lengths. -/
import Derived.Test.YtdigjklhfimnbaaGreatRows
import Derived.Test.YtdigjklhfimnbaaGreatU18
import Derived.Test.YtdigjklhfimnbaaGreatU19
import Derived.Test.YtdigjklhfimnbaaGreatU23
import Derived.ArgAppend
import Derived.Below
import Derived.BigQuiet
import Derived.Calls
import Derived.ChangeArms
import Derived.ChangeKeysEq
import Derived.ChangeMade
import Derived.ChangeOld
import Derived.Deep.Cut
import Derived.Deep.QuietTactic
import Derived.Deep.RegionLaw
import Derived.Deep.RegionWith
import Derived.Deep.Slices
import Derived.Laws.AppendOwnNone
import Derived.Laws.BitsLemmas
import Derived.Laws.BytesArg
import Derived.Laws.LoneSync
import Derived.Laws.OwnMore
import Derived.Laws.StructEq
import Derived.Lib.ConvBytes
import Derived.Lib.Hide
import Derived.Lib.QuietBelow
import Derived.LoopIn
import Derived.LoopTactic
import Derived.Maps.AppendAt
import Derived.OpenShut
import Derived.Orders
import Derived.Outline
import Derived.OwnWalkIn
import Derived.ProofKit
import Derived.RangeFuncBox
import Derived.RangeFuncCalls
import Derived.RangeFuncLeaves
import Derived.RangeFuncNested
import Derived.RegionCalls
import Derived.RegionTactic
import Derived.Shelf.RegionOpen
import Derived.ShutString
import Derived.StillTail
import Derived.TacticsInMore
import Derived.WalkKit
import Derived.WalkSpells
import Derived.WideShapes
namespace Go.Proofs.YtdigjklhfimnbaaGreat
set_option maxRecDepth 100000
open Go.RowKit Go.Sort

theorem Own2.low {w w' : World} {b S : Nat} {M : Int} {v : Value} (h : Own2 w b M v) (hb : b < S) (hB : Below S w w') : Own2 w' b M v :=
  ⟨⟨(hB.cell (p := ⟨b, 0, none⟩) hb).trans h.1.1, (hB.cell (p := ⟨b, 1, none⟩) hb).trans h.1.2⟩, fun j => (hB.frozen (p := ⟨b, j, none⟩) hb).trans (h.2 j)⟩
theorem Rd.low {w w' : World} {b S : Nat} {x y : Int} (h : Rd w b x y) (hb : b < S) (hB : Below S w w') : Rd w' b x y :=
  ⟨(hB.cell (p := ⟨b, 0, none⟩) hb).trans h.1, (hB.cell (p := ⟨b, 1, none⟩) hb).trans h.2.1, fun j => (hB.frozen (p := ⟨b, j, none⟩) hb).trans (h.2.2 j)⟩
theorem Own2.allocs {w : World} {b : Nat} {M : Int} {v : Value} (h : Own2 w b M v) : ∀ O, (w.alloc O).cell? ⟨b, 1, none⟩ = some v := fun O => (h.below ((Below.refl _ _).alloc (Nat.le_refl _) O)).1.2
end Go.Proofs.YtdigjklhfimnbaaGreat
namespace Go.Proofs.YtdigjklhfimnbaaGreat
set_option maxRecDepth 100000
set_option linter.unusedVariables false
open Go.RowKit
open Go.RowKit Go.WideShapes Go.ChangeShapes
open Go.RowKit Go.Sort
/-- A part: its kind, a beacon, a batch, acks, a packet. -/
structure Pt where
  k : Int
  be : Int
  es : List (Int × Int)
  bn : Int
  os : List Ob
  ks : List (Int × Int × Int × Int)
  s : Int
  d : Int
  t : Int
  n : Int
  x : ByteArray
def zPt : Pt := ⟨0, 0, [], 0, [], [], 0, 0, 0, 0, ⟨#[]⟩⟩
def Pt.noBe (p : Pt) : Prop := p.be = 0 ∧ p.es.length = 0
def Pt.noBt (p : Pt) : Prop := p.bn = 0 ∧ p.os.length = 0
def Pt.noAk (p : Pt) : Prop := p.ks.length = 0
def Pt.noPk (p : Pt) : Prop := p.s = 0 ∧ p.d = 0 ∧ p.t = 0 ∧ p.n = 0 ∧ p.x = ⟨#[]⟩
instance (p : Pt) : Decidable p.noBe := by unfold Pt.noBe; infer_instance
instance (p : Pt) : Decidable p.noBt := by unfold Pt.noBt; infer_instance
instance (p : Pt) : Decidable p.noAk := by unfold Pt.noAk; infer_instance
instance (p : Pt) : Decidable p.noPk := by unfold Pt.noPk; infer_instance
/-- A part that is right. -/
def Pt.Ok (p : Pt) : Prop :=
  (p.k = 1 ∧ BeOk p.be p.es ∧ p.noBt ∧ p.noAk ∧ p.noPk) ∨ (p.k = 2 ∧ p.noBe ∧ BtOk p.bn p.os ∧ p.noAk ∧ p.noPk) ∨
  (p.k = 3 ∧ p.noBe ∧ p.noBt ∧ AksOk p.ks ∧ p.noPk) ∨ (p.k = 4 ∧ p.noBe ∧ p.noBt ∧ p.noAk ∧ PkOk p.s p.d p.t p.n p.x)
instance (p : Pt) : Decidable p.Ok := by unfold Pt.Ok; infer_instance
/-- What a part has, as bytes; the part's bytes. -/
def Pt.bs (p : Pt) : List Int := if p.k = 1 then beB p.be p.es else if p.k = 2 then btB p.bn p.os else if p.k = 3 then acB p.ks else pkB p.s p.d p.t p.n p.x
def Pt.row (p : Pt) : List Int := [p.k, (p.bs.length : Int) / 256, (p.bs.length : Int) % 256] ++ p.bs
def psB (ps : List Pt) : List Int := (ps.map Pt.row).flatten
def AllP (ps : List Pt) : Prop := ∀ i, i < ps.length → (ps.getD i zPt).Ok
instance (ps : List Pt) : Decidable (AllP ps) := by unfold AllP; infer_instance
def FrHd (fr ep tq pe : Int) (n : Nat) : Prop := (0 ≤ fr ∧ fr < 64) ∧ ((0 ≤ tq ∧ tq < 64) ∨ (tq = 255 ∧ pe = 0)) ∧ EpOk ep ∧ EpOk pe ∧ 1 ≤ n ∧ n ≤ 8
instance (fr ep tq pe : Int) (n : Nat) : Decidable (FrHd fr ep tq pe n) := by unfold FrHd; infer_instance
/-- A frame that is right. -/
def FrOk (fr ep tq pe : Int) (ps : List Pt) : Prop := FrHd fr ep tq pe ps.length ∧ AllP ps ∧ 17 + (psB ps).length ≤ 1400
instance (fr ep tq pe : Int) (ps : List Pt) : Decidable (FrOk fr ep tq pe ps) := by unfold FrOk; infer_instance
theorem FrHd.lo {fr ep tq pe : Int} {n : Nat} (h : FrHd fr ep tq pe n) : (0 ≤ fr ∧ fr < 256) ∧ (0 ≤ tq ∧ tq < 256) ∧ ((0 : Int) ≤ n ∧ (n : Int) < 256) := by
  obtain ⟨h1, h2, _, _, h5⟩ := h
  refine ⟨by omega, ?_, by omega⟩
  rcases h2 with h2 | h2 <;> omega
structure Fr where
  fr : Int
  ep : Int
  tq : Int
  pe : Int
  ps : List Pt
/-- A part's eleven cells. -/
structure RPt where
  k : Int
  be : Int
  a1 : Option Addr
  l1 : Nat
  c1 : Nat
  bn : Int
  a2 : Option Addr
  l2 : Nat
  c2 : Nat
  a3 : Option Addr
  l3 : Nat
  c3 : Nat
  s : Int
  d : Int
  t : Int
  n : Int
  x : ByteArray
def zR : RPt := ⟨0, 0, none, 0, 0, 0, none, 0, 0, none, 0, 0, 0, 0, 0, 0, ⟨#[]⟩⟩
def RPt.cl (r : RPt) : List Value := [.int .i64 r.k, .int .i64 r.be, .slice r.a1 r.l1 r.c1, .int .i64 r.bn, .slice r.a2 r.l2 r.c2, .slice r.a3 r.l3 r.c3, .int .i64 r.s, .int .i64 r.d, .int .i64 r.t, .int .i64 r.n, .string r.x]
theorem infoPT : (Tryz.prog.info? 148).map (fun i => (i.zero, i.size, i.bytes)) = some (some (.agg #[.int .i64 0, .int .i64 0, .slice none 0 0, .int .i64 0, .slice none 0 0, .slice none 0 0, .int .i64 0, .int .i64 0, .int .i64 0, .int .i64 0, .string ⟨#[]⟩]), 11, 144) := by kernel_rfl
theorem underPS : Tryz.prog.underlying 49 = some (.slice 148) := by kernel_rfl
theorem cellsPT : Tryz.prog.cellsOf 148 = 11 := by kernel_rfl
theorem rpt_ones (r : RPt) : ∀ u ∈ r.cl, u.oneCell' = true := by
  intro u hu
  simp only [RPt.cl, List.mem_cons, List.not_mem_nil, or_false] at hu
  rcases hu with rfl | rfl | rfl | rfl | rfl | rfl | rfl | rfl | rfl | rfl | rfl <;> rfl
/-- Rows of parts. -/
noncomputable def RP : RowT where
  α := RPt
  d := zR
  cl := RPt.cl
  K := 11
  T := 148
  SL := 49
  zero := .agg #[.int .i64 0, .int .i64 0, .slice none 0 0, .int .i64 0, .slice none 0 0, .slice none 0 0, .int .i64 0, .int .i64 0, .int .i64 0, .int .i64 0, .string ⟨#[]⟩]
  bytes := 144
  hcl := fun _ => rfl
  hK := by decide
  hone := rpt_ones
  hSL := underPS
  hinfo := infoPT
  hz := rfl
  hb := by decide
  hc := cellsPT
/-- What the slices of a part read as. -/
structure RPt.Rd (w : World) (r : RPt) (p : Pt) : Prop where
  k : r.k = p.k
  be : r.be = p.be
  es : El w (.slice r.a1 r.l1 r.c1) p.es
  bn : r.bn = p.bn
  os : Os w (.slice r.a2 r.l2 r.c2) p.os
  ks : As w (.slice r.a3 r.l3 r.c3) p.ks
  s : r.s = p.s
  d : r.d = p.d
  t : r.t = p.t
  n : r.n = p.n
  x : r.x = p.x
theorem RPt.Rd.below {w w' : World} {r : RPt} {p : Pt} (h : r.Rd w p) (hb : Below w.heap.size w w') : r.Rd w' p :=
  ⟨h.k, h.be, h.es.below hb, h.bn, h.os.below hb, h.ks.below hb, h.s, h.d, h.t, h.n, h.x⟩
theorem RPt.Rd.l1 {w : World} {r : RPt} {p : Pt} (h : r.Rd w p) : r.l1 = p.es.length := by
  obtain ⟨a, c, e⟩ := h.es.1.form; simp only [Value.slice.injEq] at e; exact e.2.1
theorem RPt.Rd.l2 {w : World} {r : RPt} {p : Pt} (h : r.Rd w p) : r.l2 = p.os.length := by
  obtain ⟨a, c, e⟩ := h.os.form; simp only [Value.slice.injEq] at e; exact e.2.1
theorem RPt.Rd.l3 {w : World} {r : RPt} {p : Pt} (h : r.Rd w p) : r.l3 = p.ks.length := by
  obtain ⟨a, c, e⟩ := h.ks.form; simp only [Value.slice.injEq] at e; exact e.2.1
/-- A slice of parts that reads as ps. -/
def Ps (w : World) (v : Value) (ps : List Pt) : Prop := ∃ rs : List RPt, rs.length = ps.length ∧ Gs RP w v rs ∧ ∀ i, i < ps.length → (rs.getD i zR).Rd w (ps.getD i zPt)
theorem Ps.below {w w' : World} {v : Value} {ps : List Pt} (h : Ps w v ps) (hb : Below w.heap.size w w') : Ps w' v ps := by
  obtain ⟨rs, h1, h2, h3⟩ := h
  exact ⟨rs, h1, h2.below hb, fun i hi => (h3 i hi).below hb⟩
theorem Ps.alloc {w : World} {v : Value} {ps : List Pt} (h : Ps w v ps) (O : Obj) : Ps (w.alloc O) v ps := h.below ((Below.refl _ _).alloc (Nat.le_refl _) O)
theorem Ps.form {w : World} {v : Value} {ps : List Pt} (h : Ps w v ps) : ∃ a c, v = .slice a ps.length c := by
  obtain ⟨rs, h1, h2, _⟩ := h
  obtain ⟨a, c, e⟩ := h2.form
  exact ⟨a, c, e.trans (congrArg (fun n => Value.slice a n c) h1)⟩
/-- A part's cells, wherever they lie. -/
def C11 (w : World) (b o : Nat) (r : RPt) : Prop := w.cell? ⟨b, o, none⟩ = some (.int .i64 r.k) ∧ w.cell? ⟨b, o + 1, none⟩ = some (.int .i64 r.be) ∧ w.cell? ⟨b, o + 2, none⟩ = some (.slice r.a1 r.l1 r.c1) ∧ w.cell? ⟨b, o + 3, none⟩ = some (.int .i64 r.bn) ∧ w.cell? ⟨b, o + 4, none⟩ = some (.slice r.a2 r.l2 r.c2) ∧ w.cell? ⟨b, o + 5, none⟩ = some (.slice r.a3 r.l3 r.c3) ∧ w.cell? ⟨b, o + 6, none⟩ = some (.int .i64 r.s) ∧ w.cell? ⟨b, o + 7, none⟩ = some (.int .i64 r.d) ∧ w.cell? ⟨b, o + 8, none⟩ = some (.int .i64 r.t) ∧ w.cell? ⟨b, o + 9, none⟩ = some (.int .i64 r.n) ∧ w.cell? ⟨b, o + 10, none⟩ = some (.string r.x)
theorem c11_of {w : World} {b o : Nat} {r : RPt} (h : GC RP w b o r) : C11 w b o r := ⟨h 0 (by decide), h 1 (by decide), h 2 (by decide), h 3 (by decide), h 4 (by decide), h 5 (by decide), h 6 (by decide), h 7 (by decide), h 8 (by decide), h 9 (by decide), h 10 (by decide)⟩
theorem Ps.at {w : World} {a : Option Addr} {c : Nat} {ps : List Pt} (h : Ps w (.slice a ps.length c) ps) {i : Nat} (hi : i < ps.length) : ∃ b off r, a = some ⟨b, off, none⟩ ∧ b < w.heap.size ∧ C11 w b (off + i * 11) r ∧ r.Rd w (ps.getD i zPt) := by
  obtain ⟨rs, h1, h2, h3⟩ := h
  rw [← h1] at h2
  have hi' : i < rs.length := by omega
  obtain ⟨b, off, e, hb, hc⟩ := Gs.at (R := RP) h2 (i := i) hi'
  exact ⟨b, off, rs.getD i zR, e, hb, c11_of hc, h3 i hi⟩
/-- A row of parts of the call's own. -/
def PsOwn (w : World) (S : Nat) (v : Value) (ps : List Pt) : Prop := ∃ rs : List RPt, rs.length = ps.length ∧ w.ownsRow S 148 11 v rs.length (gflat RP rs) ∧ ∀ i, i < ps.length → (rs.getD i zR).Rd w (ps.getD i zPt)
theorem PsOwn.ps {w : World} {S : Nat} {v : Value} {ps : List Pt} (h : PsOwn w S v ps) : Ps w v ps := by
  obtain ⟨rs, h1, h2, h3⟩ := h
  exact ⟨rs, h1, (Gs_of_own (R := RP) h2).1, h3⟩
theorem PsOwn.below {w w' : World} {S : Nat} {v : Value} {ps : List Pt} (h : PsOwn w S v ps) (hb : Below w.heap.size w w') : PsOwn w' S v ps := by
  obtain ⟨rs, h1, h2, h3⟩ := h
  exact ⟨rs, h1, gown_below h2 hb, fun i hi => (h3 i hi).below hb⟩
theorem PsOwn.mono {w : World} {S B : Nat} {v : Value} {ps : List Pt} (h : PsOwn w S v ps) (hB : B ≤ S) : PsOwn w B v ps := by
  obtain ⟨rs, h1, h2, h3⟩ := h
  exact ⟨rs, h1, gown_mono h2 hB, h3⟩
theorem PsOwn.form {w : World} {S : Nat} {v : Value} {ps : List Pt} (h : PsOwn w S v ps) : ∃ a c, v = .slice a ps.length c := h.ps.form
def OwnT (w : World) (b : Nat) (r : RPt) : Prop := (w.cell? ⟨b, 0, none⟩ = some (.int .i64 r.k) ∧ w.cell? ⟨b, 1, none⟩ = some (.int .i64 r.be) ∧ w.cell? ⟨b, 2, none⟩ = some (.slice r.a1 r.l1 r.c1) ∧ w.cell? ⟨b, 3, none⟩ = some (.int .i64 r.bn) ∧ w.cell? ⟨b, 4, none⟩ = some (.slice r.a2 r.l2 r.c2) ∧ w.cell? ⟨b, 5, none⟩ = some (.slice r.a3 r.l3 r.c3) ∧ w.cell? ⟨b, 6, none⟩ = some (.int .i64 r.s) ∧ w.cell? ⟨b, 7, none⟩ = some (.int .i64 r.d) ∧ w.cell? ⟨b, 8, none⟩ = some (.int .i64 r.t) ∧ w.cell? ⟨b, 9, none⟩ = some (.int .i64 r.n) ∧ w.cell? ⟨b, 10, none⟩ = some (.string r.x)) ∧ ∀ j, w.frozen? ⟨b, j, none⟩ = false
theorem OwnT.lt {w : World} {b : Nat} {r : RPt} (h : OwnT w b r) : b < w.heap.size := World.block_lt_of_cell? w _ h.1.1
theorem C11.low {w w' : World} {b o S : Nat} {r : RPt} (h : C11 w b o r) (hb : b < S) (hB : Below S w w') : C11 w' b o r := by
  have f : ∀ {j : Nat} {v : Value}, w.cell? ⟨b, j, none⟩ = some v → w'.cell? ⟨b, j, none⟩ = some v := fun {j v} h => (hB.cell (p := ⟨b, j, none⟩) hb).trans h
  obtain ⟨h0, h1, h2, h3, h4, h5, h6, h7, h8, h9, h10⟩ := h
  exact ⟨f h0, f h1, f h2, f h3, f h4, f h5, f h6, f h7, f h8, f h9, f h10⟩
theorem C11.below {w w' : World} {b o : Nat} {r : RPt} (h : C11 w b o r) (hb : Below w.heap.size w w') : C11 w' b o r := h.low (World.block_lt_of_cell? w _ h.1) hb
theorem OwnT.low {w w' : World} {b S : Nat} {r : RPt} (h : OwnT w b r) (hb : b < S) (hB : Below S w w') : OwnT w' b r := by
  have f : ∀ {j : Nat} {v : Value}, w.cell? ⟨b, j, none⟩ = some v → w'.cell? ⟨b, j, none⟩ = some v := fun {j v} h => (hB.cell (p := ⟨b, j, none⟩) hb).trans h
  obtain ⟨⟨h0, h1, h2, h3, h4, h5, h6, h7, h8, h9, h10⟩, hf⟩ := h
  exact ⟨⟨f h0, f h1, f h2, f h3, f h4, f h5, f h6, f h7, f h8, f h9, f h10⟩, fun j => (hB.frozen (p := ⟨b, j, none⟩) hb).trans (hf j)⟩
theorem OwnT.below {w w' : World} {b : Nat} {r : RPt} (h : OwnT w b r) (hb : Below w.heap.size w w') : OwnT w' b r := h.low h.lt hb
def OwnF (w : World) (b : Nat) (fr ep tq pe : Int) (v : Value) : Prop := (w.cell? ⟨b, 0, none⟩ = some (.int .i64 fr) ∧ w.cell? ⟨b, 1, none⟩ = some (.int .i64 ep) ∧ w.cell? ⟨b, 2, none⟩ = some (.int .i64 tq) ∧ w.cell? ⟨b, 3, none⟩ = some (.int .i64 pe) ∧ w.cell? ⟨b, 4, none⟩ = some v) ∧ ∀ j, w.frozen? ⟨b, j, none⟩ = false
theorem ownf_alloc (w : World) (fr ep tq pe : Int) (v : Value) (T : TypeId) (g : Nat) (hg : g = w.heap.size) : OwnF (w.alloc (.cells #[.int .i64 fr, .int .i64 ep, .int .i64 tq, .int .i64 pe, v] T)) g fr ep tq pe v := by
  subst hg
  exact ⟨⟨by simp, by simp, by simp, by simp, by simp⟩, fun j => by simp⟩
theorem OwnF.lt {w : World} {b : Nat} {fr ep tq pe : Int} {v : Value} (h : OwnF w b fr ep tq pe v) : b < w.heap.size := World.block_lt_of_cell? w _ h.1.1
theorem OwnF.low {w w' : World} {b S : Nat} {fr ep tq pe : Int} {v : Value} (h : OwnF w b fr ep tq pe v) (hb : b < S) (hB : Below S w w') : OwnF w' b fr ep tq pe v := by
  have f : ∀ {j : Nat} {v : Value}, w.cell? ⟨b, j, none⟩ = some v → w'.cell? ⟨b, j, none⟩ = some v := fun {j v} h => (hB.cell (p := ⟨b, j, none⟩) hb).trans h
  obtain ⟨⟨h0, h1, h2, h3, h4⟩, hf⟩ := h
  exact ⟨⟨f h0, f h1, f h2, f h3, f h4⟩, fun j => (hB.frozen (p := ⟨b, j, none⟩) hb).trans (hf j)⟩
theorem OwnF.below {w w' : World} {b : Nat} {fr ep tq pe : Int} {v : Value} (h : OwnF w b fr ep tq pe v) (hb : Below w.heap.size w w') : OwnF w' b fr ep tq pe v := h.low h.lt hb
/-- A frame's value. -/
def FrV (w : World) (v : Value) (f : Fr) : Prop := ∃ a c, v = .agg #[.int .i64 f.fr, .int .i64 f.ep, .int .i64 f.tq, .int .i64 f.pe, .slice a f.ps.length c] ∧ Ps w (.slice a f.ps.length c) f.ps
theorem FrV.below {w w' : World} {v : Value} {f : Fr} (h : FrV w v f) (hb : Below w.heap.size w w') : FrV w' v f := by
  obtain ⟨a, c, h1, h2⟩ := h
  exact ⟨a, c, h1, h2.below hb⟩
/-- A part whose slices are rows of the call's own. -/
structure RPt.Ow (w : World) (S : Nat) (r : RPt) (p : Pt) : Prop where
  k : r.k = p.k
  be : r.be = p.be
  es : OwE w S (.slice r.a1 r.l1 r.c1) p.es
  bn : r.bn = p.bn
  os : w.ownsRow S 41 12 (.slice r.a2 r.l2 r.c2) p.os.length (flat p.os)
  ks : w.ownsRow S 212 4 (.slice r.a3 r.l3 r.c3) p.ks.length (aflat p.ks)
  s : r.s = p.s
  d : r.d = p.d
  t : r.t = p.t
  n : r.n = p.n
  x : r.x = p.x
theorem RPt.Ow.rd {w : World} {S : Nat} {r : RPt} {p : Pt} (h : r.Ow w S p) : r.Rd w p :=
  ⟨h.k, h.be, h.es.el, h.bn, (Os_of_own h.os).1, (As_of_own h.ks).1, h.s, h.d, h.t, h.n, h.x⟩
theorem RPt.Ow.below {w w' : World} {S : Nat} {r : RPt} {p : Pt} (h : r.Ow w S p) (hb : Below w.heap.size w w') : r.Ow w' S p :=
  ⟨h.k, h.be, gown_below h.es hb, h.bn, gown_below h.os hb, gown_below h.ks hb, h.s, h.d, h.t, h.n, h.x⟩
theorem RPt.Ow.mono {w : World} {S S' : Nat} {r : RPt} {p : Pt} (h : r.Ow w S p) (hS : S' ≤ S) : r.Ow w S' p :=
  ⟨h.k, h.be, gown_mono h.es hS, h.bn, gown_mono h.os hS, gown_mono h.ks hS, h.s, h.d, h.t, h.n, h.x⟩
/-- A row of parts of the call's own, their rows too. -/
def PsOw (w : World) (S : Nat) (v : Value) (ps : List Pt) : Prop := ∃ rs : List RPt, rs.length = ps.length ∧ w.ownsRow S 148 11 v rs.length (gflat RP rs) ∧ ∀ i, i < ps.length → (rs.getD i zR).Ow w S (ps.getD i zPt)
theorem PsOw.own {w : World} {S : Nat} {v : Value} {ps : List Pt} (h : PsOw w S v ps) : PsOwn w S v ps := by
  obtain ⟨rs, h1, h2, h3⟩ := h
  exact ⟨rs, h1, h2, fun i hi => (h3 i hi).rd⟩
theorem PsOw.ps {w : World} {S : Nat} {v : Value} {ps : List Pt} (h : PsOw w S v ps) : Ps w v ps := h.own.ps
theorem PsOw.below {w w' : World} {S : Nat} {v : Value} {ps : List Pt} (h : PsOw w S v ps) (hb : Below w.heap.size w w') : PsOw w' S v ps := by
  obtain ⟨rs, h1, h2, h3⟩ := h
  exact ⟨rs, h1, gown_below h2 hb, fun i hi => (h3 i hi).below hb⟩
theorem PsOw.mono {w : World} {S S' : Nat} {v : Value} {ps : List Pt} (h : PsOw w S v ps) (hS : S' ≤ S) : PsOw w S' v ps := by
  obtain ⟨rs, h1, h2, h3⟩ := h
  exact ⟨rs, h1, gown_mono h2 hS, fun i hi => (h3 i hi).mono hS⟩
theorem PsOw.form {w : World} {S : Nat} {v : Value} {ps : List Pt} (h : PsOw w S v ps) : ∃ a c, v = .slice a ps.length c := h.ps.form
end Go.Proofs.YtdigjklhfimnbaaGreat
namespace Go.Proofs.YtdigjklhfimnbaaGreat
set_option maxRecDepth 100000
set_option linter.unusedVariables false
open Go.RowKit

section
variable {P : Program} {f : FuncId} {fn : Func}
theorem run_call_loadQ {k : IntKind} (hf : P.funcs[f]? = some fn) (hname : (fn.name == "runtime.NumGoroutine") = false) (hb : fn.body.isNone = true) (hn : Extern.findNext fn = none)
    (he : Extern.find fn = some (Extern.Atomic.loadT (.int k))) {a : Addr} {x : Int} {w : World} (hc : w.cell? a = some (.int k x)) :
    (callFunc f #[.pointer (some a)]).run P w = .ok (.value (.int k x)) w := by
  rw [run_callFunc_extern hf hname hb hn he]
  change (Sem.run P (do Extern.Atomic.read (.int k) (← asAddr (.pointer (some a)))) w).andThen _ = _
  simp [Extern.Atomic.read, asAddr, hc, Result.andThen]
theorem run_call_swapQ {k : IntKind} (hf : P.funcs[f]? = some fn) (hname : (fn.name == "runtime.NumGoroutine") = false) (hb : fn.body.isNone = true) (hn : Extern.findNext fn = none)
    (he : Extern.find fn = some (Extern.Atomic.swapT (.int k))) {a : Addr} {x y : Int} {w : World} (hc : w.cell? a = some (.int k x)) (hz : w.frozen? a = false) :
    (callFunc f #[.pointer (some a), .int k y]).run P w = .ok (.value (.int k x)) (w.setCell a (.int k y)) := by
  rw [run_callFunc_extern hf hname hb hn he]
  change (Sem.run P (do
    let a ← asAddr (.pointer (some a))
    let old ← Extern.Atomic.read (.int k) a
    store a (.int k y) .atomic
    pure old) w).andThen _ = _
  simp [Extern.Atomic.read, asAddr, hc, hz, run_store P w a (.int k y) .atomic rfl, Result.andThen]
end
/-- A bool as the number that an atomic one holds. -/
def ob (o : Bool) : Int := if o then 1 else 0
section
variable (b j : Nat) (o : Bool) (w : World)
theorem abld_any (h : w.cell? ⟨b, j, none⟩ = some (.int .u32 (ob o))) : Calls Tryz.prog 56 #[.pointer (some ⟨b, j, none⟩)] w fun e w' => e = .returned (.bool o) ∧ w = w' := by
  have hl := run_call_loadQ (P := Tryz.prog) (f := 97) (k := .u32) Tryz.func97 (by kernel_rfl) (by kernel_rfl) (by kernel_rfl) (by kernel_rfl) h
  cases o
  · simp only [ob] at hl
    go_enter Tryz.func56, Tryz.ntmps56
    go_wp2
    go_ret
    exact ⟨rfl, rfl⟩
  · simp only [ob] at hl
    go_enter Tryz.func56, Tryz.ntmps56
    go_wp2
    go_ret
    exact ⟨rfl, rfl⟩
theorem b32_false (w : World) : Calls Tryz.prog 165 #[.bool false] w fun e w' => e = .returned (.int .u32 0) ∧ w' = w := by
  go_enter Tryz.func165, Tryz.ntmps165
  go_wp2_with fail
  go_ret
  exact ⟨rfl, rfl⟩
theorem absw_any (h : w.cell? ⟨b, j, none⟩ = some (.int .u32 (ob o))) (hf : w.frozen? ⟨b, j, none⟩ = false) : Calls Tryz.prog 170 #[.pointer (some ⟨b, j, none⟩), .bool false] w fun e w' => e = .returned (.bool o) ∧ w' = w.drew.setCell ⟨b, j, none⟩ (.int .u32 0) := by
  have hc' : w.drew.cell? ⟨b, j, none⟩ = some (.int .u32 (ob o)) := h
  have hz' : w.drew.frozen? ⟨b, j, none⟩ = false := hf
  have hst := run_call_swapQ (P := Tryz.prog) (f := 203) (k := .u32) (y := 0) Tryz.func203 (by kernel_rfl) (by kernel_rfl) (by kernel_rfl) (by kernel_rfl) hc' hz'
  have hb := b32_false
  cases o
  · simp only [ob] at hst
    clear h hf hc' hz'
    go_enter Tryz.func170, Tryz.ntmps170
    go_upto_region 1 with (fail)
    go_region_with (go_at_call 165; refine (hb _).mono ?_; rintro e w1 ⟨rfl, rfl⟩)
    all_goals (go_wp2_with fail; go_ret; exact ⟨rfl, rfl⟩)
  · simp only [ob] at hst
    clear h hf hc' hz'
    go_enter Tryz.func170, Tryz.ntmps170
    go_upto_region 1 with (fail)
    go_region_with (go_at_call 165; refine (hb _).mono ?_; rintro e w1 ⟨rfl, rfl⟩)
    all_goals (go_wp2_with fail; go_ret; exact ⟨rfl, rfl⟩)
end
end Go.Proofs.YtdigjklhfimnbaaGreat
