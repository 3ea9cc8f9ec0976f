/- Texts Fx of this proof, in one. No conditions but on lengths. -/
import Derived.Test.YthnajpckhoomgaaGreatRows
import Derived.Test.YthnajpckhoomgaaGreatU18
import Derived.Test.YthnajpckhoomgaaGreatU26
import Derived.Test.YthnajpckhoomgaaGreatU30
import Derived.ArgAppend
import Derived.Below
import Derived.BigQuiet
import Derived.Calls
import Derived.ChangeArms
import Derived.ChangeKeysEq
import Derived.ChangeMade
import Derived.ChangeOld
import Derived.Deep.Cut
import Derived.Deep.QuietTactic
import Derived.Deep.RegionLaw
import Derived.Deep.RegionWith
import Derived.Deep.Slices
import Derived.Laws.AppendOwnNone
import Derived.Laws.BitsLemmas
import Derived.Laws.BytesArg
import Derived.Laws.LoneSync
import Derived.Laws.OwnMore
import Derived.Laws.StructEq
import Derived.Lib.ConvBytes
import Derived.Lib.Hide
import Derived.Lib.QuietBelow
import Derived.LoopIn
import Derived.LoopTactic
import Derived.Maps.AppendAt
import Derived.OpenShut
import Derived.Orders
import Derived.Outline
import Derived.OwnWalkIn
import Derived.ProofKit
import Derived.RangeFuncBox
import Derived.RangeFuncCalls
import Derived.RangeFuncLeaves
import Derived.RangeFuncNested
import Derived.Shelf.RegionOpen
import Derived.ShutString
import Derived.StillTail
import Derived.TacticsInMore
import Derived.WalkKit
import Derived.WalkSpells
import Derived.WideShapes
namespace Go.Proofs.YthnajpckhoomgaaGreat
set_option maxRecDepth 100000
set_option linter.unusedVariables false
open Go.RowKit
open Go.RowKit Go.WideShapes Go.ChangeShapes
open Go.RowKit Go.Sort
/-- A part: its kind, a beacon, a batch, acks, a packet. -/
structure Pt where
  k : Int
  be : Int
  es : List (Int × Int)
  bn : Int
  os : List Ob
  ks : List (Int × Int × Int × Int)
  s : Int
  d : Int
  t : Int
  n : Int
  x : ByteArray
def zPt : Pt := ⟨0, 0, [], 0, [], [], 0, 0, 0, 0, ⟨#[]⟩⟩
def Pt.noBe (p : Pt) : Prop := p.be = 0 ∧ p.es.length = 0
def Pt.noBt (p : Pt) : Prop := p.bn = 0 ∧ p.os.length = 0
def Pt.noAk (p : Pt) : Prop := p.ks.length = 0
def Pt.noPk (p : Pt) : Prop := p.s = 0 ∧ p.d = 0 ∧ p.t = 0 ∧ p.n = 0 ∧ p.x = ⟨#[]⟩
instance (p : Pt) : Decidable p.noBe := by unfold Pt.noBe; infer_instance
instance (p : Pt) : Decidable p.noBt := by unfold Pt.noBt; infer_instance
instance (p : Pt) : Decidable p.noAk := by unfold Pt.noAk; infer_instance
instance (p : Pt) : Decidable p.noPk := by unfold Pt.noPk; infer_instance
/-- A part that is right. -/
def Pt.Ok (p : Pt) : Prop :=
  (p.k = 1 ∧ BeOk p.be p.es ∧ p.noBt ∧ p.noAk ∧ p.noPk) ∨ (p.k = 2 ∧ p.noBe ∧ BtOk p.bn p.os ∧ p.noAk ∧ p.noPk) ∨
  (p.k = 3 ∧ p.noBe ∧ p.noBt ∧ AksOk p.ks ∧ p.noPk) ∨ (p.k = 4 ∧ p.noBe ∧ p.noBt ∧ p.noAk ∧ PkOk p.s p.d p.t p.n p.x)
instance (p : Pt) : Decidable p.Ok := by unfold Pt.Ok; infer_instance
/-- What a part has, as bytes; the part's bytes. -/
def Pt.bs (p : Pt) : List Int := if p.k = 1 then beB p.be p.es else if p.k = 2 then btB p.bn p.os else if p.k = 3 then acB p.ks else pkB p.s p.d p.t p.n p.x
def Pt.row (p : Pt) : List Int := [p.k, (p.bs.length : Int) / 256, (p.bs.length : Int) % 256] ++ p.bs
def psB (ps : List Pt) : List Int := (ps.map Pt.row).flatten
def AllP (ps : List Pt) : Prop := ∀ i, i < ps.length → (ps.getD i zPt).Ok
instance (ps : List Pt) : Decidable (AllP ps) := by unfold AllP; infer_instance
theorem Pt.row_len (p : Pt) : p.row.length = 3 + p.bs.length := by simp [Pt.row]; omega
theorem psB_cons (p : Pt) (ps : List Pt) : psB (p :: ps) = p.row ++ psB ps := rfl
theorem psB_step (ps : List Pt) (k : Nat) (h : k < ps.length) : psB (ps.take (k + 1)) = psB (ps.take k) ++ (ps.getD k zPt).row := by
  unfold psB
  rw [List.take_succ_eq_append_getElem h, List.map_append, List.flatten_append]; simp [List.getD, h]
theorem allP_cons {p : Pt} {ps : List Pt} : AllP (p :: ps) ↔ p.Ok ∧ AllP ps :=
  ⟨fun h => ⟨h 0 (by simp), fun i hi => h (i + 1) (by simpa using hi)⟩, fun ⟨h, h'⟩ i hi => match i with
    | 0 => h
    | i + 1 => h' i (by simpa using hi)⟩
theorem btB_byt {N : Int} {ys : List Ob} (h : BtOk N ys) : Byt (btB N ys) := by
  obtain ⟨hN, hl, hok, _⟩ := h
  unfold btB
  refine byt_app (fun x hx => ?_) (fun x hx => ?_)
  · simp only [List.mem_cons, List.not_mem_nil, or_false] at hx
    rcases hx with rfl | rfl | rfl <;> omega
  · obtain ⟨l, hm, hxl⟩ := List.mem_flatten.1 hx
    obtain ⟨y, hy, rfl⟩ := List.mem_map.1 hm
    obtain ⟨i, hi, rfl⟩ := List.mem_iff_getElem.1 hy
    have := hok i hi
    rw [show ys.getD i z12 = ys[i] by simp [List.getD, hi]] at this
    exact ob_byt this x hxl
theorem btB_len (N : Int) (ys : List Ob) : (btB N ys).length = 3 + osz ys := by
  unfold btB; rw [List.length_append, bs_flat_len]; rfl
theorem Pt.bs_byt {p : Pt} (h : p.Ok) : ∀ x ∈ p.bs, 0 ≤ x ∧ x < 256 := by
  unfold Pt.bs
  rcases h with ⟨hk, h, _⟩ | ⟨hk, _, h, _⟩ | ⟨hk, _, _, h, _⟩ | ⟨hk, _, _, _, h⟩ <;> rw [hk]
  · exact beB_byt h
  · exact btB_byt h
  · exact byt_acB h
  · exact pkB_byt h
theorem BeOk.len' {M : Int} {ys : List (Int × Int)} (h : BeOk M ys) : (beB M ys).length ≤ 325 := by rw [beB_len]; have := h.len; omega
theorem Pt.bs_len {p : Pt} (h : p.Ok) : p.bs.length ≤ 600 := by
  unfold Pt.bs
  rcases h with ⟨hk, h, _⟩ | ⟨hk, _, h, _⟩ | ⟨hk, _, _, h, _⟩ | ⟨hk, _, _, _, h⟩ <;> rw [hk]
  · have := h.len'; simp only [if_true]; omega
  · rw [if_neg (by decide), if_pos rfl, btB_len]
    have := h.2.2.2
    omega
  · rw [if_neg (by decide), if_neg (by decide), if_pos rfl, acB_len]
    have := h.2; omega
  · rw [if_neg (by decide), if_neg (by decide), if_neg (by decide), pkB_len]
    have := h.2.2.2.2; omega
theorem Pt.row_byt {p : Pt} (h : p.Ok) : ∀ x ∈ p.row, 0 ≤ x ∧ x < 256 := fun x hx => by
  have hl := Pt.bs_len h
  have hk : 1 ≤ p.k ∧ p.k ≤ 4 := by rcases h with ⟨hk, _⟩ | ⟨hk, _⟩ | ⟨hk, _⟩ | ⟨hk, _⟩ <;> omega
  rcases List.mem_append.1 hx with hx | hx
  · simp only [List.mem_cons, List.not_mem_nil, or_false] at hx
    rcases hx with rfl | rfl | rfl <;> omega
  · exact Pt.bs_byt h x hx
theorem psB_byt {ps : List Pt} (h : AllP ps) : ∀ x ∈ psB ps, 0 ≤ x ∧ x < 256 := by
  induction ps with
  | nil => intro x hx; cases hx
  | cons p ps ih =>
    intro x hx
    obtain ⟨h1, h2⟩ := allP_cons.1 h
    rcases List.mem_append.1 hx with hx | hx
    · exact Pt.row_byt h1 x hx
    · exact ih h2 x hx
theorem psB_len {ps : List Pt} (h : AllP ps) : (psB ps).length ≤ 603 * ps.length := by
  induction ps with
  | nil => simp [psB]
  | cons p ps ih =>
    obtain ⟨h1, h2⟩ := allP_cons.1 h
    have := ih h2
    have := Pt.bs_len h1
    rw [psB_cons, List.length_append, Pt.row_len, List.length_cons]; omega
def FrHd (fr ep tq pe : Int) (n : Nat) : Prop := (0 ≤ fr ∧ fr < 64) ∧ ((0 ≤ tq ∧ tq < 64) ∨ (tq = 255 ∧ pe = 0)) ∧ EpOk ep ∧ EpOk pe ∧ 1 ≤ n ∧ n ≤ 8
instance (fr ep tq pe : Int) (n : Nat) : Decidable (FrHd fr ep tq pe n) := by unfold FrHd; infer_instance
/-- A frame that is right. -/
def FrOk (fr ep tq pe : Int) (ps : List Pt) : Prop := FrHd fr ep tq pe ps.length ∧ AllP ps ∧ 17 + (psB ps).length ≤ 1400
instance (fr ep tq pe : Int) (ps : List Pt) : Decidable (FrOk fr ep tq pe ps) := by unfold FrOk; infer_instance
def frHead (fr ep tq pe n c : Int) : List Int := [84, 1, fr, tq] ++ (lo ep 4 ++ (lo pe 4 ++ [n / 256, n % 256, c]))
def frB0 (fr ep tq pe : Int) (ps : List Pt) : List Int := frHead fr ep tq pe (17 + ((psB ps).length : Int)) ps.length ++ psB ps
/-- A frame's bytes. -/
def frB (fr ep tq pe : Int) (ps : List Pt) : List Int := frB0 fr ep tq pe ps ++ [sumN (frB0 fr ep tq pe ps) / 256, sumN (frB0 fr ep tq pe ps) % 256]
theorem frHead_len (fr ep tq pe n c : Int) : (frHead fr ep tq pe n c).length = 15 := by simp [frHead, lo_len]
theorem frB0_len (fr ep tq pe : Int) (ps : List Pt) : (frB0 fr ep tq pe ps).length = 15 + (psB ps).length := by rw [frB0, List.length_append, frHead_len]
theorem frB_len (fr ep tq pe : Int) (ps : List Pt) : (frB fr ep tq pe ps).length = 17 + (psB ps).length := by rw [frB, List.length_append, frB0_len]; simp; omega
theorem sumN_bd (xs : List Int) : 0 ≤ sumN xs ∧ sumN xs ≤ 65535 := by
  have := sumP_bd xs; unfold sumN; omega
theorem frHead_byt {fr ep tq pe n c : Int} (hf : 0 ≤ fr ∧ fr < 256) (ht : 0 ≤ tq ∧ tq < 256) (hn : 0 ≤ n ∧ n ≤ 65535) (hc : 0 ≤ c ∧ c < 256) : ∀ x ∈ frHead fr ep tq pe n c, 0 ≤ x ∧ x < 256 := fun x hx => by
  rcases List.mem_append.1 hx with hx | hx
  · simp only [List.mem_cons, List.not_mem_nil, or_false] at hx
    rcases hx with rfl | rfl | rfl | rfl <;> omega
  · rcases List.mem_append.1 hx with hx | hx
    · exact lo_bytes ep 4 x hx
    · rcases List.mem_append.1 hx with hx | hx
      · exact lo_bytes pe 4 x hx
      · simp only [List.mem_cons, List.not_mem_nil, or_false] at hx
        rcases hx with rfl | rfl | rfl <;> omega
theorem FrHd.lo {fr ep tq pe : Int} {n : Nat} (h : FrHd fr ep tq pe n) : (0 ≤ fr ∧ fr < 256) ∧ (0 ≤ tq ∧ tq < 256) ∧ ((0 : Int) ≤ n ∧ (n : Int) < 256) := by
  obtain ⟨h1, h2, _, _, h5⟩ := h
  refine ⟨by omega, ?_, by omega⟩
  rcases h2 with h2 | h2 <;> omega
theorem frB0_byt {fr ep tq pe : Int} {ps : List Pt} (h : FrOk fr ep tq pe ps) : ∀ x ∈ frB0 fr ep tq pe ps, 0 ≤ x ∧ x < 256 := fun x hx => by
  obtain ⟨a, b, c⟩ := h.1.lo
  rcases List.mem_append.1 hx with hx | hx
  · exact frHead_byt a b (by have := h.2.2; omega) c x hx
  · exact psB_byt h.2.1 x hx
theorem frB_byt {fr ep tq pe : Int} {ps : List Pt} (h : FrOk fr ep tq pe ps) : ∀ x ∈ frB fr ep tq pe ps, 0 ≤ x ∧ x < 256 := fun x hx => by
  rcases List.mem_append.1 hx with hx | hx
  · exact frB0_byt h x hx
  · have := sumN_bd (frB0 fr ep tq pe ps)
    simp only [List.mem_cons, List.not_mem_nil, or_false] at hx
    rcases hx with rfl | rfl <;> omega
theorem bs_k2 {p : Pt} (h : p.k = 2) : p.bs = btB p.bn p.os := by unfold Pt.bs; rw [if_neg (by omega), if_pos h]
theorem bs_k3 {p : Pt} (h : p.k = 3) : p.bs = acB p.ks := by unfold Pt.bs; rw [if_neg (by omega), if_neg (by omega), if_pos h]
structure Fr where
  fr : Int
  ep : Int
  tq : Int
  pe : Int
  ps : List Pt
theorem eqk_iff {a b c d : Int} {x : ByteArray} {a' b' c' d' : Int} {x' : ByteArray} : eqK a b c d x a' b' c' d' x' = true ↔ (a, b, c, d, x) = (a', b', c', d', x') := by simp [eqK, ByteArray.toList_eq, ByteArray.ext_iff]
/-- A part's eleven cells. -/
structure RPt where
  k : Int
  be : Int
  a1 : Option Addr
  l1 : Nat
  c1 : Nat
  bn : Int
  a2 : Option Addr
  l2 : Nat
  c2 : Nat
  a3 : Option Addr
  l3 : Nat
  c3 : Nat
  s : Int
  d : Int
  t : Int
  n : Int
  x : ByteArray
def zR : RPt := ⟨0, 0, none, 0, 0, 0, none, 0, 0, none, 0, 0, 0, 0, 0, 0, ⟨#[]⟩⟩
def RPt.cl (r : RPt) : List Value := [.int .i64 r.k, .int .i64 r.be, .slice r.a1 r.l1 r.c1, .int .i64 r.bn, .slice r.a2 r.l2 r.c2, .slice r.a3 r.l3 r.c3, .int .i64 r.s, .int .i64 r.d, .int .i64 r.t, .int .i64 r.n, .string r.x]
theorem infoPT : (Tryz.prog.info? 77).map (fun i => (i.zero, i.size, i.bytes)) = some (some (.agg #[.int .i64 0, .int .i64 0, .slice none 0 0, .int .i64 0, .slice none 0 0, .slice none 0 0, .int .i64 0, .int .i64 0, .int .i64 0, .int .i64 0, .string ⟨#[]⟩]), 11, 144) := by kernel_rfl
theorem underPS : Tryz.prog.underlying 40 = some (.slice 77) := by kernel_rfl
theorem cellsPT : Tryz.prog.cellsOf 77 = 11 := by kernel_rfl
theorem rpt_ones (r : RPt) : ∀ u ∈ r.cl, u.oneCell' = true := by
  intro u hu
  simp only [RPt.cl, List.mem_cons, List.not_mem_nil, or_false] at hu
  rcases hu with rfl | rfl | rfl | rfl | rfl | rfl | rfl | rfl | rfl | rfl | rfl <;> rfl
/-- Rows of parts. -/
noncomputable def RP : RowT where
  α := RPt
  d := zR
  cl := RPt.cl
  K := 11
  T := 77
  SL := 40
  zero := .agg #[.int .i64 0, .int .i64 0, .slice none 0 0, .int .i64 0, .slice none 0 0, .slice none 0 0, .int .i64 0, .int .i64 0, .int .i64 0, .int .i64 0, .string ⟨#[]⟩]
  bytes := 144
  hcl := fun _ => rfl
  hK := by decide
  hone := rpt_ones
  hSL := underPS
  hinfo := infoPT
  hz := rfl
  hb := by decide
  hc := cellsPT
/-- What the slices of a part read as. -/
structure RPt.Rd (w : World) (r : RPt) (p : Pt) : Prop where
  k : r.k = p.k
  be : r.be = p.be
  es : El w (.slice r.a1 r.l1 r.c1) p.es
  bn : r.bn = p.bn
  os : Os w (.slice r.a2 r.l2 r.c2) p.os
  ks : As w (.slice r.a3 r.l3 r.c3) p.ks
  s : r.s = p.s
  d : r.d = p.d
  t : r.t = p.t
  n : r.n = p.n
  x : r.x = p.x
theorem RPt.Rd.below {w w' : World} {r : RPt} {p : Pt} (h : r.Rd w p) (hb : Below w.heap.size w w') : r.Rd w' p :=
  ⟨h.k, h.be, h.es.below hb, h.bn, h.os.below hb, h.ks.below hb, h.s, h.d, h.t, h.n, h.x⟩
theorem RPt.Rd.l1 {w : World} {r : RPt} {p : Pt} (h : r.Rd w p) : r.l1 = p.es.length := by
  obtain ⟨a, c, e⟩ := h.es.1.form; simp only [Value.slice.injEq] at e; exact e.2.1
theorem RPt.Rd.l2 {w : World} {r : RPt} {p : Pt} (h : r.Rd w p) : r.l2 = p.os.length := by
  obtain ⟨a, c, e⟩ := h.os.form; simp only [Value.slice.injEq] at e; exact e.2.1
theorem RPt.Rd.l3 {w : World} {r : RPt} {p : Pt} (h : r.Rd w p) : r.l3 = p.ks.length := by
  obtain ⟨a, c, e⟩ := h.ks.form; simp only [Value.slice.injEq] at e; exact e.2.1
/-- A slice of parts that reads as ps. -/
def Ps (w : World) (v : Value) (ps : List Pt) : Prop := ∃ rs : List RPt, rs.length = ps.length ∧ Gs RP w v rs ∧ ∀ i, i < ps.length → (rs.getD i zR).Rd w (ps.getD i zPt)
theorem Ps.below {w w' : World} {v : Value} {ps : List Pt} (h : Ps w v ps) (hb : Below w.heap.size w w') : Ps w' v ps := by
  obtain ⟨rs, h1, h2, h3⟩ := h
  exact ⟨rs, h1, h2.below hb, fun i hi => (h3 i hi).below hb⟩
theorem Ps.alloc {w : World} {v : Value} {ps : List Pt} (h : Ps w v ps) (O : Obj) : Ps (w.alloc O) v ps := h.below ((Below.refl _ _).alloc (Nat.le_refl _) O)
theorem Ps.form {w : World} {v : Value} {ps : List Pt} (h : Ps w v ps) : ∃ a c, v = .slice a ps.length c := by
  obtain ⟨rs, h1, h2, _⟩ := h
  obtain ⟨a, c, e⟩ := h2.form
  exact ⟨a, c, e.trans (congrArg (fun n => Value.slice a n c) h1)⟩
/-- A part's cells, wherever they lie. -/
def C11 (w : World) (b o : Nat) (r : RPt) : Prop := w.cell? ⟨b, o, none⟩ = some (.int .i64 r.k) ∧ w.cell? ⟨b, o + 1, none⟩ = some (.int .i64 r.be) ∧ w.cell? ⟨b, o + 2, none⟩ = some (.slice r.a1 r.l1 r.c1) ∧ w.cell? ⟨b, o + 3, none⟩ = some (.int .i64 r.bn) ∧ w.cell? ⟨b, o + 4, none⟩ = some (.slice r.a2 r.l2 r.c2) ∧ w.cell? ⟨b, o + 5, none⟩ = some (.slice r.a3 r.l3 r.c3) ∧ w.cell? ⟨b, o + 6, none⟩ = some (.int .i64 r.s) ∧ w.cell? ⟨b, o + 7, none⟩ = some (.int .i64 r.d) ∧ w.cell? ⟨b, o + 8, none⟩ = some (.int .i64 r.t) ∧ w.cell? ⟨b, o + 9, none⟩ = some (.int .i64 r.n) ∧ w.cell? ⟨b, o + 10, none⟩ = some (.string r.x)
theorem c11_of {w : World} {b o : Nat} {r : RPt} (h : GC RP w b o r) : C11 w b o r := ⟨h 0 (by decide), h 1 (by decide), h 2 (by decide), h 3 (by decide), h 4 (by decide), h 5 (by decide), h 6 (by decide), h 7 (by decide), h 8 (by decide), h 9 (by decide), h 10 (by decide)⟩
theorem Ps.at {w : World} {a : Option Addr} {c : Nat} {ps : List Pt} (h : Ps w (.slice a ps.length c) ps) {i : Nat} (hi : i < ps.length) : ∃ b off r, a = some ⟨b, off, none⟩ ∧ b < w.heap.size ∧ C11 w b (off + i * 11) r ∧ r.Rd w (ps.getD i zPt) := by
  obtain ⟨rs, h1, h2, h3⟩ := h
  rw [← h1] at h2
  have hi' : i < rs.length := by omega
  obtain ⟨b, off, e, hb, hc⟩ := Gs.at (R := RP) h2 (i := i) hi'
  exact ⟨b, off, rs.getD i zR, e, hb, c11_of hc, h3 i hi⟩
/-- A row of parts of the call's own. -/
def PsOwn (w : World) (S : Nat) (v : Value) (ps : List Pt) : Prop := ∃ rs : List RPt, rs.length = ps.length ∧ w.ownsRow S 77 11 v rs.length (gflat RP rs) ∧ ∀ i, i < ps.length → (rs.getD i zR).Rd w (ps.getD i zPt)
theorem PsOwn.ps {w : World} {S : Nat} {v : Value} {ps : List Pt} (h : PsOwn w S v ps) : Ps w v ps := by
  obtain ⟨rs, h1, h2, h3⟩ := h
  exact ⟨rs, h1, (Gs_of_own (R := RP) h2).1, h3⟩
theorem PsOwn.below {w w' : World} {S : Nat} {v : Value} {ps : List Pt} (h : PsOwn w S v ps) (hb : Below w.heap.size w w') : PsOwn w' S v ps := by
  obtain ⟨rs, h1, h2, h3⟩ := h
  exact ⟨rs, h1, gown_below h2 hb, fun i hi => (h3 i hi).below hb⟩
theorem PsOwn.mono {w : World} {S B : Nat} {v : Value} {ps : List Pt} (h : PsOwn w S v ps) (hB : B ≤ S) : PsOwn w B v ps := by
  obtain ⟨rs, h1, h2, h3⟩ := h
  exact ⟨rs, h1, gown_mono h2 hB, h3⟩
theorem PsOwn.form {w : World} {S : Nat} {v : Value} {ps : List Pt} (h : PsOwn w S v ps) : ∃ a c, v = .slice a ps.length c := h.ps.form
def OwnT (w : World) (b : Nat) (r : RPt) : Prop := (w.cell? ⟨b, 0, none⟩ = some (.int .i64 r.k) ∧ w.cell? ⟨b, 1, none⟩ = some (.int .i64 r.be) ∧ w.cell? ⟨b, 2, none⟩ = some (.slice r.a1 r.l1 r.c1) ∧ w.cell? ⟨b, 3, none⟩ = some (.int .i64 r.bn) ∧ w.cell? ⟨b, 4, none⟩ = some (.slice r.a2 r.l2 r.c2) ∧ w.cell? ⟨b, 5, none⟩ = some (.slice r.a3 r.l3 r.c3) ∧ w.cell? ⟨b, 6, none⟩ = some (.int .i64 r.s) ∧ w.cell? ⟨b, 7, none⟩ = some (.int .i64 r.d) ∧ w.cell? ⟨b, 8, none⟩ = some (.int .i64 r.t) ∧ w.cell? ⟨b, 9, none⟩ = some (.int .i64 r.n) ∧ w.cell? ⟨b, 10, none⟩ = some (.string r.x)) ∧ ∀ j, w.frozen? ⟨b, j, none⟩ = false
theorem ownt_alloc (w : World) (r : RPt) (T : TypeId) (g : Nat) (hg : g = w.heap.size) : OwnT (w.alloc (.cells #[.int .i64 r.k, .int .i64 r.be, .slice r.a1 r.l1 r.c1, .int .i64 r.bn, .slice r.a2 r.l2 r.c2, .slice r.a3 r.l3 r.c3, .int .i64 r.s, .int .i64 r.d, .int .i64 r.t, .int .i64 r.n, .string r.x] T)) g r := by
  subst hg
  exact ⟨⟨by simp, by simp, by simp, by simp, by simp, by simp, by simp, by simp, by simp, by simp, by simp⟩, fun j => by simp⟩
theorem OwnT.lt {w : World} {b : Nat} {r : RPt} (h : OwnT w b r) : b < w.heap.size := World.block_lt_of_cell? w _ h.1.1
theorem C11.low {w w' : World} {b o S : Nat} {r : RPt} (h : C11 w b o r) (hb : b < S) (hB : Below S w w') : C11 w' b o r := by
  have f : ∀ {j : Nat} {v : Value}, w.cell? ⟨b, j, none⟩ = some v → w'.cell? ⟨b, j, none⟩ = some v := fun {j v} h => (hB.cell (p := ⟨b, j, none⟩) hb).trans h
  obtain ⟨h0, h1, h2, h3, h4, h5, h6, h7, h8, h9, h10⟩ := h
  exact ⟨f h0, f h1, f h2, f h3, f h4, f h5, f h6, f h7, f h8, f h9, f h10⟩
theorem C11.below {w w' : World} {b o : Nat} {r : RPt} (h : C11 w b o r) (hb : Below w.heap.size w w') : C11 w' b o r := h.low (World.block_lt_of_cell? w _ h.1) hb
theorem OwnT.low {w w' : World} {b S : Nat} {r : RPt} (h : OwnT w b r) (hb : b < S) (hB : Below S w w') : OwnT w' b r := by
  have f : ∀ {j : Nat} {v : Value}, w.cell? ⟨b, j, none⟩ = some v → w'.cell? ⟨b, j, none⟩ = some v := fun {j v} h => (hB.cell (p := ⟨b, j, none⟩) hb).trans h
  obtain ⟨⟨h0, h1, h2, h3, h4, h5, h6, h7, h8, h9, h10⟩, hf⟩ := h
  exact ⟨⟨f h0, f h1, f h2, f h3, f h4, f h5, f h6, f h7, f h8, f h9, f h10⟩, fun j => (hB.frozen (p := ⟨b, j, none⟩) hb).trans (hf j)⟩
theorem OwnT.below {w w' : World} {b : Nat} {r : RPt} (h : OwnT w b r) (hb : Below w.heap.size w w') : OwnT w' b r := h.low h.lt hb
def OwnF (w : World) (b : Nat) (fr ep tq pe : Int) (v : Value) : Prop := (w.cell? ⟨b, 0, none⟩ = some (.int .i64 fr) ∧ w.cell? ⟨b, 1, none⟩ = some (.int .i64 ep) ∧ w.cell? ⟨b, 2, none⟩ = some (.int .i64 tq) ∧ w.cell? ⟨b, 3, none⟩ = some (.int .i64 pe) ∧ w.cell? ⟨b, 4, none⟩ = some v) ∧ ∀ j, w.frozen? ⟨b, j, none⟩ = false
theorem ownf_alloc (w : World) (fr ep tq pe : Int) (v : Value) (T : TypeId) (g : Nat) (hg : g = w.heap.size) : OwnF (w.alloc (.cells #[.int .i64 fr, .int .i64 ep, .int .i64 tq, .int .i64 pe, v] T)) g fr ep tq pe v := by
  subst hg
  exact ⟨⟨by simp, by simp, by simp, by simp, by simp⟩, fun j => by simp⟩
theorem OwnF.lt {w : World} {b : Nat} {fr ep tq pe : Int} {v : Value} (h : OwnF w b fr ep tq pe v) : b < w.heap.size := World.block_lt_of_cell? w _ h.1.1
theorem OwnF.low {w w' : World} {b S : Nat} {fr ep tq pe : Int} {v : Value} (h : OwnF w b fr ep tq pe v) (hb : b < S) (hB : Below S w w') : OwnF w' b fr ep tq pe v := by
  have f : ∀ {j : Nat} {v : Value}, w.cell? ⟨b, j, none⟩ = some v → w'.cell? ⟨b, j, none⟩ = some v := fun {j v} h => (hB.cell (p := ⟨b, j, none⟩) hb).trans h
  obtain ⟨⟨h0, h1, h2, h3, h4⟩, hf⟩ := h
  exact ⟨⟨f h0, f h1, f h2, f h3, f h4⟩, fun j => (hB.frozen (p := ⟨b, j, none⟩) hb).trans (hf j)⟩
theorem OwnF.below {w w' : World} {b : Nat} {fr ep tq pe : Int} {v : Value} (h : OwnF w b fr ep tq pe v) (hb : Below w.heap.size w w') : OwnF w' b fr ep tq pe v := h.low h.lt hb
def PtFew (p : Pt) : Prop := p.es.length ≤ 1000 ∧ p.os.length ≤ 1000 ∧ p.ks.length ≤ 1000 ∧ p.x.size ≤ 100000 ∧ (p.k = 0 ∨ p.k = 2 ∨ p.k = 3)
/-- A frame's value. -/
def FrV (w : World) (v : Value) (f : Fr) : Prop := ∃ a c, v = .agg #[.int .i64 f.fr, .int .i64 f.ep, .int .i64 f.tq, .int .i64 f.pe, .slice a f.ps.length c] ∧ Ps w (.slice a f.ps.length c) f.ps
theorem FrV.below {w w' : World} {v : Value} {f : Fr} (h : FrV w v f) (hb : Below w.heap.size w w') : FrV w' v f := by
  obtain ⟨a, c, h1, h2⟩ := h
  exact ⟨a, c, h1, h2.below hb⟩
theorem ok_k2 {p : Pt} (h : p.k = 2) : p.Ok ↔ p.noBe ∧ BtOk p.bn p.os ∧ p.noAk ∧ p.noPk := by
  unfold Pt.Ok; rw [h]; simp
theorem ok_k3 {p : Pt} (h : p.k = 3) : p.Ok ↔ p.noBe ∧ p.noBt ∧ AksOk p.ks ∧ p.noPk := by
  unfold Pt.Ok; rw [h]; simp
theorem ok_k0 {p : Pt} (h : p.k ≠ 1 ∧ p.k ≠ 2 ∧ p.k ≠ 3 ∧ p.k ≠ 4) : ¬ p.Ok := by
  rintro (h1 | h1 | h1 | h1)
  · exact h.1 h1.1
  · exact h.2.1 h1.1
  · exact h.2.2.1 h1.1
  · exact h.2.2.2 h1.1
def frL (fr ep tq pe : Int) (ps : List Pt) : List Int := if FrOk fr ep tq pe ps then frB fr ep tq pe ps else []
def frK (fr ep tq pe : Int) (ps : List Pt) : Int := if FrOk fr ep tq pe ps then 0 else 1
def RetF (w : World) (fr ep tq pe : Int) (ps : List Pt) (e : Ending) (w' : World) : Prop :=
  (∃ a c, e = .returned (.tuple #[.slice a (frL fr ep tq pe ps).length c, .int .i64 (frK fr ep tq pe ps)]) ∧ Bs w' (.slice a (frL fr ep tq pe ps).length c) (frL fr ep tq pe ps) ∧ (frL fr ep tq pe ps).length ≤ c ∧ (FrOk fr ep tq pe ps → w'.ownsRow w.heap.size 5 1 (.slice a (frL fr ep tq pe ps).length c) (frL fr ep tq pe ps).length ((frL fr ep tq pe ps).map (Value.int .u8)))) ∧ Below w.heap.size w w'
theorem retf_no {w w' : World} {fr ep tq pe : Int} {ps : List Pt} (h : ¬ FrOk fr ep tq pe ps) (hb : Below w.heap.size w w') : RetF w fr ep tq pe ps (.returned (.tuple #[.slice none 0 0, .int .i64 1])) w' := by
  unfold RetF frL frK
  rw [if_neg h, if_neg h]
  exact ⟨⟨none, 0, rfl, Bs_nil w', Nat.le_refl _, fun h' => absurd h' h⟩, hb⟩
theorem retf_ok {w w' : World} {fr ep tq pe : Int} {ps : List Pt} {v : Value} (h : FrOk fr ep tq pe ps) (ho : w'.ownsRow w.heap.size 5 1 v (frB fr ep tq pe ps).length ((frB fr ep tq pe ps).map (Value.int .u8))) (hb : Below w.heap.size w w') : RetF w fr ep tq pe ps (.returned (.tuple #[v, .int .i64 0])) w' := by
  unfold RetF frL frK
  rw [if_pos h, if_pos h]
  obtain ⟨a, c, rfl⟩ := gown_form ho
  have hc : (frB fr ep tq pe ps).length ≤ c := by
    rcases ho.2 with ⟨h9, h8⟩ | ⟨g, cap, cur, h4, _, _, h5, _⟩
    · simp only [Value.slice.injEq] at h9; omega
    · simp only [Value.slice.injEq] at h4; omega
  exact ⟨⟨a, c, rfl, Bs_of_own ho (frB_byt h) (by rw [frB_len]; have := h.2.2; omega), hc, fun _ => ho⟩, hb⟩
/-- A part whose slices are rows of the call's own. -/
structure RPt.Ow (w : World) (S : Nat) (r : RPt) (p : Pt) : Prop where
  k : r.k = p.k
  be : r.be = p.be
  es : OwE w S (.slice r.a1 r.l1 r.c1) p.es
  bn : r.bn = p.bn
  os : w.ownsRow S 39 12 (.slice r.a2 r.l2 r.c2) p.os.length (flat p.os)
  ks : w.ownsRow S 112 4 (.slice r.a3 r.l3 r.c3) p.ks.length (aflat p.ks)
  s : r.s = p.s
  d : r.d = p.d
  t : r.t = p.t
  n : r.n = p.n
  x : r.x = p.x
theorem RPt.Ow.rd {w : World} {S : Nat} {r : RPt} {p : Pt} (h : r.Ow w S p) : r.Rd w p :=
  ⟨h.k, h.be, h.es.el, h.bn, (Os_of_own h.os).1, (As_of_own h.ks).1, h.s, h.d, h.t, h.n, h.x⟩
theorem RPt.Ow.below {w w' : World} {S : Nat} {r : RPt} {p : Pt} (h : r.Ow w S p) (hb : Below w.heap.size w w') : r.Ow w' S p :=
  ⟨h.k, h.be, gown_below h.es hb, h.bn, gown_below h.os hb, gown_below h.ks hb, h.s, h.d, h.t, h.n, h.x⟩
theorem RPt.Ow.mono {w : World} {S S' : Nat} {r : RPt} {p : Pt} (h : r.Ow w S p) (hS : S' ≤ S) : r.Ow w S' p :=
  ⟨h.k, h.be, gown_mono h.es hS, h.bn, gown_mono h.os hS, gown_mono h.ks hS, h.s, h.d, h.t, h.n, h.x⟩
/-- A row of parts of the call's own, their rows too. -/
def PsOw (w : World) (S : Nat) (v : Value) (ps : List Pt) : Prop := ∃ rs : List RPt, rs.length = ps.length ∧ w.ownsRow S 77 11 v rs.length (gflat RP rs) ∧ ∀ i, i < ps.length → (rs.getD i zR).Ow w S (ps.getD i zPt)
theorem PsOw.own {w : World} {S : Nat} {v : Value} {ps : List Pt} (h : PsOw w S v ps) : PsOwn w S v ps := by
  obtain ⟨rs, h1, h2, h3⟩ := h
  exact ⟨rs, h1, h2, fun i hi => (h3 i hi).rd⟩
theorem PsOw.ps {w : World} {S : Nat} {v : Value} {ps : List Pt} (h : PsOw w S v ps) : Ps w v ps := h.own.ps
theorem PsOw.below {w w' : World} {S : Nat} {v : Value} {ps : List Pt} (h : PsOw w S v ps) (hb : Below w.heap.size w w') : PsOw w' S v ps := by
  obtain ⟨rs, h1, h2, h3⟩ := h
  exact ⟨rs, h1, gown_below h2 hb, fun i hi => (h3 i hi).below hb⟩
theorem PsOw.mono {w : World} {S S' : Nat} {v : Value} {ps : List Pt} (h : PsOw w S v ps) (hS : S' ≤ S) : PsOw w S' v ps := by
  obtain ⟨rs, h1, h2, h3⟩ := h
  exact ⟨rs, h1, gown_mono h2 hS, fun i hi => (h3 i hi).mono hS⟩
theorem PsOw.form {w : World} {S : Nat} {v : Value} {ps : List Pt} (h : PsOw w S v ps) : ∃ a c, v = .slice a ps.length c := h.ps.form
end Go.Proofs.YthnajpckhoomgaaGreat
