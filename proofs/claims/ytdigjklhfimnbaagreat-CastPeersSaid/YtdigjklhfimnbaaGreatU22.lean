/- Texts Sd7, Sd9, Pq1, Pq2 of this proof, in one. No conditions but on lengths. -/
import Derived.Test.YtdigjklhfimnbaaGreatRows
import Derived.Test.YtdigjklhfimnbaaGreatU14
import Derived.Test.YtdigjklhfimnbaaGreatU17
import Derived.ArgAppend
import Derived.Below
import Derived.BigQuiet
import Derived.Calls
import Derived.ChangeArms
import Derived.ChangeMade
import Derived.ChangeOld
import Derived.Deep.Cut
import Derived.Deep.CutBlock
import Derived.Deep.QuietTactic
import Derived.Deep.RegionHeld
import Derived.Deep.RegionLaw
import Derived.Deep.RegionWith
import Derived.Deep.Slices
import Derived.Laws.AppendOwnNone
import Derived.Laws.BytesArg
import Derived.Laws.LoneSync
import Derived.Laws.OwnMore
import Derived.Laws.StructEq
import Derived.Lib.Hide
import Derived.Lib.QuietBelow
import Derived.LoopIn
import Derived.LoopTactic
import Derived.Maps.AppendAt
import Derived.OpenShut
import Derived.Orders
import Derived.Outline
import Derived.OwnWalkIn
import Derived.ProofKit
import Derived.RangeFuncBox
import Derived.RangeFuncCalls
import Derived.RangeFuncLeaves
import Derived.RangeFuncNested
import Derived.Shelf.RegionOpen
import Derived.Shelf.RegionOpenPlain
import Derived.ShutString
import Derived.StillTail
import Derived.TacticsInMore
import Derived.WalkKit
import Derived.WalkLawsBesides
import Derived.WalkSpells
import Derived.WideShapes
namespace Go.Proofs.YtdigjklhfimnbaaGreat
set_option maxRecDepth 100000
open Go.RowKit

theorem chg_grown {w w' : World} {row : Option Nat} (hg : w.grownBy w' row) : Chg (fun k => row = some k) w w' := ⟨hg.os, hg.tape, hg.output, hg.size, fun k hk hn => hg.block k hk (fun e => hn e.symm)⟩
theorem OsO.grown {w w' : World} {F : Nat → Prop} {u : Value} {ys : List Ob} {row : Option Nat} (h : OsO w F u ys) (hg : w.grownBy w' row) (hr : ∀ g, row = some g → ∃ cur fz, w.heap[g]? = some (.cells cur 143 fz)) : OsO w' F u ys := by
  have hne : ∀ a n c, u = .slice (some a) n c → ys ≠ [] → ¬ row = some a.block := fun a n c e hn e2 => by
    obtain ⟨_, cur, fz, h2⟩ := h.2 a n c e hn
    obtain ⟨cur', fz', h3⟩ := hr a.block e2
    rw [h2] at h3
    cases h3
  refine ⟨h.1.chg (chg_grown hg) (fun a n c e hn => hne a n c e hn), fun a n c e hn => ?_⟩
  obtain ⟨h1, cur, fz, h2⟩ := h.2 a n c e hn
  exact ⟨h1, cur, fz, (hg.block a.block (some_lt h2) (fun e2 => hne a n c e hn e2.symm)).trans h2⟩
end Go.Proofs.YtdigjklhfimnbaaGreat
namespace Go.Proofs.YtdigjklhfimnbaaGreat
set_option maxRecDepth 100000
open Go.RowKit

structure RowF (w : World) (S : Nat) (F : Nat → Prop) (v : Value) (ys : List Ob) : Prop where
  own : OwO w S v ys
  off : ∀ g, v.ownBlock = some g → ¬ F g
theorem RowF.lt {w : World} {S : Nat} {F : Nat → Prop} {v : Value} {ys : List Ob} (h : RowF w S F v ys) : ∀ g, v.ownBlock = some g → S ≤ g ∧ g < w.heap.size := fun g hg => World.ownsRow.lt h.own g hg
theorem RowF.form {w : World} {S : Nat} {F : Nat → Prop} {v : Value} {ys : List Ob} (h : RowF w S F v ys) : ∃ a c, v = .slice a ys.length c := own_form h.own
theorem RowF.below {w w' : World} {S : Nat} {F : Nat → Prop} {v : Value} {ys : List Ob} (h : RowF w S F v ys) (hb : Below w.heap.size w w') : RowF w' S F v ys := ⟨h.own.below hb, h.off⟩
/-- One row lies apart from another one. -/
def Apart (u v : Value) : Prop := ∀ g, u.ownBlock = some g → ¬ v.ownBlock = some g
theorem Apart.symm {u v : Value} (h : Apart u v) : Apart v u := fun g h1 h2 => h g h2 h1
theorem RowF.kept {w w' : World} {S : Nat} {F : Nat → Prop} {v u : Value} {ys : List Ob} (h : RowF w S F v ys) (hg : w.grownBy w' u.ownBlock) (ha : Apart v u) : RowF w' S F v ys :=
  ⟨own_chg h.own (chg_grown hg) (fun g h1 h2 => ha g h1 h2), h.off⟩
theorem One.grown {PS : World → (Nat → Prop) → Nat → Sd → Prop} (dc : Dc PS) {w0 w w' : World} {F : Nat → Prop} {b : Nat} {s : Sd} {v : Value} {ys : List Ob} (h : One PS w0 w F b s) (hv : RowF w w0.heap.size F v ys) (hg : w.grownBy w' v.ownBlock) : One PS w0 w' F b s :=
  ⟨dc.keep h.ps (chg_grown hg) (fun k hk e => hv.off k e hk), h.new, h.bel.grown hg h.bel.size (fun k hk => (hv.lt k hk).1)⟩
theorem gt_W (s : Sd) (a : Ak) : (gtS s a).W = s.W ∧ (gtS s a).nx = s.nx := by unfold gtS; split <;> exact ⟨rfl, rfl⟩
end Go.Proofs.YtdigjklhfimnbaaGreat
namespace Go.Proofs.YtdigjklhfimnbaaGreat
set_option maxRecDepth 100000
set_option linter.unusedVariables false
open Go.RowKit

theorem infoPTz : (Tryz.prog.info? 170).map (fun i => (i.zero, i.size, i.bytes)) = some (some (.pointer none), 1, 8) := by kernel_rfl
theorem underPR : Tryz.prog.underlying 152 = some (.slice 170) := by kernel_rfl
theorem cellsPTz : Tryz.prog.cellsOf 170 = 1 := by kernel_rfl
theorem cellsOB : Tryz.prog.cellsOf 41 = 12 := by kernel_rfl
abbrev ptr (p : Nat) : Value := .pointer (some ⟨p, 0, none⟩)
noncomputable def RPT : RowT where
  α := Nat
  d := 0
  cl := fun p => [ptr p]
  K := 1
  T := 170
  SL := 152
  zero := .pointer none
  bytes := 8
  hcl := fun _ => rfl
  hK := by decide
  hone := fun y u hu => by simp only [List.mem_singleton] at hu; subst hu; rfl
  hSL := underPR
  hinfo := infoPTz
  hz := rfl
  hb := by decide
  hc := cellsPTz
noncomputable def ROB : RowT where
  α := Ob
  d := z12
  cl := Ob.cl
  K := 12
  T := 41
  SL := 31
  zero := .agg #[.int .i64 0, .int .i64 0, .bool false, .int .i64 0, .int .i64 0, .int .i64 0, .int .i64 0, .int .i64 0, .int .i64 0, .int .i64 0, .int .i64 0, .int .i64 0]
  bytes := 96
  hcl := fun _ => rfl
  hK := by decide
  hone := fun y u hu => by
    simp only [Ob.cl, List.mem_cons, List.not_mem_nil, or_false] at hu
    rcases hu with rfl | rfl | rfl | rfl | rfl | rfl | rfl | rfl | rfl | rfl | rfl | rfl <;> rfl
  hSL := underSL
  hinfo := infoOB
  hz := rfl
  hb := by decide
  hc := cellsOB
theorem chg_pt (w : World) (b j : Nat) (u : Value) : Chg (fun k => k = b) w (w.setCell ⟨b, j, none⟩ u) := Chg.setCell (F := fun k => k = b) (p := ⟨b, j, none⟩) (Chg.refl _ w) (.inl rfl) u
/-- A row of pointers of one's own. -/
def OwP (w : World) (v : Value) (ps : List Nat) : Prop := w.ownsRow 0 170 1 v ps.length (gflat RPT ps)
/-- A block of that type. -/
def BlkT (w : World) (k : Nat) (t : TypeId) : Prop := ∃ cur fz, w.heap[k]? = some (.cells cur t fz)
theorem BlkT.ne {w : World} {k k' : Nat} {t t' : TypeId} (h : BlkT w k t) (h' : BlkT w k' t') (ht : t ≠ t') : k ≠ k' := fun e => by
  subst e
  obtain ⟨c, f, h1⟩ := h
  obtain ⟨c', f', h2⟩ := h'
  rw [h1] at h2
  cases h2
  exact ht rfl
theorem BlkT.chg {F : Nat → Prop} {w w' : World} {k : Nat} {t : TypeId} (h : BlkT w k t) (hc : Chg F w w') (hk : ¬ F k) : BlkT w' k t := by
  obtain ⟨c, f, h1⟩ := h
  exact ⟨c, f, (hc.block k (some_lt h1) hk).trans h1⟩
theorem own_blk {w : World} {S size n g : Nat} {e : TypeId} {v : Value} {xs : List Value} (h : w.ownsRow S e size v n xs) (hg : v.ownBlock = some g) : BlkT w g e := by
  rcases h.2 with ⟨rfl, _⟩ | ⟨g', cap, cur, rfl, _, hh, _⟩
  · cases hg
  · cases hg
    exact ⟨cur, (0, 0), hh⟩
/-- A slice that reads as objects, in a block of F that is none of what waits. -/
structure ObI (w : World) (F : Nat → Prop) (vW u : Value) (ys : List Ob) : Prop where
  os : Os w u ys
  one : u.oneCell' = true
  blk : ∀ a n c, u = .slice (some a) n c → ys ≠ [] → F a.block ∧ BlkT w a.block 41 ∧ ¬ vW.ownBlock = some a.block
/-- A batch that is out, in memory, with how often it was sent. -/
structure SndAt (w : World) (F : Nat → Prop) (vW : Value) (p : Nat) (e : Bt × Int) : Prop where
  f : F p
  cell : ∃ u, w.heap[p]? = some (.cells #[.int .i64 e.1.1, u, .int .i64 e.2] 176) ∧ ObI w F vW u e.1.2
abbrev Zs1 := List (Nat × Bt × Int)
theorem pushR_full {s : Sd} {y : Ob} (h : y.Ok) (hl : 1024 ≤ s.W.length) : pushR s y = (8, s) := by unfold pushR; rw [if_pos h, if_pos hl]
theorem pushR_ok {s : Sd} {y : Ob} (h : y.Ok) (hl : ¬ 1024 ≤ s.W.length) : pushR s y = (0, { s with W := s.W ++ [y] }) := by unfold pushR; rw [if_pos h, if_neg hl]
theorem pushR_no {s : Sd} {y : Ob} (h : ¬ y.Ok) : pushR s y = (1, s) := by unfold pushR; rw [if_neg h]
/-- The program's sender. -/
structure PZ (w : World) (F : Nat → Prop) (b : Nat) (s : Sd) (Z : Zs1) (vW vO : Value) : Prop where
  lt : ∀ k, F k → k < w.heap.size
  fb : F b
  hp : w.heap[b]? = some (.cells #[.int .i64 s.win, .int .i64 s.tries, .int .i64 s.nx, vW, vO] 154)
  wt : OwO w 0 vW s.W
  wf : ∀ g, vW.ownBlock = some g → F g
  ot : OwP w vO (Z.map Prod.fst)
  of : ∀ g, vO.ownBlock = some g → F g
  zl : s.L = Z.map Prod.snd
  nd : (Z.map Prod.fst).Nodup
  snd : ∀ z ∈ Z, SndAt w F vW z.1 z.2
def PS (w : World) (F : Nat → Prop) (b : Nat) (s : Sd) : Prop := SdOk s ∧ ∃ Z vW vO, PZ w F b s Z vW vO
/-- F, and what is new. -/
def FN (F : Nat → Prop) (w w' : World) : Nat → Prop := fun k => F k ∨ (w.heap.size ≤ k ∧ k < w'.heap.size)
theorem FN.lt {F : Nat → Prop} {w w' : World} (h : ∀ k, F k → k < w.heap.size) (hs : w.heap.size ≤ w'.heap.size) : ∀ k, FN F w w' k → k < w'.heap.size := fun k hk => hk.elim (fun h2 => Nat.lt_of_lt_of_le (h k h2) hs) (fun h2 => h2.2)
theorem FN.up {F : Nat → Prop} {w w1 w2 : World} (h1 : w.heap.size ≤ w1.heap.size) (h2 : w1.heap.size ≤ w2.heap.size) : ∀ k, FN (FN F w w1) w1 w2 k ↔ FN F w w2 k := fun k => by
  unfold FN
  constructor
  · rintro ((h | h) | h)
    · exact .inl h
    · exact .inr ⟨h.1, by omega⟩
    · exact .inr ⟨by omega, h.2⟩
  · rintro (h | h)
    · exact .inl (.inl h)
    · by_cases hk : k < w1.heap.size
      · exact .inl (.inr ⟨h.1, hk⟩)
      · exact .inr ⟨by omega, h.2⟩
theorem FN.new {F : Nat → Prop} {w w' : World} : ∀ k, FN F w w' k → F k ∨ w.heap.size ≤ k := fun k hk => hk.imp (fun h => h) (fun h => h.1)
theorem ObI.chg {F G : Nat → Prop} {w w' : World} {vW u : Value} {ys : List Ob} (h : ObI w F vW u ys) (hc : Chg G w w') (hG : ∀ k, F k → BlkT w k 41 → ¬ vW.ownBlock = some k → ¬ G k) : ObI w' F vW u ys :=
  ⟨h.os.chg hc (fun a n c e hn => by obtain ⟨h1, h2, h3⟩ := h.blk a n c e hn; exact hG _ h1 h2 h3), h.one, fun a n c e hn => by obtain ⟨h1, h2, h3⟩ := h.blk a n c e hn; exact ⟨h1, h2.chg hc (hG _ h1 h2 h3), h3⟩⟩
theorem ObI.mono {F F' : Nat → Prop} {w : World} {vW u : Value} {ys : List Ob} (h : ObI w F vW u ys) (hF : ∀ k, F k → F' k) : ObI w F' vW u ys := ⟨h.os, h.one, fun a n c e hn => by obtain ⟨h1, h2, h3⟩ := h.blk a n c e hn; exact ⟨hF _ h1, h2, h3⟩⟩
/-- Another row of what waits: the elder block, or a new one. -/
theorem ObI.row {F : Nat → Prop} {w w0 : World} {vW vW' u : Value} {ys : List Ob} (h : ObI w F vW u ys) (hF : ∀ k, F k → k < w0.heap.size) (hv : ∀ g, vW'.ownBlock = some g → vW.ownBlock = some g ∨ w0.heap.size ≤ g) : ObI w F vW' u ys :=
  ⟨h.os, h.one, fun a n c e hn => by
    obtain ⟨h1, h2, h3⟩ := h.blk a n c e hn
    exact ⟨h1, h2, fun e2 => (hv _ e2).elim h3 (fun h4 => by have := hF _ h1; omega)⟩⟩
theorem SndAt.blk {w : World} {F : Nat → Prop} {vW : Value} {p : Nat} {e : Bt × Int} (h : SndAt w F vW p e) : BlkT w p 176 := by
  obtain ⟨u, h1, _⟩ := h.cell
  exact ⟨_, _, h1⟩
theorem SndAt.chg {F G : Nat → Prop} {w w' : World} {vW : Value} {p : Nat} {e : Bt × Int} (h : SndAt w F vW p e) (hc : Chg G w w') (hp : ¬ G p) (hG : ∀ k, F k → BlkT w k 41 → ¬ vW.ownBlock = some k → ¬ G k) : SndAt w' F vW p e := by
  obtain ⟨u, h1, h2⟩ := h.cell
  exact ⟨h.f, u, (hc.block p (some_lt h1) hp).trans h1, h2.chg hc hG⟩
theorem SndAt.mono {F F' : Nat → Prop} {w : World} {vW : Value} {p : Nat} {e : Bt × Int} (h : SndAt w F vW p e) (hF : ∀ k, F k → F' k) : SndAt w F' vW p e := by
  obtain ⟨u, h1, h2⟩ := h.cell
  exact ⟨hF _ h.f, u, h1, h2.mono hF⟩
theorem SndAt.row {F : Nat → Prop} {w w0 : World} {vW vW' : Value} {p : Nat} {e : Bt × Int} (h : SndAt w F vW p e) (hF : ∀ k, F k → k < w0.heap.size) (hv : ∀ g, vW'.ownBlock = some g → vW.ownBlock = some g ∨ w0.heap.size ≤ g) : SndAt w F vW' p e := by
  obtain ⟨u, h1, h2⟩ := h.cell
  exact ⟨h.f, u, h1, h2.row hF hv⟩
section
variable {w w' : World} {F F' G : Nat → Prop} {b : Nat} {s : Sd} {Z : Zs1} {vW vO : Value}
theorem PZ.bt (h : PZ w F b s Z vW vO) : BlkT w b 154 := ⟨_, _, h.hp⟩
theorem PZ.keep (h : PZ w F b s Z vW vO) (hc : Chg G w w') (hG : ∀ k, F k → ¬ G k) : PZ w' F b s Z vW vO :=
  ⟨fun k hk => Nat.lt_of_lt_of_le (h.lt k hk) hc.size, h.fb, (hc.block b (h.lt b h.fb) (hG b h.fb)).trans h.hp, own_chg h.wt hc (fun g hg => hG g (h.wf g hg)), h.wf, own_chg h.ot hc (fun g hg => hG g (h.of g hg)), h.of, h.zl, h.nd,
    fun z hz => (h.snd z hz).chg hc (hG _ (h.snd z hz).f) (fun k hk _ _ => hG k hk)⟩
theorem PZ.below (h : PZ w F b s Z vW vO) (hb : Below w.heap.size w w') : PZ w' F b s Z vW vO := h.keep (G := fun _ => False) (chg0 hb) (fun _ _ g => g)
theorem PZ.mono (h : PZ w F b s Z vW vO) (hF : ∀ k, F k → F' k) (hl : ∀ k, F' k → k < w.heap.size) : PZ w F' b s Z vW vO :=
  ⟨hl, hF b h.fb, h.hp, h.wt, fun g hg => hF g (h.wf g hg), h.ot, fun g hg => hF g (h.of g hg), h.zl, h.nd, fun z hz => (h.snd z hz).mono hF⟩
theorem PZ.cells (h : PZ w F b s Z vW vO) : w.cell? ⟨b, 0, none⟩ = some (.int .i64 s.win) ∧ w.cell? ⟨b, 1, none⟩ = some (.int .i64 s.tries) ∧ w.cell? ⟨b, 2, none⟩ = some (.int .i64 s.nx) ∧ w.cell? ⟨b, 3, none⟩ = some vW ∧ w.cell? ⟨b, 4, none⟩ = some vO ∧ ∀ j, w.frozen? ⟨b, j, none⟩ = false := by
  refine ⟨?_, ?_, ?_, ?_, ?_, fun j => by simp [World.frozen?, h.hp]⟩ <;> simp [World.cell?, h.hp]
theorem PZ.wform (h : PZ w F b s Z vW vO) : ∃ a c, vW = .slice a s.W.length c := own_form h.wt
theorem PZ.oform (h : PZ w F b s Z vW vO) : ∃ a c, vO = .slice a Z.length c := by
  obtain ⟨a, c, e⟩ := own_form h.ot
  exact ⟨a, c, by rw [e, List.length_map]⟩
theorem PZ.llen (h : PZ w F b s Z vW vO) : s.L.length = Z.length := by rw [h.zl, List.length_map]
/-- Another number of the next one. -/
theorem PZ.nset (h : PZ w F b s Z vW vO) (n : Int) : PZ (w.setCell ⟨b, 2, none⟩ (.int .i64 n)) F b { s with nx := n } Z vW vO := by
  have hc : Chg (fun k => k = b) w (w.setCell ⟨b, 2, none⟩ (.int .i64 n)) := chg_pt _ _ _ _
  refine ⟨fun k hk => by have := h.lt k hk; simpa [World.setCell] using this, h.fb, ?_, own_chg h.wt hc (fun g hg e => ?_), h.wf, own_chg h.ot hc (fun g hg e => ?_), h.of, h.zl, h.nd, fun z hz => (h.snd z hz).chg hc ?_ ?_⟩
  · rw [heap_setCell_same w b 2 _ 154 _ h.hp]; rfl
  · subst e; exact (own_blk h.wt hg).ne h.bt (by decide) rfl
  · subst e; exact (own_blk h.ot hg).ne h.bt (by decide) rfl
  · exact (h.snd z hz).blk.ne h.bt (by decide)
  · exact fun k _ hk _ => hk.ne h.bt (by decide)
/-- Another row of what waits, in its elder block or in a new one. -/
theorem PZ.wset (h : PZ w F b s Z vW vO) (hc : Chg (fun k => vW.ownBlock = some k) w w') {vW' : Value} {W' : List Ob} (ho : OwO w' 0 vW' W') (hv : ∀ g, vW'.ownBlock = some g → vW.ownBlock = some g ∨ w.heap.size ≤ g) :
    PZ (w'.setCell ⟨b, 3, none⟩ vW') (FN F w w') b { s with W := W' } Z vW' vO := by
  have hb : ¬ vW.ownBlock = some b := fun e => (own_blk h.wt e).ne h.bt (by decide) rfl
  have hp' : w'.heap[b]? = some (.cells #[.int .i64 s.win, .int .i64 s.tries, .int .i64 s.nx, vW, vO] 154) := (hc.block b (h.lt b h.fb) hb).trans h.hp
  have hc2 : Chg (fun k => k = b) w' (w'.setCell ⟨b, 3, none⟩ vW') := chg_pt _ _ _ _
  have hbt : BlkT w' b 154 := ⟨_, _, hp'⟩
  have hs : (w'.setCell ⟨b, 3, none⟩ vW').heap.size = w'.heap.size := by simp [World.setCell]
  refine ⟨fun k hk => by rw [hs]; exact FN.lt h.lt hc.size k hk, .inl h.fb, ?_, own_chg ho hc2 (fun g hg e => ?_), fun g hg => ?_, own_chg (own_chg h.ot hc (fun g hg e => ?_)) hc2 (fun g hg e => ?_), fun g hg => .inl (h.of g hg), h.zl, h.nd, fun z hz => ?_⟩
  · rw [heap_setCell_same w' b 3 _ 154 _ hp']; rfl
  · subst e; exact (own_blk ho hg).ne hbt (by decide) rfl
  · exact (hv g hg).elim (fun h2 => .inl (h.wf g h2)) (fun h2 => .inr ⟨h2, (World.ownsRow.lt ho g hg).2⟩)
  · exact (own_blk h.ot hg).ne (own_blk h.wt e) (by decide) rfl
  · subst e; exact (own_blk h.ot hg).ne h.bt (by decide) rfl
  · have h1 : SndAt w' F vW z.1 z.2 := (h.snd z hz).chg hc (fun e => (h.snd z hz).blk.ne (own_blk h.wt e) (by decide) rfl) (fun _ _ _ hk => hk)
    have h2 : SndAt w' F vW' z.1 z.2 := h1.row (w0 := w) h.lt hv
    exact (h2.chg hc2 (h1.blk.ne hbt (by decide)) (fun k _ hk _ => hk.ne hbt (by decide))).mono (fun k hk => .inl hk)
/-- Another row of what is out, in its elder block or in a new one. -/
theorem PZ.oset (h : PZ w F b s Z vW vO) (hc : Chg (fun k => vO.ownBlock = some k) w w') {vO' : Value} {Z' : Zs1} (ho : OwP w' vO' (Z'.map Prod.fst)) (hv : ∀ g, vO'.ownBlock = some g → vO.ownBlock = some g ∨ w.heap.size ≤ g) (hn : (Z'.map Prod.fst).Nodup) (hz : ∀ z ∈ Z', SndAt w F vW z.1 z.2) :
    PZ (w'.setCell ⟨b, 4, none⟩ vO') (FN F w w') b { s with L := Z'.map Prod.snd } Z' vW vO' := by
  have hb : ¬ vO.ownBlock = some b := fun e => (own_blk h.ot e).ne h.bt (by decide) rfl
  have hp' : w'.heap[b]? = some (.cells #[.int .i64 s.win, .int .i64 s.tries, .int .i64 s.nx, vW, vO] 154) := (hc.block b (h.lt b h.fb) hb).trans h.hp
  have hc2 : Chg (fun k => k = b) w' (w'.setCell ⟨b, 4, none⟩ vO') := chg_pt _ _ _ _
  have hbt : BlkT w' b 154 := ⟨_, _, hp'⟩
  have hs : (w'.setCell ⟨b, 4, none⟩ vO').heap.size = w'.heap.size := by simp [World.setCell]
  refine ⟨fun k hk => by rw [hs]; exact FN.lt h.lt hc.size k hk, .inl h.fb, ?_, own_chg (own_chg h.wt hc (fun g hg e => ?_)) hc2 (fun g hg e => ?_), fun g hg => .inl (h.wf g hg), own_chg ho hc2 (fun g hg e => ?_), fun g hg => ?_, rfl, hn, fun z hz2 => ?_⟩
  · rw [heap_setCell_same w' b 4 _ 154 _ hp']; rfl
  · exact (own_blk h.wt hg).ne (own_blk h.ot e) (by decide) rfl
  · subst e; exact (own_blk h.wt hg).ne h.bt (by decide) rfl
  · subst e; exact (own_blk ho hg).ne hbt (by decide) rfl
  · exact (hv g hg).elim (fun h2 => .inl (h.of g h2)) (fun h2 => .inr ⟨h2, (World.ownsRow.lt ho g hg).2⟩)
  · have h1 : SndAt w' F vW z.1 z.2 := (hz z hz2).chg hc (fun e => (hz z hz2).blk.ne (own_blk h.ot e) (by decide) rfl) (fun k _ hk _ e => hk.ne (own_blk h.ot e) (by decide) rfl)
    exact (h1.chg hc2 (h1.blk.ne hbt (by decide)) (fun k _ hk _ => hk.ne hbt (by decide))).mono (fun k hk => .inl hk)
/-- One that is out was sent once more. -/
theorem PZ.tset {X Y : Zs1} {p : Nat} {e : Bt × Int} (h : PZ w F b s (X ++ (p, e) :: Y) vW vO) (n : Int) :
    PZ (w.setCell ⟨p, 2, none⟩ (.int .i64 n)) F b { s with L := (X ++ (p, e.1, n) :: Y).map Prod.snd } (X ++ (p, e.1, n) :: Y) vW vO := by
  have hc : Chg (fun k => k = p) w (w.setCell ⟨p, 2, none⟩ (.int .i64 n)) := chg_pt _ _ _ _
  have hpe := h.snd (p, e) (List.mem_append_right _ List.mem_cons_self)
  have hpt : BlkT w p 176 := hpe.blk
  have hne : (X ++ (p, e.1, n) :: Y).map Prod.fst = (X ++ (p, e) :: Y).map Prod.fst := by simp
  have hob : ∀ k, F k → BlkT w k 41 → ¬ vW.ownBlock = some k → ¬ k = p := fun k _ hk _ => hk.ne hpt (by decide)
  have hnd := h.nd
  rw [List.map_append, List.map_cons] at hnd
  refine ⟨fun k hk => by have := h.lt k hk; simpa [World.setCell] using this, h.fb, ?_, own_chg h.wt hc (fun g hg e => ?_), h.wf, ?_, h.of, rfl, by rw [hne]; exact h.nd, fun z hz => ?_⟩
  · exact (hc.block b (h.lt b h.fb) (h.bt.ne hpt (by decide))).trans h.hp
  · subst e; exact (own_blk h.wt hg).ne hpt (by decide) rfl
  · unfold OwP
    rw [hne]
    exact own_chg h.ot hc (fun g hg e => by subst e; exact (own_blk h.ot hg).ne hpt (by decide) rfl)
  · have hold : z ∈ X ++ Y → SndAt (w.setCell ⟨p, 2, none⟩ (.int .i64 n)) F vW z.1 z.2 := fun hz => by
      have hm : z ∈ X ++ (p, e) :: Y := by
        rcases List.mem_append.1 hz with h1 | h1
        · exact List.mem_append_left _ h1
        · exact List.mem_append_right _ (List.mem_cons_of_mem _ h1)
      refine (h.snd z hm).chg hc (fun e2 => ?_) hob
      rw [List.nodup_append] at hnd
      obtain ⟨_, h2, h3⟩ := hnd
      rcases List.mem_append.1 hz with h1 | h1
      · exact h3 z.1 (List.mem_map.2 ⟨z, h1, rfl⟩) p List.mem_cons_self e2
      · exact (List.nodup_cons.1 h2).1 (e2 ▸ List.mem_map.2 ⟨z, h1, rfl⟩)
    rcases List.mem_append.1 hz with h1 | h1
    · exact hold (List.mem_append_left _ h1)
    · rcases List.mem_cons.1 h1 with rfl | h1
      · obtain ⟨u, g1, g2⟩ := hpe.cell
        exact ⟨hpe.f, u, by rw [heap_setCell_same w p 2 _ 176 _ g1]; rfl, g2.chg hc hob⟩
      · exact hold (List.mem_append_right _ h1)
end
end Go.Proofs.YtdigjklhfimnbaaGreat
namespace Go.Proofs.YtdigjklhfimnbaaGreat
set_option maxRecDepth 100000
set_option linter.unusedVariables false
open Go.RowKit

section
variable (R : RowT)
def NewR (wo : World) (S : Nat) (v : Value) (zs : List R.α) (n : Nat) : Ty := fun u w => ∃ g cap, u = .slice (some ⟨g, 0, none⟩) n cap ∧ w.ownsRow S R.T R.K u zs.length (gflat R zs) ∧ (v.ownBlock = some g ∨ wo.heap.size ≤ g)
variable {R}
theorem NewR.keeps {wo : World} {S n : Nat} {v : Value} {zs : List R.α} {row : Option Nat} (s : Nat) : T3.Keeps (GX row s) s (NewR R wo S v zs n) := by
  rintro j hj u w w' ⟨g, cap, h1, h2, h3⟩ hx
  unfold GX at hx
  rw [if_neg hj] at hx
  exact ⟨g, cap, h1, gown_below h2 hx, h3⟩
variable (R)
/-- One more: the elder row is there as it was; the new one lies in its block, or in a new one. -/
theorem run_gappr (w : World) (S : Nat) (v : Value) (xs : List R.α) (hown : w.ownsRow S R.T R.K v xs.length (gflat R xs)) (b : Nat) (y : R.α) (hy : GC R w b 0 y) (hl : xs.length ≤ 3000) (hS : S ≤ w.heap.size) {ty : TypeId} :
    ∃ g cap w', (Builtin.append_ #[R.SL, R.SL] ty #[v, .slice (some ⟨b, 0, none⟩) 1 1]).run Tryz.prog w = .ok (.slice (some ⟨g, 0, none⟩) (xs.length + 1) cap) w' ∧ w'.ownsRow S R.T R.K (.slice (some ⟨g, 0, none⟩) (xs.length + 1) cap) (xs ++ [y]).length (gflat R (xs ++ [y])) ∧ w.grownBy w' v.ownBlock ∧ w'.ownsRow S R.T R.K v xs.length (gflat R xs) ∧ (v.ownBlock = some g ∨ w.heap.size ≤ g) := by
  obtain ⟨g, cap, w1, hr, h2, h3, h4⟩ := run_gapp (R := R) w ty S v xs hown b y hy hl hS
  obtain ⟨g2, cap2, w2, hr2, _, _, h5⟩ := run_gapp2 R w ty S v xs hown b y hy hl hS
  have e := hr.symm.trans hr2
  simp only [Result.ok.injEq, Value.slice.injEq, Option.some.injEq, Addr.mk.injEq, and_true, true_and] at e
  obtain ⟨⟨e1, _⟩, _⟩ := e
  exact ⟨g, cap, w1, hr, h2, h3, h4, e1 ▸ h5⟩
end
set_option maxHeartbeats 4000000 in
theorem pnew_any (win tries : Int) (w : World) : Calls Tryz.prog 46 #[.int .i64 win, .int .i64 tries] w fun e w' => Below w.heap.size w w' ∧ ((¬ nwOk win tries ∧ e = .returned (.tuple #[.pointer none, .int .i64 1])) ∨ (nwOk win tries ∧ ∃ b F, e = .returned (.tuple #[.pointer (some ⟨b, 0, none⟩), .int .i64 0]) ∧ PS w' F b (sd0 win tries) ∧ ∀ k, F k → w.heap.size ≤ k)) := by
  obtain ⟨W1, hW1⟩ : ∃ W1, w.alloc (.cells #[.int .i64 (sd0 win tries).win, .int .i64 (sd0 win tries).tries, .int .i64 (sd0 win tries).nx, .slice none 0 0, .slice none 0 0] 154) = W1 := ⟨_, rfl⟩
  have hb1 : Below w.heap.size w W1 := hW1 ▸ (Below.refl _ w).alloc (Nat.le_refl _) _
  have hs1 : W1.heap.size = w.heap.size + 1 := by rw [← hW1]; simp
  have hp : W1.heap[w.heap.size]? = some (.cells #[.int .i64 (sd0 win tries).win, .int .i64 (sd0 win tries).tries, .int .i64 (sd0 win tries).nx, .slice none 0 0, .slice none 0 0] 154) := by rw [← hW1]; exact heap_alloc_new w _
  by_cases hok : nwOk win tries
  · have HPS : Hid (PS W1 (fun k => k = w.heap.size) w.heap.size (sd0 win tries)) := ⟨sdok_new hok, [], .slice none 0 0, .slice none 0 0, ⟨fun k hk => by omega, rfl, hp, OwO_nil W1 0, fun g hg => (by cases hg), ⟨rfl, .inl ⟨rfl, rfl⟩⟩, fun g hg => (by cases hg), rfl, List.nodup_nil, fun z hz => absurd hz List.not_mem_nil⟩⟩
    have HOK := Lib.hid hok
    have HB1 := Lib.hid hb1
    have HW1 : Hid (w.alloc (.cells #[.int .i64 win, .int .i64 tries, .int .i64 0, .slice none 0 0, .slice none 0 0] 154) = W1) := hW1
    have d1 : decide (win < 1) = false := decide_eq_false (by have := hok.1.1; omega)
    have d2 : decide (16 < win) = false := decide_eq_false (by have := hok.1.2; omega)
    have d3 : decide (tries < 1) = false := decide_eq_false (by have := hok.2.1; omega)
    have d4 : decide (100 < tries) = false := decide_eq_false (by have := hok.2.2; omega)
    have n1 : ¬ win < 1 := of_decide_eq_false d1
    have n2 : ¬ (16 : Int) < win := of_decide_eq_false d2
    have n3 : ¬ tries < 1 := of_decide_eq_false d3
    have n4 : ¬ (100 : Int) < tries := of_decide_eq_false d4
    clear hok hb1 hW1 hp hs1
    go_enter Tryz.func46, Tryz.ntmps46
    go_wp2_with fail
    rw [HW1.out]
    go_ret2
    exact ⟨HB1.out, .inr ⟨HOK.out, w.heap.size, rfl, fun k => k = w.heap.size, HPS.out, fun k hk => Nat.le_of_eq hk.symm⟩⟩
  · have HOK := Lib.hid hok
    have hq : win < 1 ∨ (16 : Int) < win ∨ tries < 1 ∨ (100 : Int) < tries := by unfold nwOk at hok; omega
    clear hok hb1 hW1 hp hs1
    by_cases n1 : win < 1
    · go_enter Tryz.func46, Tryz.ntmps46
      go_wp2_with fail
      go_ret2
      exact ⟨Below.refl _ _, .inl ⟨HOK.out, rfl⟩⟩
    by_cases n2 : (16 : Int) < win
    · clear hq
      go_enter Tryz.func46, Tryz.ntmps46
      go_wp2_with fail
      go_ret2
      exact ⟨Below.refl _ _, .inl ⟨HOK.out, rfl⟩⟩
    by_cases n3 : tries < 1
    · clear hq
      go_enter Tryz.func46, Tryz.ntmps46
      go_wp2_with fail
      go_ret2
      exact ⟨Below.refl _ _, .inl ⟨HOK.out, rfl⟩⟩
    have n4 : (100 : Int) < tries := by omega
    clear hq
    go_enter Tryz.func46, Tryz.ntmps46
    go_wp2_with fail
    go_ret2
    exact ⟨Below.refl _ _, .inl ⟨HOK.out, rfl⟩⟩
end Go.Proofs.YtdigjklhfimnbaaGreat
