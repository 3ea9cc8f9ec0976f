/- The program's sender in memory: its cells, what waits, what is out and how often that was sent. What keeps it. No conditions. The program's sender in memory: its cells, what waits, what is out and how often that was sent. What keeps it. No conditions. One element more at a row of one's own of whatever type; the program's New and Push. No conditions but on lengths. The program's Push. No conditions but on lengths. The program's Clone of objects, its batches as a list of its own; Wait, Out. No conditions but on lengths. The program's Wait and Out; what a sender that is nil answers. No conditions but on lengths. -/
import Derived.Test.YtfiaghfaijlfjaaGreatSm
import Derived.Test.YtfiaghfaijlfjaaGreatOth
import Derived.Test.YtfiaghfaijlfjaaGreatTyp4
import Derived.Test.YtfiaghfaijlfjaaGreatObc
import Derived.Test.YtfiaghfaijlfjaaGreatTyp5
import Derived.WalkLawsBesides
namespace Go.Proofs.YtfiaghfaijlfjaaGreat
set_option maxRecDepth 100000
open Go.RowKit

section
variable {P : Program} {f : FuncId} {fn : Func}
theorem run_call_loadN {k : IntKind} (hf : P.funcs[f]? = some fn) (hname : (fn.name == "runtime.NumGoroutine") = false) (hb : fn.body.isNone = true) (hn : Extern.findNext fn = none)
    (he : Extern.find fn = some (Extern.Atomic.loadT (.int k))) {a : Addr} {x : Int} {w : World} (hc : w.cell? a = some (.int k x)) :
    (callFunc f #[.pointer (some a)]).run P w = .ok (.value (.int k x)) w := by
  rw [run_callFunc_extern hf hname hb hn he]
  change (Sem.run P (do Extern.Atomic.read (.int k) (← asAddr (.pointer (some a)))) w).andThen _ = _
  simp [Extern.Atomic.read, asAddr, hc, Result.andThen]
theorem run_call_storeN {k : IntKind} (hf : P.funcs[f]? = some fn) (hname : (fn.name == "runtime.NumGoroutine") = false) (hb : fn.body.isNone = true) (hn : Extern.findNext fn = none)
    (he : Extern.find fn = some Extern.Atomic.storeT) {a : Addr} {x : Int} {u : Value} {w : World} (hc : w.cell? a = some u) (hz : w.frozen? a = false) :
    (callFunc f #[.pointer (some a), .int k x]).run P w = .ok (.value (.tuple #[])) (w.setCell a (.int k x)) := by
  rw [run_callFunc_extern hf hname hb hn he]
  change (Sem.run P (do
    store (← asAddr (.pointer (some a))) (.int k x) .atomic
    pure Extern.Atomic.none_) w).andThen _ = _
  simp [asAddr, hc, hz, run_store P w a (.int k x) .atomic rfl, Result.andThen, Extern.Atomic.none_]
theorem run_call_addN (hf : P.funcs[f]? = some fn) (hname : (fn.name == "runtime.NumGoroutine") = false) (hb : fn.body.isNone = true) (hn : Extern.findNext fn = none)
    (he : Extern.find fn = some (Extern.Atomic.update (Op.intArith .add) .i64 true)) {a : Addr} {x d : Int} {w : World} (hc : w.cell? a = some (.int .i64 x)) (hz : w.frozen? a = false) :
    (callFunc f #[.pointer (some a), .int .i64 d]).run P w = .ok (.value (.int .i64 (IntKind.i64.wrap (x + d)))) (w.setCell a (.int .i64 (IntKind.i64.wrap (x + d)))) := by
  rw [run_callFunc_extern hf hname hb hn he]
  change (Sem.run P (do
    let a ← asAddr (.pointer (some a))
    let old ← Extern.Atomic.read (.int .i64) a
    let new ← Op.intArith .add .i64 (← asInt old) (← asInt (.int .i64 d))
    store a new .atomic
    pure (if true then new else old)) w).andThen _ = _
  simp [Extern.Atomic.read, asAddr, asInt, asIntOf, Op.intArith, hc, hz, run_store P w a (.int .i64 (IntKind.i64.wrap (x + d))) .atomic rfl, Result.andThen]
end
theorem sload_any (b o : Nat) (n : Int) (w : World) (h : w.cell? ⟨b, o, none⟩ = some (.int .i64 n)) : Calls Tryz.prog 43 #[.pointer (some ⟨b, o, none⟩)] w fun e w' => e = .returned (.int .i64 n) ∧ w = w' := by
  have hl := run_call_loadN (P := Tryz.prog) (f := 73) (k := .i64) Tryz.func73 (by kernel_rfl) (by kernel_rfl) (by kernel_rfl) (by kernel_rfl) h
  go_enter Tryz.func43, Tryz.ntmps43
  go_wp2_with fail
  go_ret
  exact ⟨rfl, rfl⟩
theorem sstore_any (b o : Nat) (n m : Int) (w : World) (h : w.cell? ⟨b, o, none⟩ = some (.int .i64 n)) (hf : w.frozen? ⟨b, o, none⟩ = false) : Calls Tryz.prog 71 #[.pointer (some ⟨b, o, none⟩), .int .i64 m] w fun e w' => e = .returned (.tuple #[]) ∧ w' = w.setCell ⟨b, o, none⟩ (.int .i64 m) := by
  have hl := run_call_storeN (P := Tryz.prog) (f := 88) (k := .i64) (x := m) Tryz.func88 (by kernel_rfl) (by kernel_rfl) (by kernel_rfl) (by kernel_rfl) h hf
  go_enter Tryz.func71, Tryz.ntmps71
  go_wp2_with fail
  go_end0
  exact ⟨rfl, rfl⟩
theorem sadd_any (b o : Nat) (n d : Int) (w : World) (h : w.cell? ⟨b, o, none⟩ = some (.int .i64 n)) (hf : w.frozen? ⟨b, o, none⟩ = false) (hr : IntKind.i64.wrap (n + d) = n + d) : Calls Tryz.prog 44 #[.pointer (some ⟨b, o, none⟩), .int .i64 d] w fun e w' => e = .returned (.int .i64 (n + d)) ∧ w' = w.setCell ⟨b, o, none⟩ (.int .i64 (n + d)) := by
  have hl := run_call_addN (P := Tryz.prog) (f := 74) (d := d) Tryz.func74 (by kernel_rfl) (by kernel_rfl) (by kernel_rfl) (by kernel_rfl) h hf
  rw [hr] at hl
  clear hr
  go_enter Tryz.func44, Tryz.ntmps44
  go_wp2_with fail
  go_ret
  exact ⟨rfl, rfl⟩
end Go.Proofs.YtfiaghfaijlfjaaGreat

namespace Go.Proofs.YtfiaghfaijlfjaaGreat
set_option maxRecDepth 100000
set_option linter.unusedVariables false
open Go.RowKit

theorem infoPT : (Tryz.prog.info? 97).map (fun i => (i.zero, i.size, i.bytes)) = some (some (.pointer none), 1, 8) := by kernel_rfl
theorem underPR : Tryz.prog.underlying 92 = some (.slice 97) := by kernel_rfl
theorem cellsPT : Tryz.prog.cellsOf 97 = 1 := by kernel_rfl
theorem cellsOB : Tryz.prog.cellsOf 53 = 12 := by kernel_rfl
abbrev ptr (p : Nat) : Value := .pointer (some ⟨p, 0, none⟩)
noncomputable def RPT : RowT where
  α := Nat
  d := 0
  cl := fun p => [ptr p]
  K := 1
  T := 97
  SL := 92
  zero := .pointer none
  bytes := 8
  hcl := fun _ => rfl
  hK := by decide
  hone := fun y u hu => by simp only [List.mem_singleton] at hu; subst hu; rfl
  hSL := underPR
  hinfo := infoPT
  hz := rfl
  hb := by decide
  hc := cellsPT
noncomputable def ROB : RowT where
  α := Ob
  d := z12
  cl := Ob.cl
  K := 12
  T := 53
  SL := 29
  zero := .agg #[.int .i64 0, .int .i64 0, .bool false, .int .i64 0, .int .i64 0, .int .i64 0, .int .i64 0, .int .i64 0, .int .i64 0, .int .i64 0, .int .i64 0, .int .i64 0]
  bytes := 96
  hcl := fun _ => rfl
  hK := by decide
  hone := fun y u hu => by
    simp only [Ob.cl, List.mem_cons, List.not_mem_nil, or_false] at hu
    rcases hu with rfl | rfl | rfl | rfl | rfl | rfl | rfl | rfl | rfl | rfl | rfl | rfl <;> rfl
  hSL := underSL
  hinfo := infoOB
  hz := rfl
  hb := by decide
  hc := cellsOB
theorem chg_pt (w : World) (b j : Nat) (u : Value) : Chg (fun k => k = b) w (w.setCell ⟨b, j, none⟩ u) := Chg.setCell (F := fun k => k = b) (p := ⟨b, j, none⟩) (Chg.refl _ w) (.inl rfl) u
/-- A row of pointers of one's own. -/
def OwP (w : World) (v : Value) (ps : List Nat) : Prop := w.ownsRow 0 97 1 v ps.length (gflat RPT ps)
/-- A block of that type. -/
def BlkT (w : World) (k : Nat) (t : TypeId) : Prop := ∃ cur fz, w.heap[k]? = some (.cells cur t fz)
theorem BlkT.ne {w : World} {k k' : Nat} {t t' : TypeId} (h : BlkT w k t) (h' : BlkT w k' t') (ht : t ≠ t') : k ≠ k' := fun e => by
  subst e
  obtain ⟨c, f, h1⟩ := h
  obtain ⟨c', f', h2⟩ := h'
  rw [h1] at h2
  cases h2
  exact ht rfl
theorem BlkT.chg {F : Nat → Prop} {w w' : World} {k : Nat} {t : TypeId} (h : BlkT w k t) (hc : Chg F w w') (hk : ¬ F k) : BlkT w' k t := by
  obtain ⟨c, f, h1⟩ := h
  exact ⟨c, f, (hc.block k (some_lt h1) hk).trans h1⟩
theorem own_blk {w : World} {S size n g : Nat} {e : TypeId} {v : Value} {xs : List Value} (h : w.ownsRow S e size v n xs) (hg : v.ownBlock = some g) : BlkT w g e := by
  rcases h.2 with ⟨rfl, _⟩ | ⟨g', cap, cur, rfl, _, hh, _⟩
  · cases hg
  · cases hg
    exact ⟨cur, (0, 0), hh⟩
/-- A slice that reads as objects, in a block of F that is none of what waits. -/
structure ObI (w : World) (F : Nat → Prop) (vW u : Value) (ys : List Ob) : Prop where
  os : Os w u ys
  one : u.oneCell' = true
  blk : ∀ a n c, u = .slice (some a) n c → ys ≠ [] → F a.block ∧ BlkT w a.block 53 ∧ ¬ vW.ownBlock = some a.block
/-- A batch that is out, in memory, with how often it was sent. -/
structure SndAt (w : World) (F : Nat → Prop) (vW : Value) (p : Nat) (e : Bt × Int) : Prop where
  f : F p
  cell : ∃ u, w.heap[p]? = some (.cells #[.int .i64 e.1.1, u, .int .i64 e.2] 103) ∧ ObI w F vW u e.1.2
abbrev Zs1 := List (Nat × Bt × Int)
theorem pushR_full {s : Sd} {y : Ob} (h : y.Ok) (hl : 1024 ≤ s.W.length) : pushR s y = (8, s) := by unfold pushR; rw [if_pos h, if_pos hl]
theorem pushR_ok {s : Sd} {y : Ob} (h : y.Ok) (hl : ¬ 1024 ≤ s.W.length) : pushR s y = (0, { s with W := s.W ++ [y] }) := by unfold pushR; rw [if_pos h, if_neg hl]
theorem pushR_no {s : Sd} {y : Ob} (h : ¬ y.Ok) : pushR s y = (1, s) := by unfold pushR; rw [if_neg h]
/-- The program's sender. -/
structure PZ (w : World) (F : Nat → Prop) (b : Nat) (s : Sd) (Z : Zs1) (vW vO : Value) : Prop where
  lt : ∀ k, F k → k < w.heap.size
  fb : F b
  hp : w.heap[b]? = some (.cells #[.int .i64 s.win, .int .i64 s.tries, .int .i64 s.nx, vW, vO] 94)
  wt : OwO w 0 vW s.W
  wf : ∀ g, vW.ownBlock = some g → F g
  ot : OwP w vO (Z.map Prod.fst)
  of : ∀ g, vO.ownBlock = some g → F g
  zl : s.L = Z.map Prod.snd
  nd : (Z.map Prod.fst).Nodup
  snd : ∀ z ∈ Z, SndAt w F vW z.1 z.2
def PS (w : World) (F : Nat → Prop) (b : Nat) (s : Sd) : Prop := SdOk s ∧ ∃ Z vW vO, PZ w F b s Z vW vO
/-- F, and what is new. -/
def FN (F : Nat → Prop) (w w' : World) : Nat → Prop := fun k => F k ∨ (w.heap.size ≤ k ∧ k < w'.heap.size)
theorem FN.lt {F : Nat → Prop} {w w' : World} (h : ∀ k, F k → k < w.heap.size) (hs : w.heap.size ≤ w'.heap.size) : ∀ k, FN F w w' k → k < w'.heap.size := fun k hk => hk.elim (fun h2 => Nat.lt_of_lt_of_le (h k h2) hs) (fun h2 => h2.2)
theorem FN.up {F : Nat → Prop} {w w1 w2 : World} (h1 : w.heap.size ≤ w1.heap.size) (h2 : w1.heap.size ≤ w2.heap.size) : ∀ k, FN (FN F w w1) w1 w2 k ↔ FN F w w2 k := fun k => by
  unfold FN
  constructor
  · rintro ((h | h) | h)
    · exact .inl h
    · exact .inr ⟨h.1, by omega⟩
    · exact .inr ⟨by omega, h.2⟩
  · rintro (h | h)
    · exact .inl (.inl h)
    · by_cases hk : k < w1.heap.size
      · exact .inl (.inr ⟨h.1, hk⟩)
      · exact .inr ⟨by omega, h.2⟩
theorem FN.new {F : Nat → Prop} {w w' : World} : ∀ k, FN F w w' k → F k ∨ w.heap.size ≤ k := fun k hk => hk.imp (fun h => h) (fun h => h.1)
theorem ObI.chg {F G : Nat → Prop} {w w' : World} {vW u : Value} {ys : List Ob} (h : ObI w F vW u ys) (hc : Chg G w w') (hG : ∀ k, F k → BlkT w k 53 → ¬ vW.ownBlock = some k → ¬ G k) : ObI w' F vW u ys :=
  ⟨h.os.chg hc (fun a n c e hn => by obtain ⟨h1, h2, h3⟩ := h.blk a n c e hn; exact hG _ h1 h2 h3), h.one, fun a n c e hn => by obtain ⟨h1, h2, h3⟩ := h.blk a n c e hn; exact ⟨h1, h2.chg hc (hG _ h1 h2 h3), h3⟩⟩
theorem ObI.mono {F F' : Nat → Prop} {w : World} {vW u : Value} {ys : List Ob} (h : ObI w F vW u ys) (hF : ∀ k, F k → F' k) : ObI w F' vW u ys := ⟨h.os, h.one, fun a n c e hn => by obtain ⟨h1, h2, h3⟩ := h.blk a n c e hn; exact ⟨hF _ h1, h2, h3⟩⟩
/-- Another row of what waits: the elder block, or a new one. -/
theorem ObI.row {F : Nat → Prop} {w w0 : World} {vW vW' u : Value} {ys : List Ob} (h : ObI w F vW u ys) (hF : ∀ k, F k → k < w0.heap.size) (hv : ∀ g, vW'.ownBlock = some g → vW.ownBlock = some g ∨ w0.heap.size ≤ g) : ObI w F vW' u ys :=
  ⟨h.os, h.one, fun a n c e hn => by
    obtain ⟨h1, h2, h3⟩ := h.blk a n c e hn
    exact ⟨h1, h2, fun e2 => (hv _ e2).elim h3 (fun h4 => by have := hF _ h1; omega)⟩⟩
theorem SndAt.blk {w : World} {F : Nat → Prop} {vW : Value} {p : Nat} {e : Bt × Int} (h : SndAt w F vW p e) : BlkT w p 103 := by
  obtain ⟨u, h1, _⟩ := h.cell
  exact ⟨_, _, h1⟩
theorem SndAt.chg {F G : Nat → Prop} {w w' : World} {vW : Value} {p : Nat} {e : Bt × Int} (h : SndAt w F vW p e) (hc : Chg G w w') (hp : ¬ G p) (hG : ∀ k, F k → BlkT w k 53 → ¬ vW.ownBlock = some k → ¬ G k) : SndAt w' F vW p e := by
  obtain ⟨u, h1, h2⟩ := h.cell
  exact ⟨h.f, u, (hc.block p (some_lt h1) hp).trans h1, h2.chg hc hG⟩
theorem SndAt.mono {F F' : Nat → Prop} {w : World} {vW : Value} {p : Nat} {e : Bt × Int} (h : SndAt w F vW p e) (hF : ∀ k, F k → F' k) : SndAt w F' vW p e := by
  obtain ⟨u, h1, h2⟩ := h.cell
  exact ⟨hF _ h.f, u, h1, h2.mono hF⟩
theorem SndAt.row {F : Nat → Prop} {w w0 : World} {vW vW' : Value} {p : Nat} {e : Bt × Int} (h : SndAt w F vW p e) (hF : ∀ k, F k → k < w0.heap.size) (hv : ∀ g, vW'.ownBlock = some g → vW.ownBlock = some g ∨ w0.heap.size ≤ g) : SndAt w F vW' p e := by
  obtain ⟨u, h1, h2⟩ := h.cell
  exact ⟨h.f, u, h1, h2.row hF hv⟩
section
variable {w w' : World} {F F' G : Nat → Prop} {b : Nat} {s : Sd} {Z : Zs1} {vW vO : Value}
theorem PZ.bt (h : PZ w F b s Z vW vO) : BlkT w b 94 := ⟨_, _, h.hp⟩
theorem PZ.keep (h : PZ w F b s Z vW vO) (hc : Chg G w w') (hG : ∀ k, F k → ¬ G k) : PZ w' F b s Z vW vO :=
  ⟨fun k hk => Nat.lt_of_lt_of_le (h.lt k hk) hc.size, h.fb, (hc.block b (h.lt b h.fb) (hG b h.fb)).trans h.hp, own_chg h.wt hc (fun g hg => hG g (h.wf g hg)), h.wf, own_chg h.ot hc (fun g hg => hG g (h.of g hg)), h.of, h.zl, h.nd,
    fun z hz => (h.snd z hz).chg hc (hG _ (h.snd z hz).f) (fun k hk _ _ => hG k hk)⟩
theorem PZ.below (h : PZ w F b s Z vW vO) (hb : Below w.heap.size w w') : PZ w' F b s Z vW vO := h.keep (G := fun _ => False) (chg0 hb) (fun _ _ g => g)
theorem PZ.mono (h : PZ w F b s Z vW vO) (hF : ∀ k, F k → F' k) (hl : ∀ k, F' k → k < w.heap.size) : PZ w F' b s Z vW vO :=
  ⟨hl, hF b h.fb, h.hp, h.wt, fun g hg => hF g (h.wf g hg), h.ot, fun g hg => hF g (h.of g hg), h.zl, h.nd, fun z hz => (h.snd z hz).mono hF⟩
theorem PZ.cells (h : PZ w F b s Z vW vO) : w.cell? ⟨b, 0, none⟩ = some (.int .i64 s.win) ∧ w.cell? ⟨b, 1, none⟩ = some (.int .i64 s.tries) ∧ w.cell? ⟨b, 2, none⟩ = some (.int .i64 s.nx) ∧ w.cell? ⟨b, 3, none⟩ = some vW ∧ w.cell? ⟨b, 4, none⟩ = some vO ∧ ∀ j, w.frozen? ⟨b, j, none⟩ = false := by
  refine ⟨?_, ?_, ?_, ?_, ?_, fun j => by simp [World.frozen?, h.hp]⟩ <;> simp [World.cell?, h.hp]
theorem PZ.wform (h : PZ w F b s Z vW vO) : ∃ a c, vW = .slice a s.W.length c := own_form h.wt
theorem PZ.oform (h : PZ w F b s Z vW vO) : ∃ a c, vO = .slice a Z.length c := by
  obtain ⟨a, c, e⟩ := own_form h.ot
  exact ⟨a, c, by rw [e, List.length_map]⟩
theorem PZ.llen (h : PZ w F b s Z vW vO) : s.L.length = Z.length := by rw [h.zl, List.length_map]
/-- Another number of the next one. -/
theorem PZ.nset (h : PZ w F b s Z vW vO) (n : Int) : PZ (w.setCell ⟨b, 2, none⟩ (.int .i64 n)) F b { s with nx := n } Z vW vO := by
  have hc : Chg (fun k => k = b) w (w.setCell ⟨b, 2, none⟩ (.int .i64 n)) := chg_pt _ _ _ _
  refine ⟨fun k hk => by have := h.lt k hk; simpa [World.setCell] using this, h.fb, ?_, own_chg h.wt hc (fun g hg e => ?_), h.wf, own_chg h.ot hc (fun g hg e => ?_), h.of, h.zl, h.nd, fun z hz => (h.snd z hz).chg hc ?_ ?_⟩
  · rw [heap_setCell_same w b 2 _ 94 _ h.hp]; rfl
  · subst e; exact (own_blk h.wt hg).ne h.bt (by decide) rfl
  · subst e; exact (own_blk h.ot hg).ne h.bt (by decide) rfl
  · exact (h.snd z hz).blk.ne h.bt (by decide)
  · exact fun k _ hk _ => hk.ne h.bt (by decide)
/-- Another row of what waits, in its elder block or in a new one. -/
theorem PZ.wset (h : PZ w F b s Z vW vO) (hc : Chg (fun k => vW.ownBlock = some k) w w') {vW' : Value} {W' : List Ob} (ho : OwO w' 0 vW' W') (hv : ∀ g, vW'.ownBlock = some g → vW.ownBlock = some g ∨ w.heap.size ≤ g) :
    PZ (w'.setCell ⟨b, 3, none⟩ vW') (FN F w w') b { s with W := W' } Z vW' vO := by
  have hb : ¬ vW.ownBlock = some b := fun e => (own_blk h.wt e).ne h.bt (by decide) rfl
  have hp' : w'.heap[b]? = some (.cells #[.int .i64 s.win, .int .i64 s.tries, .int .i64 s.nx, vW, vO] 94) := (hc.block b (h.lt b h.fb) hb).trans h.hp
  have hc2 : Chg (fun k => k = b) w' (w'.setCell ⟨b, 3, none⟩ vW') := chg_pt _ _ _ _
  have hbt : BlkT w' b 94 := ⟨_, _, hp'⟩
  have hs : (w'.setCell ⟨b, 3, none⟩ vW').heap.size = w'.heap.size := by simp [World.setCell]
  refine ⟨fun k hk => by rw [hs]; exact FN.lt h.lt hc.size k hk, .inl h.fb, ?_, own_chg ho hc2 (fun g hg e => ?_), fun g hg => ?_, own_chg (own_chg h.ot hc (fun g hg e => ?_)) hc2 (fun g hg e => ?_), fun g hg => .inl (h.of g hg), h.zl, h.nd, fun z hz => ?_⟩
  · rw [heap_setCell_same w' b 3 _ 94 _ hp']; rfl
  · subst e; exact (own_blk ho hg).ne hbt (by decide) rfl
  · exact (hv g hg).elim (fun h2 => .inl (h.wf g h2)) (fun h2 => .inr ⟨h2, (World.ownsRow.lt ho g hg).2⟩)
  · exact (own_blk h.ot hg).ne (own_blk h.wt e) (by decide) rfl
  · subst e; exact (own_blk h.ot hg).ne h.bt (by decide) rfl
  · have h1 : SndAt w' F vW z.1 z.2 := (h.snd z hz).chg hc (fun e => (h.snd z hz).blk.ne (own_blk h.wt e) (by decide) rfl) (fun _ _ _ hk => hk)
    have h2 : SndAt w' F vW' z.1 z.2 := h1.row (w0 := w) h.lt hv
    exact (h2.chg hc2 (h1.blk.ne hbt (by decide)) (fun k _ hk _ => hk.ne hbt (by decide))).mono (fun k hk => .inl hk)
/-- Another row of what is out, in its elder block or in a new one. -/
theorem PZ.oset (h : PZ w F b s Z vW vO) (hc : Chg (fun k => vO.ownBlock = some k) w w') {vO' : Value} {Z' : Zs1} (ho : OwP w' vO' (Z'.map Prod.fst)) (hv : ∀ g, vO'.ownBlock = some g → vO.ownBlock = some g ∨ w.heap.size ≤ g) (hn : (Z'.map Prod.fst).Nodup) (hz : ∀ z ∈ Z', SndAt w F vW z.1 z.2) :
    PZ (w'.setCell ⟨b, 4, none⟩ vO') (FN F w w') b { s with L := Z'.map Prod.snd } Z' vW vO' := by
  have hb : ¬ vO.ownBlock = some b := fun e => (own_blk h.ot e).ne h.bt (by decide) rfl
  have hp' : w'.heap[b]? = some (.cells #[.int .i64 s.win, .int .i64 s.tries, .int .i64 s.nx, vW, vO] 94) := (hc.block b (h.lt b h.fb) hb).trans h.hp
  have hc2 : Chg (fun k => k = b) w' (w'.setCell ⟨b, 4, none⟩ vO') := chg_pt _ _ _ _
  have hbt : BlkT w' b 94 := ⟨_, _, hp'⟩
  have hs : (w'.setCell ⟨b, 4, none⟩ vO').heap.size = w'.heap.size := by simp [World.setCell]
  refine ⟨fun k hk => by rw [hs]; exact FN.lt h.lt hc.size k hk, .inl h.fb, ?_, own_chg (own_chg h.wt hc (fun g hg e => ?_)) hc2 (fun g hg e => ?_), fun g hg => .inl (h.wf g hg), own_chg ho hc2 (fun g hg e => ?_), fun g hg => ?_, rfl, hn, fun z hz2 => ?_⟩
  · rw [heap_setCell_same w' b 4 _ 94 _ hp']; rfl
  · exact (own_blk h.wt hg).ne (own_blk h.ot e) (by decide) rfl
  · subst e; exact (own_blk h.wt hg).ne h.bt (by decide) rfl
  · subst e; exact (own_blk ho hg).ne hbt (by decide) rfl
  · exact (hv g hg).elim (fun h2 => .inl (h.of g h2)) (fun h2 => .inr ⟨h2, (World.ownsRow.lt ho g hg).2⟩)
  · have h1 : SndAt w' F vW z.1 z.2 := (hz z hz2).chg hc (fun e => (hz z hz2).blk.ne (own_blk h.ot e) (by decide) rfl) (fun k _ hk _ e => hk.ne (own_blk h.ot e) (by decide) rfl)
    exact (h1.chg hc2 (h1.blk.ne hbt (by decide)) (fun k _ hk _ => hk.ne hbt (by decide))).mono (fun k hk => .inl hk)
/-- One that is out was sent once more. -/
theorem PZ.tset {X Y : Zs1} {p : Nat} {e : Bt × Int} (h : PZ w F b s (X ++ (p, e) :: Y) vW vO) (n : Int) :
    PZ (w.setCell ⟨p, 2, none⟩ (.int .i64 n)) F b { s with L := (X ++ (p, e.1, n) :: Y).map Prod.snd } (X ++ (p, e.1, n) :: Y) vW vO := by
  have hc : Chg (fun k => k = p) w (w.setCell ⟨p, 2, none⟩ (.int .i64 n)) := chg_pt _ _ _ _
  have hpe := h.snd (p, e) (List.mem_append_right _ List.mem_cons_self)
  have hpt : BlkT w p 103 := hpe.blk
  have hne : (X ++ (p, e.1, n) :: Y).map Prod.fst = (X ++ (p, e) :: Y).map Prod.fst := by simp
  have hob : ∀ k, F k → BlkT w k 53 → ¬ vW.ownBlock = some k → ¬ k = p := fun k _ hk _ => hk.ne hpt (by decide)
  have hnd := h.nd
  rw [List.map_append, List.map_cons] at hnd
  refine ⟨fun k hk => by have := h.lt k hk; simpa [World.setCell] using this, h.fb, ?_, own_chg h.wt hc (fun g hg e => ?_), h.wf, ?_, h.of, rfl, by rw [hne]; exact h.nd, fun z hz => ?_⟩
  · exact (hc.block b (h.lt b h.fb) (h.bt.ne hpt (by decide))).trans h.hp
  · subst e; exact (own_blk h.wt hg).ne hpt (by decide) rfl
  · unfold OwP
    rw [hne]
    exact own_chg h.ot hc (fun g hg e => by subst e; exact (own_blk h.ot hg).ne hpt (by decide) rfl)
  · have hold : z ∈ X ++ Y → SndAt (w.setCell ⟨p, 2, none⟩ (.int .i64 n)) F vW z.1 z.2 := fun hz => by
      have hm : z ∈ X ++ (p, e) :: Y := by
        rcases List.mem_append.1 hz with h1 | h1
        · exact List.mem_append_left _ h1
        · exact List.mem_append_right _ (List.mem_cons_of_mem _ h1)
      refine (h.snd z hm).chg hc (fun e2 => ?_) hob
      rw [List.nodup_append] at hnd
      obtain ⟨_, h2, h3⟩ := hnd
      rcases List.mem_append.1 hz with h1 | h1
      · exact h3 z.1 (List.mem_map.2 ⟨z, h1, rfl⟩) p List.mem_cons_self e2
      · exact (List.nodup_cons.1 h2).1 (e2 ▸ List.mem_map.2 ⟨z, h1, rfl⟩)
    rcases List.mem_append.1 hz with h1 | h1
    · exact hold (List.mem_append_left _ h1)
    · rcases List.mem_cons.1 h1 with rfl | h1
      · obtain ⟨u, g1, g2⟩ := hpe.cell
        exact ⟨hpe.f, u, by rw [heap_setCell_same w p 2 _ 103 _ g1]; rfl, g2.chg hc hob⟩
      · exact hold (List.mem_append_right _ h1)
end
end Go.Proofs.YtfiaghfaijlfjaaGreat

namespace Go.Proofs.YtfiaghfaijlfjaaGreat
set_option maxRecDepth 100000
set_option linter.unusedVariables false
open Go.RowKit

section
variable (R : RowT)
def NewR (wo : World) (S : Nat) (v : Value) (zs : List R.α) (n : Nat) : Ty := fun u w => ∃ g cap, u = .slice (some ⟨g, 0, none⟩) n cap ∧ w.ownsRow S R.T R.K u zs.length (gflat R zs) ∧ (v.ownBlock = some g ∨ wo.heap.size ≤ g)
variable {R}
theorem NewR.keeps {wo : World} {S n : Nat} {v : Value} {zs : List R.α} {row : Option Nat} (s : Nat) : T3.Keeps (GX row s) s (NewR R wo S v zs n) := by
  rintro j hj u w w' ⟨g, cap, h1, h2, h3⟩ hx
  unfold GX at hx
  rw [if_neg hj] at hx
  exact ⟨g, cap, h1, gown_below h2 hx, h3⟩
variable (R)
/-- One more: the elder row is there as it was; the new one lies in its block, or in a new one. -/
theorem run_gappr (w : World) (S : Nat) (v : Value) (xs : List R.α) (hown : w.ownsRow S R.T R.K v xs.length (gflat R xs)) (b : Nat) (y : R.α) (hy : GC R w b 0 y) (hl : xs.length ≤ 3000) (hS : S ≤ w.heap.size) {ty : TypeId} :
    ∃ g cap w', (Builtin.append_ #[R.SL, R.SL] ty #[v, .slice (some ⟨b, 0, none⟩) 1 1]).run Tryz.prog w = .ok (.slice (some ⟨g, 0, none⟩) (xs.length + 1) cap) w' ∧ w'.ownsRow S R.T R.K (.slice (some ⟨g, 0, none⟩) (xs.length + 1) cap) (xs ++ [y]).length (gflat R (xs ++ [y])) ∧ w.grownBy w' v.ownBlock ∧ w'.ownsRow S R.T R.K v xs.length (gflat R xs) ∧ (v.ownBlock = some g ∨ w.heap.size ≤ g) := by
  obtain ⟨g, cap, w1, hr, h2, h3, h4⟩ := run_gapp (R := R) w ty S v xs hown b y hy hl hS
  obtain ⟨g2, cap2, w2, hr2, _, _, h5⟩ := run_gapp2 R w ty S v xs hown b y hy hl hS
  have e := hr.symm.trans hr2
  simp only [Result.ok.injEq, Value.slice.injEq, Option.some.injEq, Addr.mk.injEq, and_true, true_and] at e
  obtain ⟨⟨e1, _⟩, _⟩ := e
  exact ⟨g, cap, w1, hr, h2, h3, h4, e1 ▸ h5⟩
end
set_option maxHeartbeats 4000000 in
theorem pnew_any (win tries : Int) (w : World) : Calls Tryz.prog 16 #[.int .i64 win, .int .i64 tries] w fun e w' => Below w.heap.size w w' ∧ ((¬ nwOk win tries ∧ e = .returned (.tuple #[.pointer none, .int .i64 1])) ∨ (nwOk win tries ∧ ∃ b F, e = .returned (.tuple #[.pointer (some ⟨b, 0, none⟩), .int .i64 0]) ∧ PS w' F b (sd0 win tries) ∧ ∀ k, F k → w.heap.size ≤ k)) := by
  obtain ⟨W1, hW1⟩ : ∃ W1, w.alloc (.cells #[.int .i64 (sd0 win tries).win, .int .i64 (sd0 win tries).tries, .int .i64 (sd0 win tries).nx, .slice none 0 0, .slice none 0 0] 94) = W1 := ⟨_, rfl⟩
  have hb1 : Below w.heap.size w W1 := hW1 ▸ (Below.refl _ w).alloc (Nat.le_refl _) _
  have hs1 : W1.heap.size = w.heap.size + 1 := by rw [← hW1]; simp
  have hp : W1.heap[w.heap.size]? = some (.cells #[.int .i64 (sd0 win tries).win, .int .i64 (sd0 win tries).tries, .int .i64 (sd0 win tries).nx, .slice none 0 0, .slice none 0 0] 94) := by rw [← hW1]; exact heap_alloc_new w _
  by_cases hok : nwOk win tries
  · have HPS : Hid (PS W1 (fun k => k = w.heap.size) w.heap.size (sd0 win tries)) := ⟨sdok_new hok, [], .slice none 0 0, .slice none 0 0, ⟨fun k hk => by omega, rfl, hp, OwO_nil W1 0, fun g hg => (by cases hg), ⟨rfl, .inl ⟨rfl, rfl⟩⟩, fun g hg => (by cases hg), rfl, List.nodup_nil, fun z hz => absurd hz List.not_mem_nil⟩⟩
    have HOK := Lib.hid hok
    have HB1 := Lib.hid hb1
    have HW1 : Hid (w.alloc (.cells #[.int .i64 win, .int .i64 tries, .int .i64 0, .slice none 0 0, .slice none 0 0] 94) = W1) := hW1
    have d1 : decide (win < 1) = false := decide_eq_false (by have := hok.1.1; omega)
    have d2 : decide (16 < win) = false := decide_eq_false (by have := hok.1.2; omega)
    have d3 : decide (tries < 1) = false := decide_eq_false (by have := hok.2.1; omega)
    have d4 : decide (100 < tries) = false := decide_eq_false (by have := hok.2.2; omega)
    have n1 : ¬ win < 1 := of_decide_eq_false d1
    have n2 : ¬ (16 : Int) < win := of_decide_eq_false d2
    have n3 : ¬ tries < 1 := of_decide_eq_false d3
    have n4 : ¬ (100 : Int) < tries := of_decide_eq_false d4
    clear hok hb1 hW1 hp hs1
    go_enter Tryz.func16, Tryz.ntmps16
    go_wp2_with fail
    rw [HW1.out]
    go_ret2
    exact ⟨HB1.out, .inr ⟨HOK.out, w.heap.size, rfl, fun k => k = w.heap.size, HPS.out, fun k hk => Nat.le_of_eq hk.symm⟩⟩
  · have HOK := Lib.hid hok
    have hq : win < 1 ∨ (16 : Int) < win ∨ tries < 1 ∨ (100 : Int) < tries := by unfold nwOk at hok; omega
    clear hok hb1 hW1 hp hs1
    by_cases n1 : win < 1
    · go_enter Tryz.func16, Tryz.ntmps16
      go_wp2_with fail
      go_ret2
      exact ⟨Below.refl _ _, .inl ⟨HOK.out, rfl⟩⟩
    by_cases n2 : (16 : Int) < win
    · clear hq
      go_enter Tryz.func16, Tryz.ntmps16
      go_wp2_with fail
      go_ret2
      exact ⟨Below.refl _ _, .inl ⟨HOK.out, rfl⟩⟩
    by_cases n3 : tries < 1
    · clear hq
      go_enter Tryz.func16, Tryz.ntmps16
      go_wp2_with fail
      go_ret2
      exact ⟨Below.refl _ _, .inl ⟨HOK.out, rfl⟩⟩
    have n4 : (100 : Int) < tries := by omega
    clear hq
    go_enter Tryz.func16, Tryz.ntmps16
    go_wp2_with fail
    go_ret2
    exact ⟨Below.refl _ _, .inl ⟨HOK.out, rfl⟩⟩
end Go.Proofs.YtfiaghfaijlfjaaGreat

namespace Go.Proofs.YtfiaghfaijlfjaaGreat
set_option maxRecDepth 100000
set_option linter.unusedVariables false
open Go.RowKit

set_option maxHeartbeats 8000000 in
theorem ppush_any {w : World} {F : Nat → Prop} {b : Nat} {s : Sd} {Z : Zs1} {vW vO : Value} (y : Ob) (h : PZ w F b s Z vW vO) (hl : s.W.length ≤ 1024) :
    Calls Tryz.prog 17 #[.pointer (some ⟨b, 0, none⟩), .agg #[.int .i64 y.k, .int .i64 y.x, .bool y.n, .int .i64 y.t, .int .i64 y.o, .int .i64 y.r, .int .i64 y.d, .int .i64 y.i, .int .i64 y.p, .int .i64 y.q, .int .i64 y.s, .int .i64 y.m]] w fun e w' => e = .returned (.int .i64 (pushR s y).1) ∧ Chg F w w' ∧ ∃ F' vW', PZ w' F' b (pushR s y).2 Z vW' vO ∧ ∀ k, F' k → F k ∨ w.heap.size ≤ k := by
  obtain ⟨W1, hW1⟩ : ∃ W1, w.alloc (.cells #[.int .i64 y.k, .int .i64 y.x, .bool y.n, .int .i64 y.t, .int .i64 y.o, .int .i64 y.r, .int .i64 y.d, .int .i64 y.i, .int .i64 y.p, .int .i64 y.q, .int .i64 y.s, .int .i64 y.m] 53) = W1 := ⟨_, rfl⟩
  have hb1 : Below w.heap.size w W1 := hW1 ▸ (Below.refl _ w).alloc (Nat.le_refl _) _
  obtain ⟨g0, hg0⟩ : ∃ g0, w.heap.size = g0 := ⟨_, rfl⟩
  have hs1 : W1.heap.size = g0 + 1 := by rw [← hg0, ← hW1]; simp
  have hy1 : Cells12 W1 g0 y.k y.x y.n y.t y.o y.r y.d y.i y.p y.q y.s y.m := by rw [← hW1, ← hg0]; exact cells12_alloc w _ _ _ _ _ _ _ _ _ _ _ _ _
  have HFL : Hid (∀ k, F k → k < g0) := fun k hk => hg0 ▸ h.lt k hk
  obtain ⟨a, c, rfl⟩ := h.wform
  have H1 := Lib.hid (h.below hb1)
  have HB1 := Lib.hid hb1
  have HW1 := Lib.hid hW1
  have HG0 := Lib.hid hg0
  have HS1 := Lib.hid hs1
  have HY1 := Lib.hid hy1
  have HL := Lib.hid hl
  have C1 := Lib.hid (ocheck_any y.k y.x y.n y.t y.o y.r y.d y.i y.p y.q y.s y.m W1)
  clear h hb1 hW1 hg0 hs1 hy1 hl
  go_enter Tryz.func17, Tryz.ntmps17
  go_upto_region 1 with (fail)
  rw [HW1.out]
  simp only [HG0.out]
  obtain ⟨u0, u1, u2, u3, u4, u5, u6, u7, u8, u9, u10, u11⟩ := HY1.out
  go_wp2_with fail
  refine C1.out.mono ?_
  rintro e W2 ⟨rfl, hb⟩
  clear u0 u1 u2 u3 u4 u5 u6 u7 u8 u9 u10 u11
  have HY2 := Lib.hid (HY1.out.below hb)
  have H2 := Lib.hid (H1.out.below hb)
  have HB2 := Lib.hid (HB1.out.trans (hb.mono HB1.out.size))
  have HS2 : Hid (g0 + 1 ≤ W2.heap.size) := HS1.out ▸ hb.size
  clear hb C1
  by_cases hok : y.Ok
  · have e0 : obc y.k y.x y.n y.t y.o y.r y.d y.i y.p y.q y.s y.m = 0 := obc_ok hok
    obtain ⟨c0, c1, c2, c3, c4, cf⟩ := H2.out.cells
    rw [e0]
    by_cases hf : s.W.length = 1024
    · have e1 : Hid (pushR s y = (8, s)) := pushR_full hok (by omega)
      have hd : ((s.W.length : Int) == 1024) = true := by rw [hf]; rfl
      clear hok hf e0
      go_wp2_with fail
      go_ret
      rw [e1.out]
      exact ⟨rfl, chg0 HB2.out, F, _, H2.out, fun k hk => .inl hk⟩
    · have e1 : Hid (pushR s y = (0, { s with W := s.W ++ [y] })) := pushR_ok hok (by have := HL.out; omega)
      have hd : ((s.W.length : Int) == 1024) = false := beq_false_of_ne (by omega)
      clear hok hf e0
      clear c0 c1 c2 c4 cf
      go_upto_region 8 with (fail)
      clear c3
      have kc : ∀ w', Chg (fun k => (Value.slice a s.W.length c).ownBlock = some k) W2 w' → (w'.cell? ⟨b, 3, none⟩ = some (.slice a s.W.length c)) ∧ w'.cell? ⟨g0, 0, none⟩ = some (.int .i64 y.k) ∧ w'.cell? ⟨g0, 1, none⟩ = some (.int .i64 y.x) ∧ w'.cell? ⟨g0, 2, none⟩ = some (.bool y.n) ∧ w'.cell? ⟨g0, 3, none⟩ = some (.int .i64 y.t) ∧ w'.cell? ⟨g0, 4, none⟩ = some (.int .i64 y.o) ∧ w'.cell? ⟨g0, 5, none⟩ = some (.int .i64 y.r) ∧ w'.cell? ⟨g0, 6, none⟩ = some (.int .i64 y.d) ∧ w'.cell? ⟨g0, 7, none⟩ = some (.int .i64 y.i) ∧ w'.cell? ⟨g0, 8, none⟩ = some (.int .i64 y.p) ∧ w'.cell? ⟨g0, 9, none⟩ = some (.int .i64 y.q) ∧ w'.cell? ⟨g0, 10, none⟩ = some (.int .i64 y.s) ∧ w'.cell? ⟨g0, 11, none⟩ = some (.int .i64 y.m) := by
        intro w' hc
        have n1 : ¬ (Value.slice a s.W.length c).ownBlock = some b := fun e => (own_blk H2.out.wt e).ne H2.out.bt (by decide) rfl
        have n2 : ¬ (Value.slice a s.W.length c).ownBlock = some g0 := fun e => by have := HFL.out _ (H2.out.wf _ e); omega
        have f : ∀ {j : Nat} {v : Value}, W2.cell? ⟨g0, j, none⟩ = some v → w'.cell? ⟨g0, j, none⟩ = some v := fun h => (hc.cell (by have := HS2.out; omega) n2).trans h
        obtain ⟨h0, h1, h2, h3, h4, h5, h6, h7, h8, h9, h10, h11⟩ := HY2.out
        exact ⟨(hc.cell (H2.out.lt b H2.out.fb) n1).trans H2.out.cells.2.2.2.1, f h0, f h1, f h2, f h3, f h4, f h5, f h6, f h7, f h8, f h9, f h10, f h11⟩
      have HXL : Hid (s.W.length ≤ 3000) := Nat.le_trans HL.out (by decide)
      have HSW : Hid (0 ≤ W2.heap.size) := Nat.zero_le _
      have OW : Hid (W2.ownsRow 0 (ROB).T (ROB).K (Value.slice a s.W.length c) s.W.length (gflat ROB s.W)) := H2.out.wt
      have HROW : ∀ k, (Value.slice a s.W.length c).ownBlock = some k → k < W2.heap.size := fun k hk => H2.out.lt k (H2.out.wf k hk)
      refine T3.wp_region_tail (C := fun w' => Chg (fun k => (Value.slice a s.W.length c).ownBlock = some k) W2 w' ∧ w'.ownsRow 0 (ROB).T (ROB).K (Value.slice a s.W.length c) (s.W).length (gflat ROB (s.W))) (X := GX (Value.ownBlock (Value.slice a s.W.length c)) 7) (n := 29) 10 (by kernel_rfl) (by kernel_rfl) (by kernel_rfl) (by kernel_rfl) rfl (GX_refl _ 7) ⟨(Chg.refl _ _).drew, OW.out.drew⟩ ?_
      simp only [List.take_succ_cons, List.take_zero, List.drop_succ_cons, List.drop_zero]
      refine T3.w_is (GX_refl _ 7) rfl _ (.inl rfl) (fun ρ w hC hc hfn hf => by have e0 : ρ (.tmp 0) = _ := hf 0 (by decide); (conv => lhs; simp [execOp, go_sem, hc, e0])) ?_
      refine T3.w_is (GX_refl _ 7) rfl _ (.inl rfl) (fun ρ w hC hc hfn hf => by have e0 : ρ (.tmp 0) = _ := hf 0 (by decide); (conv => lhs; simp [execOp, go_sem, hc, e0])) ?_
      refine T3.w_is (GX_refl _ 7) rfl _ (.inl rfl) (fun ρ w hC hc hfn hf => by have e20 : ρ (.tmp 20) = _ := hf 20 (by decide); (conv => lhs; simp [execOp, go_sem, hc, e20])) ?_
      refine T3.w_is (GX_refl _ 7) rfl _ (.inl rfl) (fun ρ w hC hc hfn hf => by have e21 : ρ (.tmp 21) = _ := hf 21 (by decide); (conv => lhs; simp [execOp, go_sem, hc, e21])) ?_
      refine T3.w_is (GX_refl _ 7) rfl _ (.inl rfl) (fun ρ w hC hc hfn hf => by have e22 : ρ (.tmp 22) = _ := hf 22 (by decide); (conv => lhs; simp [execOp, go_sem, hc, e22, kc w hC.1])) ?_
      refine T3.w_is (GX_refl _ 7) rfl _ (.inl rfl) (fun ρ w hC hc hfn hf => by have e3 : ρ (.tmp 3) = _ := hf 3 (by decide); (conv => lhs; simp [execOp, go_sem, hc, e3, kc w hC.1])) ?_
      refine T3.w_make rfl (NewG (R := ROB) W2 (y)) (NewG.keeps HROW 7 6) (.inl rfl) (fun ρ w hC hc hfn hf => by have e24 : ρ (.tmp 24) = _ := hf 24 (by decide); exact ⟨_, _, by (conv => lhs; simp [execOp, go_sem, hc, e24]); rfl, ⟨hC.1.alloc _, gown_below hC.2 ((Below.refl _ w).alloc (Nat.le_refl _) _)⟩, GX_of (by decide) ((Below.refl _ w).alloc (Nat.le_refl _) _), ⟨_, rfl, hC.1.size, gc_alloc (ROB) w (y) _ rfl 53⟩⟩) ?_
      refine T3.w_make rfl (NewR (ROB) W2 0 (Value.slice a s.W.length c) ((s.W) ++ [y]) ((s.W).length + 1)) (NewR.keeps 7) (.inl rfl) (fun ρ w hC hc hfn hf => by have e23 : ρ (.tmp 23) = _ := hf 23 (by decide); obtain ⟨bq, e25, hb1, hb2⟩ := (show NewG (R := ROB) W2 (y) (ρ (.tmp 25)) w from hf 25 (by decide)); obtain ⟨gq, cq, wq, hr, hq1, hq2, hq4, hq3⟩ := run_gappr (ROB) w 0 _ (s.W) hC.2 bq (y) hb2 HXL.out (Nat.le_trans HSW.out hC.1.size); exact ⟨_, wq, gexec_append rfl e23 e25 hr, ⟨hC.1.grown hq2 (fun k hk => .inl hk), hq4⟩, GX_at rfl hq2, ⟨gq, cq, rfl, hq1, hq3.imp (fun h => h) (fun h => Nat.le_trans hC.1.size h)⟩⟩) ?_
      refine T3.w_is (GX_refl _ 7) rfl _ (.inl rfl) (fun ρ w hC hc hfn hf => by have e19 : ρ (.tmp 19) = _ := hf 19 (by decide); (conv => lhs; simp [execOp, go_sem, hc, e19])) ?_
      refine T3.w_is (GX_refl _ 7) rfl _ (.inl rfl) (fun ρ w hC hc hfn hf => by have e27 : ρ (.tmp 27) = _ := hf 27 (by decide); (conv => lhs; simp [execOp, go_sem, hc, e27])) ?_
      intro A V5 hC hn hd hf
      obtain ⟨bq, y25, -, -⟩ := (show NewG (R := ROB) W2 (y) (A.eval (.tmp 25)) V5 from hf 25)
      obtain ⟨gq, cq, y26, OQ, HQ9⟩ := (show NewR (ROB) W2 0 (Value.slice a s.W.length c) ((s.W) ++ [y]) ((s.W).length + 1) (A.eval (.tmp 26)) V5 from hf 26)
      rw [y26] at OQ
      have y0 : A.eval (.tmp 0) = _ := Eq.trans (hf 0) (by conv => lhs; simp [go_sem])
      have y1 : A.eval (.tmp 1) = _ := Eq.trans (hf 1) (by conv => lhs; simp [go_sem])
      have y2 : A.eval (.tmp 2) = _ := Eq.trans (hf 2) (by conv => lhs; simp [go_sem])
      have y3 : A.eval (.tmp 3) = _ := Eq.trans (hf 3) (by conv => lhs; simp [go_sem])
      have y4 : A.eval (.tmp 4) = _ := Eq.trans (hf 4) (by conv => lhs; simp [go_sem])
      have y5 : A.eval (.tmp 5) = _ := Eq.trans (hf 5) (by conv => lhs; simp [go_sem])
      have y6 : A.eval (.tmp 6) = _ := Eq.trans (hf 6) (by conv => lhs; simp [go_sem])
      have y7 : A.eval (.tmp 7) = _ := Eq.trans (hf 7) (by conv => lhs; simp [go_sem])
      have y8 : A.eval (.tmp 8) = _ := Eq.trans (hf 8) (by conv => lhs; simp [go_sem])
      have y9 : A.eval (.tmp 9) = _ := Eq.trans (hf 9) (by conv => lhs; simp [go_sem])
      have y10 : A.eval (.tmp 10) = _ := Eq.trans (hf 10) (by conv => lhs; simp [go_sem])
      have y11 : A.eval (.tmp 11) = _ := Eq.trans (hf 11) (by conv => lhs; simp [go_sem])
      have y12 : A.eval (.tmp 12) = _ := Eq.trans (hf 12) (by conv => lhs; simp [go_sem])
      have y13 : A.eval (.tmp 13) = _ := Eq.trans (hf 13) (by conv => lhs; simp [go_sem])
      have y14 : A.eval (.tmp 14) = _ := Eq.trans (hf 14) (by conv => lhs; simp [go_sem])
      have y15 : A.eval (.tmp 15) = _ := Eq.trans (hf 15) (by conv => lhs; simp [go_sem])
      have y16 : A.eval (.tmp 16) = _ := Eq.trans (hf 16) (by conv => lhs; simp [go_sem])
      have y17 : A.eval (.tmp 17) = _ := Eq.trans (hf 17) (by conv => lhs; simp [go_sem])
      have y18 : A.eval (.tmp 18) = _ := Eq.trans (hf 18) (by conv => lhs; simp [go_sem])
      have y19 : A.eval (.tmp 19) = _ := hf 19
      have y20 : A.eval (.tmp 20) = _ := hf 20
      have y21 : A.eval (.tmp 21) = _ := hf 21
      have y22 : A.eval (.tmp 22) = _ := hf 22
      have y23 : A.eval (.tmp 23) = _ := hf 23
      have y24 : A.eval (.tmp 24) = _ := hf 24
      have y27 : A.eval (.tmp 27) = _ := hf 27
      have y28 : A.eval (.tmp 28) = _ := hf 28
      clear hf
      have hA := frame_eq hn
      rw [show List.range 29 = [0, 1, 2, 3, 4, 5, 6, 7, 8, 9, 10, 11, 12, 13, 14, 15, 16, 17, 18, 19, 20, 21, 22, 23, 24, 25, 26, 27, 28] from rfl, hd] at hA
      simp only [List.map_cons, List.map_nil, y0, y1, y2, y3, y4, y5, y6, y7, y8, y9, y10, y11, y12, y13, y14, y15, y16, y17, y18, y19, y20, y21, y22, y23, y24, y25, y26, y27, y28] at hA
      clear y0 y1 y2 y3 y4 y5 y6 y7 y8 y9 y10 y11 y12 y13 y14 y15 y16 y17 y18 y19 y20 y21 y22 y23 y24 y25 y26 y27 y28
      clear hn hd
      subst hA
      obtain ⟨hC1, hC2⟩ := hC
      have hfin := H2.out.wset hC1 (vW' := .slice (some ⟨gq, 0, none⟩) (s.W.length + 1) cq) (W' := s.W ++ [y]) OQ (fun g hg => by cases hg; exact HQ9)
      have n1 : ¬ (Value.slice a s.W.length c).ownBlock = some b := fun e => (own_blk H2.out.wt e).ne H2.out.bt (by decide) rfl
      have hp5 : V5.heap[b]? = some (.cells #[.int .i64 s.win, .int .i64 s.tries, .int .i64 s.nx, .slice a s.W.length c, vO] 94) := (hC1.block b (H2.out.lt b H2.out.fb) n1).trans H2.out.hp
      have c3 : V5.cell? ⟨b, 3, none⟩ = some (.slice a s.W.length c) := by simp [World.cell?, hp5]
      have cf : ∀ j, V5.frozen? ⟨b, j, none⟩ = false := fun j => by simp [World.frozen?, hp5]
      have hcg : Chg F w (V5.setCell ⟨b, 3, none⟩ (.slice (some ⟨gq, 0, none⟩) (s.W.length + 1) cq)) := ((chg0 HB2.out).trans (hC1.mono (fun x _ hx => H2.out.wf x hx)) (fun _ _ hx => hx)).setCell (.inl H2.out.fb) _
      have HFIN := Lib.hid hfin
      have HCG := Lib.hid hcg
      have HSZ : Hid (w.heap.size ≤ W2.heap.size) := HB2.out.size
      clear hC1 hC2 hfin hp5 hcg n1 kc HROW HQ9 OQ
      go_wp2_with fail
      go_ret
      rw [e1.out]
      exact ⟨rfl, HCG.out, _, _, HFIN.out, fun k hk => hk.imp (fun h => h) (fun h => Nat.le_trans HSZ.out h.1)⟩
  · have e0 : obc y.k y.x y.n y.t y.o y.r y.d y.i y.p y.q y.s y.m = 1 := obc_no hok
    have e1 : Hid (pushR s y = (1, s)) := pushR_no hok
    rw [e0]
    clear hok e0
    go_wp2_with fail
    go_ret
    rw [e1.out]
    exact ⟨rfl, chg0 HB2.out, F, _, H2.out, fun k hk => .inl hk⟩
end Go.Proofs.YtfiaghfaijlfjaaGreat

namespace Go.Proofs.YtfiaghfaijlfjaaGreat
set_option maxRecDepth 100000
set_option linter.unusedVariables false
open Go.RowKit

theorem OwO.mono0 {w : World} {S S' : Nat} {v : Value} {l : List Ob} (h : OwO w S v l) (hS : S' ≤ S) : OwO w S' v l := gown_mono h hS
theorem oclone_any (v : Value) (ys : List Ob) (w : World) (h : Os w v ys) (hl : ys.length ≤ 3000) : Calls Tryz.prog 24 #[v] w fun e w' => (∃ a c, e = .returned (.slice a ys.length c) ∧ OwO w' w.heap.size (.slice a ys.length c) ys) ∧ Below w.heap.size w w' := by
  obtain ⟨a, c, rfl⟩ := h.form
  cases a with
  | none =>
    obtain ⟨rfl, rfl⟩ : ys = [] ∧ c = 0 := by
      rcases h with ⟨a, cap, hv, hc, rfl⟩ | ⟨b, off, cap, hv, _⟩
      · cases hv; exact ⟨rfl, hc rfl⟩
      · cases hv
    have q22 : ∀ w, (binOp .eql 29 (.slice none 0 0) (.slice none 0 0)).run Tryz.prog w = .ok (.bool true) w := fun w => Lib.run_eql_slice_nil w 29 53 none 0 0 0 0 underSL
    clear h
    show Calls Tryz.prog 24 #[.slice none 0 0] w _
    go_enter Tryz.func24, Tryz.ntmps24
    go_wp2_with fail
    go_ret
    exact ⟨⟨none, 0, rfl, OwO_nil w _⟩, Below.refl _ _⟩
  | some ad =>
    have q22 : ∀ w, (binOp .eql 29 (.slice (some ad) ys.length c) (.slice none 0 0)).run Tryz.prog w = .ok (.bool false) w := fun w => Lib.run_eql_slice_nil w 29 53 (some ad) ys.length c 0 0 underSL
    obtain ⟨V, hV⟩ : ∃ V, w.alloc (.cells #[] 53) = V := ⟨_, rfl⟩
    have hb : Below w.heap.size w V := hV ▸ (Below.refl _ w).alloc (Nat.le_refl _) _
    have ho : OwO V w.heap.size (.slice (some ⟨w.heap.size, 0, none⟩) 0 0) [] := hV ▸ World.ownsRow_made (e := 53) (size := 12) w #[] 0 (Nat.le_refl _) (by decide) rfl
    obtain ⟨r, w2, hr, ho2, hg, _⟩ := run_gappo V 29 w.heap.size _ [] ho _ ys (h.below hb) (by simp; omega) hb.size
    rw [List.nil_append] at ho2
    have hb2 : Below w.heap.size w w2 := hb.grown hg hb.size (fun k hk => (World.ownsRow.lt ho k hk).1)
    obtain ⟨a2, c2, rfl⟩ := own_form ho2
    have HO := Lib.hid ho2
    have HB := Lib.hid hb2
    rw [← hV] at hr
    clear h hb ho hg ho2 hb2 hV
    go_enter Tryz.func24, Tryz.ntmps24
    go_wp2_with (at_builtin; refine app_go rfl (.tmp 5) (.tmp 6) 29 rfl _ _ _ _ rfl rfl hr ?_)
    go_ret
    exact ⟨⟨a2, c2, rfl, HO.out⟩, HB.out⟩
def NewCl (V : World) (l : List Ob) : Ty := fun v w => ∃ a c, v = .slice a l.length c ∧ OwO w V.heap.size (.slice a l.length c) l
theorem NewCl.keeps (V : World) (l : List Ob) (k : Nat) : T3.Keeps (fun _ w w' => Below w.heap.size w w') k (NewCl V l) := fun _ _ _ _ _ ⟨a, c, h1, h2⟩ hb => ⟨a, c, h1, h2.below hb⟩
def NewBd (V : World) (n : Int) (l : List Ob) : Ty := fun v w => ∃ a c, v = .agg #[.int .i64 n, .slice a l.length c] ∧ OwO w V.heap.size (.slice a l.length c) l
theorem NewBd.keeps (V : World) (n : Int) (l : List Ob) (k : Nat) : T3.Keeps (fun _ w w' => Below w.heap.size w w') k (NewBd V n l) := fun _ _ _ _ _ ⟨a, c, h1, h2⟩ hb => ⟨a, c, h1, h2.below hb⟩
def NewBr (V : World) (n : Int) (l : List Ob) : Ty := fun v w => ∃ b a c, v = .slice (some ⟨b, 0, none⟩) 1 1 ∧ V.heap.size ≤ b ∧ w.cell? ⟨b, 0, none⟩ = some (.int .i64 n) ∧ w.cell? ⟨b, 1, none⟩ = some (.slice a l.length c) ∧ OwO w V.heap.size (.slice a l.length c) l
theorem NewBr.keeps (V : World) (n : Int) (l : List Ob) (k : Nat) : T3.Keeps (fun _ w w' => Below w.heap.size w w') k (NewBr V n l) := fun _ _ _ _ _ ⟨b, a, c, h1, h2, h3, h4, h5⟩ hb =>
  have hl := World.block_lt_of_cell? _ _ h3
  ⟨b, a, c, h1, h2, (hb.cell (p := ⟨b, 0, none⟩) hl).trans h3, (hb.cell (p := ⟨b, 1, none⟩) hl).trans h4, h5.below hb⟩
/-- One batch more, read where it lies. -/
theorem run_bapp2 (w : World) (ty : TypeId) (S : Nat) (v : Value) (bs : List Bt) (hrow : RowB w S v bs) (b : Nat) (N : Int) (a : Option Addr) (c : Nat) (ys : List Ob) (h0 : w.cell? ⟨b, 0, none⟩ = some (.int .i64 N)) (h1 : w.cell? ⟨b, 1, none⟩ = some (.slice a ys.length c)) (ho : OwO w S (.slice a ys.length c) ys) (h63 : bs.length ≤ 3000) (hS : S ≤ w.heap.size) :
    ∃ r w', (Builtin.append_ #[22, 22] ty #[v, .slice (some ⟨b, 0, none⟩) 1 1]).run Tryz.prog w = .ok r w' ∧ RowB w' S r (bs ++ [(N, ys)]) ∧ Below S w w' := by
  obtain ⟨i0, hi, hz0, hz1, hz2⟩ := info_parts infoBT
  obtain ⟨vs, k1, k2, k3⟩ := hrow
  obtain ⟨r, w', hr, h2, h3, _, _⟩ := run_append_own_at (P := Tryz.prog) w S 22 ty 34 i0 _ 2 32 underBS hi hz0 hz1 hz2 rfl (by decide) v bs.length (flat2 vs) k2 ⟨b, 0, none⟩ 1 1 [.int .i64 N, .slice a ys.length c] rfl (by
    intro j u hj
    rw [add_spot]
    have hj2 : j < 2 := (List.getElem?_eq_some_iff.1 hj).1
    have : j = 0 ∨ j = 1 := by omega
    rcases this with rfl | rfl
    · simp at hj; subst hj; exact h0
    · simp at hj; subst hj; exact h1) (by
    intro u hu
    simp at hu
    rcases hu with rfl | rfl <;> rfl) (by unfold maxLen; omega) (by omega) hS
  refine ⟨r, w', hr, ⟨vs ++ [(N, Value.slice a ys.length c)], by simp [k1], ?_, fun i hi2 => ?_⟩, (Below.refl _ w).grown h3 hS (fun k hk => (k2.lt k hk).1)⟩
  · have e : flat2 (vs ++ [(N, Value.slice a ys.length c)]) = flat2 vs ++ [.int .i64 N, .slice a ys.length c] := by rw [flat2_app]; rfl
    rw [e, show (bs ++ [(N, ys)]).length = bs.length + 1 by simp]
    exact h2
  · have hlen : i < bs.length + 1 := by simpa using hi2
    by_cases h9 : i < bs.length
    · have e1 : (vs ++ [(N, Value.slice a ys.length c)]).getD i zv = vs.getD i zv := by simp [List.getD, List.getElem?_append, k1, h9]
      have e2 : (bs ++ [(N, ys)]).getD i zb = bs.getD i zb := by simp [List.getD, List.getElem?_append, h9]
      rw [e1, e2]
      exact ⟨(k3 i h9).1, (k3 i h9).2.kept h3 (apart2 (k3 i h9).2 k2)⟩
    · have e : i = bs.length := by omega
      subst e
      have e1 : (vs ++ [(N, Value.slice a ys.length c)]).getD bs.length zv = (N, Value.slice a ys.length c) := by rw [← k1]; simp [List.getD]
      have e2 : (bs ++ [(N, ys)]).getD bs.length zb = (N, ys) := by simp [List.getD]
      rw [e1, e2]
      exact ⟨rfl, World.ownsRow.kept ho h3 (apart2 ho k2)⟩
/-- What lies at a pointer reads as a batch. -/
def RdP (w : World) (p : Nat) (x : Bt) : Prop := w.cell? ⟨p, 0, none⟩ = some (.int .i64 x.1) ∧ ∃ u, w.cell? ⟨p, 1, none⟩ = some u ∧ Os w u x.2
theorem RdP.lt {w : World} {p : Nat} {x : Bt} (h : RdP w p x) : p < w.heap.size := World.block_lt_of_cell? w _ h.1
theorem RdP.below {w w' : World} {p : Nat} {x : Bt} (h : RdP w p x) (hb : Below w.heap.size w w') : RdP w' p x := by
  have hp := h.lt
  obtain ⟨h1, u, h2, h3⟩ := h
  exact ⟨(hb.cell (p := ⟨p, 0, none⟩) hp).trans h1, u, (hb.cell (p := ⟨p, 1, none⟩) hp).trans h2, h3.below hb⟩
theorem SndAt.rd {w : World} {F : Nat → Prop} {vW : Value} {p : Nat} {e : Bt × Int} (h : SndAt w F vW p e) : RdP w p e.1 := by
  obtain ⟨u, h1, h2⟩ := h.cell
  exact ⟨by simp [World.cell?, h1], u, by simp [World.cell?, h1], h2.os⟩
theorem RowB.form' {w : World} {S : Nat} {v : Value} {bs : List Bt} (h : RowB w S v bs) : ∃ a c, v = .slice a bs.length c := by
  obtain ⟨vs, h1, h2, h3⟩ := h
  exact gown_form h2
theorem pt_at {w : World} {a : Option Addr} {c : Nat} {ps : List Nat} (h : Gs RPT w (.slice a ps.length c) ps) {i : Nat} (hi : i < ps.length) : ∃ b off, a = some ⟨b, off, none⟩ ∧ b < w.heap.size ∧ w.cell? ⟨b, off + i, none⟩ = some (ptr (ps.getD i 0)) := by
  obtain ⟨b, off, h1, h2, h3⟩ := Gs.at (R := RPT) h hi
  have := h3 0 (by decide)
  rw [show off + i * RPT.K + 0 = off + i from congrArg (off + ·) (Nat.mul_one i)] at this
  exact ⟨b, off, h1, h2, this⟩
set_option maxHeartbeats 8000000 in
theorem bof_any (a : Option Addr) (c : Nat) (ps : List Nat) (bs : List Bt) (w : World) (hv : Gs RPT w (.slice a ps.length c) ps) (hl : bs.length = ps.length) (hz : ∀ i, i < ps.length → RdP w (ps.getD i 0) (bs.getD i zb)) (hn : ps.length ≤ 1000) (hb : ∀ i, i < ps.length → (bs.getD i zb).2.length ≤ 3000) :
    Calls Tryz.prog 42 #[.slice a ps.length c] w fun e w' => ∃ r, e = .returned r ∧ RowB w' w.heap.size r bs ∧ Below w.heap.size w w' := by
  have HV := Lib.hid hv
  have HL := Lib.hid hl
  have HZ := Lib.hid hz
  have HN := Lib.hid hn
  have HBL := Lib.hid hb
  clear hv hl hz hb
  go_enter Tryz.func42, Tryz.ntmps42
  go_wp2_with fail
  go_loopw [3, 8] (fun lv iv wr => ∃ (k : Nat) (ax : Option Addr) (cx : Nat), k ≤ ps.length ∧ iv = .int .i64 k ∧ lv = .slice ax k cx ∧ Hid (RowB wr w.heap.size (.slice ax k cx) (bs.take k)) ∧ Hid (Below w.heap.size w wr)) (fun _ i _ => ps.length - (intOf i).toNat)
  case atStart => exact ⟨0, none, 0, Nat.zero_le _, rfl, rfl, RowB_nil _ _, Below.refl _ _⟩
  case round =>
    obtain ⟨k, ax, cx, hk, rfl, rfl, HR, HB⟩ := hrel
    by_cases hlt : k < ps.length
    · obtain ⟨b2, off, rfl, hb2, hc0⟩ := pt_at HV.out hlt
      obtain ⟨hq0, u, hq1, hq2⟩ := HZ.out k hlt
      have hql := HBL.out k hlt
      have hst : bs.take (k + 1) = bs.take k ++ [bs.getD k zb] := by rw [List.take_succ_eq_append_getElem (by have := HL.out; omega)]; simp [List.getD, show k < bs.length by have := HL.out; omega]
      obtain ⟨p, hp⟩ : ∃ p, ps.getD k 0 = p := ⟨_, rfl⟩
      obtain ⟨x, hx⟩ : ∃ x, bs.getD k zb = x := ⟨_, rfl⟩
      rw [hp] at hc0 hq0 hq1
      rw [hx] at hq0 hq2 hql hst
      obtain ⟨n, ys⟩ := x
      obtain ⟨a0, c0, rfl⟩ := hq2.form
      have HYL : Hid (ys.length ≤ 3000) := hql
      have hpl : p < w.heap.size := World.block_lt_of_cell? w _ hq0
      have HOS := Lib.hid (hq2.below HB.out)
      have hltz : (k : Int) < ps.length := by omega
      have e0 : wr.cell? ⟨b2, off + k, none⟩ = some (ptr p) := (HB.out.cell (p := ⟨b2, off + k, none⟩) hb2).trans hc0
      have e1 : wr.cell? ⟨p, 0, none⟩ = some (.int .i64 n) := (HB.out.cell (p := ⟨p, 0, none⟩) hpl).trans hq0
      have e2 : wr.cell? ⟨p, 1, none⟩ = some (.slice a0 ys.length c0) := (HB.out.cell (p := ⟨p, 1, none⟩) hpl).trans hq1
      have hpr : p < wr.heap.size := World.block_lt_of_cell? wr _ e1
      have kc : ∀ w', Below wr.heap.size wr w' → w'.cell? ⟨p, 0, none⟩ = some (.int .i64 n) ∧ w'.cell? ⟨p, 1, none⟩ = some (.slice a0 ys.length c0) := fun w' h => ⟨(h.cell (p := ⟨p, 0, none⟩) hpr).trans e1, (h.cell (p := ⟨p, 1, none⟩) hpr).trans e2⟩
      have HST := Lib.hid hst
      have HPL := Lib.hid hpr
      clear hp hx hst hq0 hq1 hq2 hql hc0 hb2 hpl e1 e2 hpr
      go_upto_region 5 with (fail)
      clear e0
      refine T3.wp_region_tailT (C := fun w' => Below wr.heap.size wr w') (X := fun _ w w' => Below w.heap.size w w') (n := 29) 14 (by kernel_rfl) (by kernel_rfl) (by kernel_rfl) (by kernel_rfl) rfl (fun _ w => Below.refl _ w) (Below.refl _ _).drew ?_
      simp only [List.take_succ_cons, List.take_zero, List.drop_succ_cons, List.drop_zero]
      refine T3.w_is (fun _ w => Below.refl _ w) rfl _ (.inl rfl) (fun ρ w hC hc hfn hf => by have e3 : ρ (.tmp 3) = _ := hf 3 (by decide); (conv => lhs; simp [execOp, go_sem, hc, e3])) ?_
      refine T3.w_is (fun _ w => Below.refl _ w) rfl _ (.inl rfl) (fun ρ w hC hc hfn hf => by have e5 : ρ (.tmp 5) = _ := hf 5 (by decide); (conv => lhs; simp [execOp, go_sem, hc, e5])) ?_
      refine T3.w_is (fun _ w => Below.refl _ w) rfl _ (.inl rfl) (fun ρ w hC hc hfn hf => by have e13 : ρ (.tmp 13) = _ := hf 13 (by decide); (conv => lhs; simp [execOp, go_sem, hc, e13])) ?_
      refine T3.w_is (fun _ w => Below.refl _ w) rfl _ (.inl rfl) (fun ρ w hC hc hfn hf => by have e14 : ρ (.tmp 14) = _ := hf 14 (by decide); (conv => lhs; simp [execOp, go_sem, hc, e14])) ?_
      refine T3.w_is (fun _ w => Below.refl _ w) rfl _ (.inl rfl) (fun ρ w hC hc hfn hf => by have e15 : ρ (.tmp 15) = _ := hf 15 (by decide); (conv => lhs; simp [execOp, go_sem, hc, e15])) ?_
      refine T3.w_is (fun _ w => Below.refl _ w) rfl _ (.inl rfl) (fun ρ w hC hc hfn hf => by have e16 : ρ (.tmp 16) = _ := hf 16 (by decide); (conv => lhs; simp [execOp, go_sem, hc, e16, kc w hC])) ?_
      refine T3.w_is (fun _ w => Below.refl _ w) rfl _ (.inl rfl) (fun ρ w hC hc hfn hf => by have e5 : ρ (.tmp 5) = _ := hf 5 (by decide); (conv => lhs; simp [execOp, go_sem, hc, e5])) ?_
      refine T3.w_is (fun _ w => Below.refl _ w) rfl _ (.inl rfl) (fun ρ w hC hc hfn hf => by have e18 : ρ (.tmp 18) = _ := hf 18 (by decide); (conv => lhs; simp [execOp, go_sem, hc, e18])) ?_
      refine T3.w_is (fun _ w => Below.refl _ w) rfl _ (.inl rfl) (fun ρ w hC hc hfn hf => by have e19 : ρ (.tmp 19) = _ := hf 19 (by decide); (conv => lhs; simp [execOp, go_sem, hc, e19])) ?_
      refine T3.w_is (fun _ w => Below.refl _ w) rfl _ (.inl rfl) (fun ρ w hC hc hfn hf => by have e20 : ρ (.tmp 20) = _ := hf 20 (by decide); (conv => lhs; simp [execOp, go_sem, hc, e20])) ?_
      refine T3.w_is (fun _ w => Below.refl _ w) rfl _ (.inl rfl) (fun ρ w hC hc hfn hf => by have e21 : ρ (.tmp 21) = _ := hf 21 (by decide); (conv => lhs; simp [execOp, go_sem, hc, e21, kc w hC])) ?_
      refine T3.w_call rfl (NewCl wr ys) (NewCl.keeps wr _ 11) 24 (.inl rfl) (fun ρ w hC hc hfn hf => by have e22 : ρ (.tmp 22) = _ := hf 22 (by decide); exact ⟨_, by (conv => lhs; simp [execOp, resolve, invoke, go_sem, hc, hfn, e22]), (oclone_any (.slice a0 ys.length c0) ys w (HOS.out.below hC) HYL.out).mono fun e w' h => by obtain ⟨⟨a, c, h1, h2⟩, h3⟩ := h; exact ⟨_, h1, hC.trans (h3.mono hC.size), h3, ⟨a, c, rfl, h2.mono0 hC.size⟩⟩⟩) ?_
      refine T3.w_make rfl (NewBd wr n ys) (NewBd.keeps wr n ys 12) (.inl rfl) (fun ρ w hC hc hfn hf => by have e17 : ρ (.tmp 17) = _ := hf 17 (by decide); obtain ⟨a2, c2, e23, ho⟩ := (show (NewCl wr ys) (ρ (.tmp 23)) w from hf 23 (by decide)); exact ⟨_, _, by (conv => lhs; simp [execOp, go_sem, hc, e17, e23]), hC, Below.refl _ _, ⟨a2, c2, rfl, ho⟩⟩) ?_
      refine T3.w_make rfl (NewBr wr n ys) (NewBr.keeps wr n ys 13) (.inl rfl) (fun ρ w hC hc hfn hf => by obtain ⟨a2, c2, e24, ho⟩ := (show (NewBd wr n ys) (ρ (.tmp 24)) w from hf 24 (by decide)); exact ⟨_, _, by (conv => lhs; simp [execOp, go_sem, hc, e24]), hC.trans (((Below.refl _ w).alloc (Nat.le_refl _) _).mono hC.size), (Below.refl _ w).alloc (Nat.le_refl _) _, ⟨w.heap.size, a2, c2, rfl, hC.size, by simp, by simp, ho.below ((Below.refl _ w).alloc (Nat.le_refl _) _)⟩⟩) ?_
      intro A V5 hC hn hd hf
      obtain ⟨a2, c2, y23, -⟩ := (show (NewCl wr ys) (A.eval (.tmp 23)) V5 from hf 23)
      obtain ⟨a3, c3, y24, -⟩ := (show (NewBd wr n ys) (A.eval (.tmp 24)) V5 from hf 24)
      obtain ⟨bq, a4, c4, y25, hb0, hbc0, hbc1, ho⟩ := (show (NewBr wr n ys) (A.eval (.tmp 25)) V5 from hf 25)
      have y0 : A.eval (.tmp 0) = _ := Eq.trans (hf 0) (by conv => lhs; simp [go_sem])
      have y1 : A.eval (.tmp 1) = _ := Eq.trans (hf 1) (by conv => lhs; simp [go_sem])
      have y2 : A.eval (.tmp 2) = _ := Eq.trans (hf 2) (by conv => lhs; simp [go_sem])
      have y3 : A.eval (.tmp 3) = _ := Eq.trans (hf 3) (by conv => lhs; simp [go_sem])
      have y4 : A.eval (.tmp 4) = _ := Eq.trans (hf 4) (by conv => lhs; simp [go_sem])
      have y5 : A.eval (.tmp 5) = _ := Eq.trans (hf 5) (by conv => lhs; simp [go_sem])
      have y6 : A.eval (.tmp 6) = _ := Eq.trans (hf 6) (by conv => lhs; simp [go_sem])
      have y7 : A.eval (.tmp 7) = _ := Eq.trans (hf 7) (by conv => lhs; simp [go_sem])
      have y8 : A.eval (.tmp 8) = _ := Eq.trans (hf 8) (by conv => lhs; simp [go_sem])
      have y9 : A.eval (.tmp 9) = _ := Eq.trans (hf 9) (by conv => lhs; simp [go_sem])
      have y10 : A.eval (.tmp 10) = _ := Eq.trans (hf 10) (by conv => lhs; simp [go_sem])
      have y11 : A.eval (.tmp 11) = _ := Eq.trans (hf 11) (by conv => lhs; simp [go_sem])
      have y12 : A.eval (.tmp 12) = _ := hf 12
      have y13 : A.eval (.tmp 13) = _ := hf 13
      have y14 : A.eval (.tmp 14) = _ := hf 14
      have y15 : A.eval (.tmp 15) = _ := hf 15
      have y16 : A.eval (.tmp 16) = _ := hf 16
      have y17 : A.eval (.tmp 17) = _ := hf 17
      have y18 : A.eval (.tmp 18) = _ := hf 18
      have y19 : A.eval (.tmp 19) = _ := hf 19
      have y20 : A.eval (.tmp 20) = _ := hf 20
      have y21 : A.eval (.tmp 21) = _ := hf 21
      have y22 : A.eval (.tmp 22) = _ := hf 22
      have y26 : A.eval (.tmp 26) = _ := Eq.trans (hf 26) (by conv => lhs; simp [go_sem])
      have y27 : A.eval (.tmp 27) = _ := Eq.trans (hf 27) (by conv => lhs; simp [go_sem])
      have y28 : A.eval (.tmp 28) = _ := Eq.trans (hf 28) (by conv => lhs; simp [go_sem])
      clear hf
      have hA := frame_eq hn
      rw [show List.range 29 = [0, 1, 2, 3, 4, 5, 6, 7, 8, 9, 10, 11, 12, 13, 14, 15, 16, 17, 18, 19, 20, 21, 22, 23, 24, 25, 26, 27, 28] from rfl, hd] at hA
      simp only [List.map_cons, List.map_nil, y0, y1, y2, y3, y4, y5, y6, y7, y8, y9, y10, y11, y12, y13, y14, y15, y16, y17, y18, y19, y20, y21, y22, y23, y24, y25, y26, y27, y28] at hA
      clear y0 y1 y2 y3 y4 y5 y6 y7 y8 y9 y10 y11 y12 y13 y14 y15 y16 y17 y18 y19 y20 y21 y22 y23 y24 y25 y26 y27 y28
      clear hn hd
      subst hA
      have hb5 := HB.out.trans (hC.mono HB.out.size)
      have hr5 := HR.out.below hC
      have hkl : (bs.take k).length = k := by rw [List.length_take]; have := HL.out; omega
      obtain ⟨r, w6, hr, hq, hb6⟩ := run_bapp2 V5 22 w.heap.size (.slice ax k cx) (bs.take k) hr5 bq n a4 c4 ys hbc0 hbc1 (ho.mono0 (HB.out.size)) (by have := HN.out; omega) hb5.size
      rw [← HST.out] at hq
      obtain ⟨ar, cr, rfl⟩ := hq.form'
      have hkl2 : (bs.take (k + 1)).length = k + 1 := by rw [List.length_take]; have := HL.out; omega
      rw [hkl2] at hq hr
      have HQ := Lib.hid hq
      have HB6 := Lib.hid (hb5.trans hb6)
      clear hb5 hr5 hkl hq hb6 hkl2 hC hb0 hbc0 hbc1 ho kc
      go_wp2_with (at_builtin; refine app_go rfl (.tmp 12) (.tmp 25) 22 rfl _ _ _ _ rfl rfl hr ?_)
      go_roundw
      case rel => exact ⟨k + 1, ar, cr, by omega, by go_num, rfl, HQ.out, HB6.out⟩
      case measure => simp [intOf]; omega
    · obtain rfl : k = ps.length := by omega
      have e1 : bs.take ps.length = bs := List.take_of_length_le (by rw [HL.out]; exact Nat.le_refl _)
      have HRR : Hid (RowB wr w.heap.size (.slice ax ps.length cx) bs) := by have h := HR.out; rw [e1] at h; exact h
      clear e1 HR
      go_wp2_with fail
      go_ret
      exact ⟨_, rfl, HRR.out, HB.out⟩
end Go.Proofs.YtfiaghfaijlfjaaGreat

namespace Go.Proofs.YtfiaghfaijlfjaaGreat
set_option maxRecDepth 100000
set_option linter.unusedVariables false
open Go.RowKit

section
variable {w : World} {F : Nat → Prop} {b : Nat} {s : Sd} {Z : Zs1} {vW vO : Value}
theorem pwait_any (h : PZ w F b s Z vW vO) (hl : s.W.length ≤ 3000) : Calls Tryz.prog 22 #[.pointer (some ⟨b, 0, none⟩)] w fun e w' => (∃ a c, e = .returned (.slice a s.W.length c) ∧ OwO w' w.heap.size (.slice a s.W.length c) s.W) ∧ Below w.heap.size w w' := by
  obtain ⟨a, c, rfl⟩ := h.wform
  have C1 := Lib.hid (oclone_any (.slice a s.W.length c) s.W w h.wt.os hl)
  obtain ⟨c0, c1, c2, c3, c4, cf⟩ := h.cells
  clear h hl c0 c1 c2 c4 cf
  go_enter Tryz.func22, Tryz.ntmps22
  go_wp2_with fail
  refine C1.out.mono ?_
  rintro e w1 ⟨⟨a1, c1, rfl, ho⟩, hb⟩
  have HO := Lib.hid ho
  have HB := Lib.hid hb
  clear ho hb
  go_wp2_with fail
  go_ret
  exact ⟨⟨_, _, rfl, HO.out⟩, HB.out⟩
/-- What is out, as pointers and as batches. -/
theorem PZ.outs (h : PZ w F b s Z vW vO) : (Z.map fun z => z.2.1).length = (Z.map Prod.fst).length ∧ ∀ i, i < (Z.map Prod.fst).length → RdP w ((Z.map Prod.fst).getD i 0) ((Z.map fun z => z.2.1).getD i zb) := by
  refine ⟨by simp, fun i hi => ?_⟩
  rw [List.length_map] at hi
  have e1 : (Z.map Prod.fst).getD i 0 = Z[i].1 := by simp [List.getD, hi]
  have e2 : (Z.map fun z => z.2.1).getD i zb = Z[i].2.1 := by simp [List.getD, hi]
  rw [e1, e2]
  exact (h.snd _ (List.getElem_mem hi)).rd
theorem PZ.sout (h : PZ w F b s Z vW vO) : s.out = Z.map fun z => z.2.1 := by unfold Sd.out; rw [h.zl, List.map_map]; rfl
theorem btok_len {n : Int} {ys : List Ob} (h : BtOk n ys) : ys.length ≤ 3000 := by
  have := h.2.1
  omega
theorem PZ.olen (h : PZ w F b s Z vW vO) (hok : SdOk s) : Z.length ≤ 16 ∧ ∀ i, i < (Z.map Prod.fst).length → ((Z.map fun z => z.2.1).getD i zb).2.length ≤ 3000 := by
  constructor
  · have h1 := out_le hok
    have h2 := hok.win
    rw [h.sout, List.length_map] at h1
    omega
  · intro i hi
    rw [List.length_map] at hi
    have e2 : (Z.map fun z => z.2.1).getD i zb = Z[i].2.1 := by simp [List.getD, hi]
    rw [e2]
    exact btok_len (hok.bok Z[i].2 (by rw [h.zl]; exact List.mem_map.2 ⟨Z[i], List.getElem_mem hi, rfl⟩))
theorem pout_any (h : PZ w F b s Z vW vO) (hok : SdOk s) : Calls Tryz.prog 21 #[.pointer (some ⟨b, 0, none⟩)] w fun e w' => (∃ a c, e = .returned (.slice a s.out.length c) ∧ RowB w' w.heap.size (.slice a s.out.length c) s.out) ∧ Below w.heap.size w w' := by
  obtain ⟨ps, hps⟩ : ∃ ps, Z.map Prod.fst = ps := ⟨_, rfl⟩
  obtain ⟨k1, k2⟩ := h.outs
  obtain ⟨k3, k4⟩ := h.olen hok
  have hot : OwP w vO ps := hps ▸ h.ot
  have hln : ps.length = Z.length := by rw [← hps, List.length_map]
  rw [hps] at k1 k2 k4
  rw [← h.sout] at k1 k2 k4
  obtain ⟨a, c, rfl⟩ := own_form hot
  have C1 := Lib.hid (bof_any a c ps s.out w (Gs_of_own (R := RPT) hot).1 k1 k2 (by omega) k4)
  obtain ⟨c0, c1, c2, c3, c4, cf⟩ := h.cells
  clear h hok hps k1 k2 k3 k4 hot hln c0 c1 c2 c3 cf
  go_enter Tryz.func21, Tryz.ntmps21
  go_wp2_with fail
  refine C1.out.mono ?_
  rintro e w1 ⟨r, rfl, ho, hb⟩
  obtain ⟨a1, c1, rfl⟩ := ho.form'
  have HO := Lib.hid ho
  have HB := Lib.hid hb
  clear ho hb
  go_wp2_with fail
  go_ret
  exact ⟨⟨_, _, rfl, HO.out⟩, HB.out⟩
end
theorem bts_nil (w : World) : Bts w (.slice none 0 0) [] := .inl ⟨none, 0, rfl, rfl⟩
theorem os_nil (w : World) : Os w (.slice none 0 0) [] := .inl ⟨none, 0, rfl, fun _ => rfl, rfl⟩
theorem wait_nil (w : World) : Calls Tryz.prog 22 #[.pointer none] w fun e w' => ∃ r, e = .returned r ∧ Os w' r [] ∧ Below w.heap.size w w' := by
  go_enter Tryz.func22, Tryz.ntmps22
  go_wp2_with fail
  go_ret
  exact ⟨_, rfl, os_nil _, Below.refl _ _⟩
theorem out_nil (w : World) : Calls Tryz.prog 21 #[.pointer none] w fun e w' => ∃ r, e = .returned r ∧ Bts w' r [] ∧ Below w.heap.size w w' := by
  go_enter Tryz.func21, Tryz.ntmps21
  go_wp2_with fail
  go_ret
  exact ⟨_, rfl, bts_nil _, Below.refl _ _⟩
theorem send_nil (w : World) : Calls Tryz.prog 18 #[.pointer none] w fun e w' => ∃ r, e = .returned r ∧ Bts w' r [] ∧ Below w.heap.size w w' := by
  go_enter Tryz.func18, Tryz.ntmps18
  go_wp2_with fail
  go_step3
  go_wp2_with fail
  rw [Exit.noGoto_ret]
  show bodyPost _ _ _ _ _ _
  go_ret
  exact ⟨_, rfl, bts_nil _, Below.refl _ _⟩
theorem again_nil (w : World) : Calls Tryz.prog 19 #[.pointer none] w fun e w' => ∃ r, e = .returned (.tuple #[r, .bool true]) ∧ Bts w' r [] ∧ Below w.heap.size w w' := by
  go_enter Tryz.func19, Tryz.ntmps19
  go_wp2_with fail
  go_ret2
  exact ⟨_, rfl, bts_nil _, Below.refl _ _⟩
theorem got_nil (a : Ak) (w : World) : Calls Tryz.prog 20 #[.pointer none, .agg #[.int .i64 a.1, .int .i64 a.2.1, .int .i64 a.2.2.1, .int .i64 a.2.2.2]] w fun e w' => e = .returned (.int .i64 0) ∧ Below w.heap.size w w' := by
  have hb : Below w.heap.size w (w.alloc (.cells #[.int .i64 a.1, .int .i64 a.2.1, .int .i64 a.2.2.1, .int .i64 a.2.2.2] 37)) := (Below.refl _ w).alloc (Nat.le_refl _) _
  have HB := Lib.hid hb
  clear hb
  go_enter Tryz.func20, Tryz.ntmps20
  go_wp2_with fail
  go_ret
  exact ⟨rfl, HB.out⟩
theorem push_nil (y : Ob) (w : World) : Calls Tryz.prog 17 #[.pointer none, .agg #[.int .i64 y.k, .int .i64 y.x, .bool y.n, .int .i64 y.t, .int .i64 y.o, .int .i64 y.r, .int .i64 y.d, .int .i64 y.i, .int .i64 y.p, .int .i64 y.q, .int .i64 y.s, .int .i64 y.m]] w fun e w' => e = .returned (.int .i64 3) ∧ Below w.heap.size w w' := by
  have hb : Below w.heap.size w (w.alloc (.cells #[.int .i64 y.k, .int .i64 y.x, .bool y.n, .int .i64 y.t, .int .i64 y.o, .int .i64 y.r, .int .i64 y.d, .int .i64 y.i, .int .i64 y.p, .int .i64 y.q, .int .i64 y.s, .int .i64 y.m] 53)) := (Below.refl _ w).alloc (Nat.le_refl _) _
  have HB := Lib.hid hb
  clear hb
  go_enter Tryz.func17, Tryz.ntmps17
  go_wp2_with fail
  go_ret
  exact ⟨rfl, HB.out⟩
end Go.Proofs.YtfiaghfaijlfjaaGreat
