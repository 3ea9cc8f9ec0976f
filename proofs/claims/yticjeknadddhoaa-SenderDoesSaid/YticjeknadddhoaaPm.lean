/- The program's sender in memory: its cells, what waits, what is out and how often that was sent. What keeps it. No conditions. The program's sender in memory: its cells, what waits, what is out and how often that was sent. What keeps it. No conditions. slices.Delete of the first objects of a row of one's own; the cells behind a row of one's own, cleared. No conditions but on lengths. One element more at a row of one's own of whatever type; the program's New and Push. No conditions but on lengths. The program's letOut: a batch is out, sent once; its objects wait no more. No conditions but on lengths. What a sender is while it sends: batch by batch; which ones are near enough. No conditions. The program's Push. No conditions but on lengths. -/
import Derived.Test.YticjeknadddhoaaSm
import Derived.Test.YticjeknadddhoaaOth
import Derived.Test.YticjeknadddhoaaGsp
import Derived.Test.YticjeknadddhoaaTyp4
import Derived.Test.YticjeknadddhoaaObc
import Derived.WalkLawsBesides
import Derived.Shelf.RegionOpenPlain
import Derived.Deep.RegionLaw
import Derived.Lib.SliceRun
import Derived.Deep.RegionWith
namespace Go.Proofs.Yticjeknadddhoaa
set_option maxRecDepth 100000
open Go.RowKit

section
variable {P : Program} {f : FuncId} {fn : Func}
theorem run_call_loadN {k : IntKind} (hf : P.funcs[f]? = some fn) (hname : (fn.name == "runtime.NumGoroutine") = false) (hb : fn.body.isNone = true) (hn : Extern.findNext fn = none)
    (he : Extern.find fn = some (Extern.Atomic.loadT (.int k))) {a : Addr} {x : Int} {w : World} (hc : w.cell? a = some (.int k x)) :
    (callFunc f #[.pointer (some a)]).run P w = .ok (.value (.int k x)) w := by
  rw [run_callFunc_extern hf hname hb hn he]
  change (Sem.run P (do Extern.Atomic.read (.int k) (← asAddr (.pointer (some a)))) w).andThen _ = _
  simp [Extern.Atomic.read, asAddr, hc, Result.andThen]
theorem run_call_storeN {k : IntKind} (hf : P.funcs[f]? = some fn) (hname : (fn.name == "runtime.NumGoroutine") = false) (hb : fn.body.isNone = true) (hn : Extern.findNext fn = none)
    (he : Extern.find fn = some Extern.Atomic.storeT) {a : Addr} {x : Int} {u : Value} {w : World} (hc : w.cell? a = some u) (hz : w.frozen? a = false) :
    (callFunc f #[.pointer (some a), .int k x]).run P w = .ok (.value (.tuple #[])) (w.setCell a (.int k x)) := by
  rw [run_callFunc_extern hf hname hb hn he]
  change (Sem.run P (do
    store (← asAddr (.pointer (some a))) (.int k x) .atomic
    pure Extern.Atomic.none_) w).andThen _ = _
  simp [asAddr, hc, hz, run_store P w a (.int k x) .atomic rfl, Result.andThen, Extern.Atomic.none_]
theorem run_call_addN (hf : P.funcs[f]? = some fn) (hname : (fn.name == "runtime.NumGoroutine") = false) (hb : fn.body.isNone = true) (hn : Extern.findNext fn = none)
    (he : Extern.find fn = some (Extern.Atomic.update (Op.intArith .add) .i64 true)) {a : Addr} {x d : Int} {w : World} (hc : w.cell? a = some (.int .i64 x)) (hz : w.frozen? a = false) :
    (callFunc f #[.pointer (some a), .int .i64 d]).run P w = .ok (.value (.int .i64 (IntKind.i64.wrap (x + d)))) (w.setCell a (.int .i64 (IntKind.i64.wrap (x + d)))) := by
  rw [run_callFunc_extern hf hname hb hn he]
  change (Sem.run P (do
    let a ← asAddr (.pointer (some a))
    let old ← Extern.Atomic.read (.int .i64) a
    let new ← Op.intArith .add .i64 (← asInt old) (← asInt (.int .i64 d))
    store a new .atomic
    pure (if true then new else old)) w).andThen _ = _
  simp [Extern.Atomic.read, asAddr, asInt, asIntOf, Op.intArith, hc, hz, run_store P w a (.int .i64 (IntKind.i64.wrap (x + d))) .atomic rfl, Result.andThen]
end
theorem sload_any (b o : Nat) (n : Int) (w : World) (h : w.cell? ⟨b, o, none⟩ = some (.int .i64 n)) : Calls Try.prog 36 #[.pointer (some ⟨b, o, none⟩)] w fun e w' => e = .returned (.int .i64 n) ∧ w = w' := by
  have hl := run_call_loadN (P := Try.prog) (f := 59) (k := .i64) Try.func59 (by kernel_rfl) (by kernel_rfl) (by kernel_rfl) (by kernel_rfl) h
  go_enter Try.func36, Try.ntmps36
  go_wp2_with fail
  go_ret
  exact ⟨rfl, rfl⟩
theorem sstore_any (b o : Nat) (n m : Int) (w : World) (h : w.cell? ⟨b, o, none⟩ = some (.int .i64 n)) (hf : w.frozen? ⟨b, o, none⟩ = false) : Calls Try.prog 55 #[.pointer (some ⟨b, o, none⟩), .int .i64 m] w fun e w' => e = .returned (.tuple #[]) ∧ w' = w.setCell ⟨b, o, none⟩ (.int .i64 m) := by
  have hl := run_call_storeN (P := Try.prog) (f := 70) (k := .i64) (x := m) Try.func70 (by kernel_rfl) (by kernel_rfl) (by kernel_rfl) (by kernel_rfl) h hf
  go_enter Try.func55, Try.ntmps55
  go_wp2_with fail
  go_end0
  exact ⟨rfl, rfl⟩
theorem sadd_any (b o : Nat) (n d : Int) (w : World) (h : w.cell? ⟨b, o, none⟩ = some (.int .i64 n)) (hf : w.frozen? ⟨b, o, none⟩ = false) (hr : IntKind.i64.wrap (n + d) = n + d) : Calls Try.prog 37 #[.pointer (some ⟨b, o, none⟩), .int .i64 d] w fun e w' => e = .returned (.int .i64 (n + d)) ∧ w' = w.setCell ⟨b, o, none⟩ (.int .i64 (n + d)) := by
  have hl := run_call_addN (P := Try.prog) (f := 60) (d := d) Try.func60 (by kernel_rfl) (by kernel_rfl) (by kernel_rfl) (by kernel_rfl) h hf
  rw [hr] at hl
  clear hr
  go_enter Try.func37, Try.ntmps37
  go_wp2_with fail
  go_ret
  exact ⟨rfl, rfl⟩
end Go.Proofs.Yticjeknadddhoaa

namespace Go.Proofs.Yticjeknadddhoaa
set_option maxRecDepth 100000
set_option linter.unusedVariables false
open Go.RowKit

theorem infoPT : (Try.prog.info? 67).map (fun i => (i.zero, i.size, i.bytes)) = some (some (.pointer none), 1, 8) := by kernel_rfl
theorem underPR : Try.prog.underlying 61 = some (.slice 67) := by kernel_rfl
theorem cellsPT : Try.prog.cellsOf 67 = 1 := by kernel_rfl
theorem cellsOB : Try.prog.cellsOf 39 = 12 := by kernel_rfl
abbrev ptr (p : Nat) : Value := .pointer (some ⟨p, 0, none⟩)
noncomputable def RPT : RowT where
  α := Nat
  d := 0
  cl := fun p => [ptr p]
  K := 1
  T := 67
  SL := 61
  zero := .pointer none
  bytes := 8
  hcl := fun _ => rfl
  hK := by decide
  hone := fun y u hu => by simp only [List.mem_singleton] at hu; subst hu; rfl
  hSL := underPR
  hinfo := infoPT
  hz := rfl
  hb := by decide
  hc := cellsPT
noncomputable def ROB : RowT where
  α := Ob
  d := z12
  cl := Ob.cl
  K := 12
  T := 39
  SL := 29
  zero := .agg #[.int .i64 0, .int .i64 0, .bool false, .int .i64 0, .int .i64 0, .int .i64 0, .int .i64 0, .int .i64 0, .int .i64 0, .int .i64 0, .int .i64 0, .int .i64 0]
  bytes := 96
  hcl := fun _ => rfl
  hK := by decide
  hone := fun y u hu => by
    simp only [Ob.cl, List.mem_cons, List.not_mem_nil, or_false] at hu
    rcases hu with rfl | rfl | rfl | rfl | rfl | rfl | rfl | rfl | rfl | rfl | rfl | rfl <;> rfl
  hSL := underSL
  hinfo := infoOB
  hz := rfl
  hb := by decide
  hc := cellsOB
theorem chg_pt (w : World) (b j : Nat) (u : Value) : Chg (fun k => k = b) w (w.setCell ⟨b, j, none⟩ u) := Chg.setCell (F := fun k => k = b) (p := ⟨b, j, none⟩) (Chg.refl _ w) (.inl rfl) u
/-- A row of pointers of one's own. -/
def OwP (w : World) (v : Value) (ps : List Nat) : Prop := w.ownsRow 0 67 1 v ps.length (gflat RPT ps)
/-- A block of that type. -/
def BlkT (w : World) (k : Nat) (t : TypeId) : Prop := ∃ cur fz, w.heap[k]? = some (.cells cur t fz)
theorem BlkT.ne {w : World} {k k' : Nat} {t t' : TypeId} (h : BlkT w k t) (h' : BlkT w k' t') (ht : t ≠ t') : k ≠ k' := fun e => by
  subst e
  obtain ⟨c, f, h1⟩ := h
  obtain ⟨c', f', h2⟩ := h'
  rw [h1] at h2
  cases h2
  exact ht rfl
theorem BlkT.chg {F : Nat → Prop} {w w' : World} {k : Nat} {t : TypeId} (h : BlkT w k t) (hc : Chg F w w') (hk : ¬ F k) : BlkT w' k t := by
  obtain ⟨c, f, h1⟩ := h
  exact ⟨c, f, (hc.block k (some_lt h1) hk).trans h1⟩
theorem own_blk {w : World} {S size n g : Nat} {e : TypeId} {v : Value} {xs : List Value} (h : w.ownsRow S e size v n xs) (hg : v.ownBlock = some g) : BlkT w g e := by
  rcases h.2 with ⟨rfl, _⟩ | ⟨g', cap, cur, rfl, _, hh, _⟩
  · cases hg
  · cases hg
    exact ⟨cur, (0, 0), hh⟩
/-- A slice that reads as objects, in a block of F that is none of what waits. -/
structure ObI (w : World) (F : Nat → Prop) (vW u : Value) (ys : List Ob) : Prop where
  os : Os w u ys
  one : u.oneCell' = true
  blk : ∀ a n c, u = .slice (some a) n c → ys ≠ [] → F a.block ∧ BlkT w a.block 39 ∧ ¬ vW.ownBlock = some a.block
/-- A batch that is out, in memory, with how often it was sent. -/
structure SndAt (w : World) (F : Nat → Prop) (vW : Value) (p : Nat) (e : Bt × Int) : Prop where
  f : F p
  cell : ∃ u, w.heap[p]? = some (.cells #[.int .i64 e.1.1, u, .int .i64 e.2] 74) ∧ ObI w F vW u e.1.2
abbrev Zs1 := List (Nat × Bt × Int)
theorem pushR_full {s : Sd} {y : Ob} (h : y.Ok) (hl : 1024 ≤ s.W.length) : pushR s y = (8, s) := by unfold pushR; rw [if_pos h, if_pos hl]
theorem pushR_ok {s : Sd} {y : Ob} (h : y.Ok) (hl : ¬ 1024 ≤ s.W.length) : pushR s y = (0, { s with W := s.W ++ [y] }) := by unfold pushR; rw [if_pos h, if_neg hl]
theorem pushR_no {s : Sd} {y : Ob} (h : ¬ y.Ok) : pushR s y = (1, s) := by unfold pushR; rw [if_neg h]
/-- The program's sender. -/
structure PZ (w : World) (F : Nat → Prop) (b : Nat) (s : Sd) (Z : Zs1) (vW vO : Value) : Prop where
  lt : ∀ k, F k → k < w.heap.size
  fb : F b
  hp : w.heap[b]? = some (.cells #[.int .i64 s.win, .int .i64 s.tries, .int .i64 s.nx, vW, vO] 63)
  wt : OwO w 0 vW s.W
  wf : ∀ g, vW.ownBlock = some g → F g
  ot : OwP w vO (Z.map Prod.fst)
  of : ∀ g, vO.ownBlock = some g → F g
  zl : s.L = Z.map Prod.snd
  nd : (Z.map Prod.fst).Nodup
  snd : ∀ z ∈ Z, SndAt w F vW z.1 z.2
def PS (w : World) (F : Nat → Prop) (b : Nat) (s : Sd) : Prop := SdOk s ∧ ∃ Z vW vO, PZ w F b s Z vW vO
/-- F, and what is new. -/
def FN (F : Nat → Prop) (w w' : World) : Nat → Prop := fun k => F k ∨ (w.heap.size ≤ k ∧ k < w'.heap.size)
theorem FN.lt {F : Nat → Prop} {w w' : World} (h : ∀ k, F k → k < w.heap.size) (hs : w.heap.size ≤ w'.heap.size) : ∀ k, FN F w w' k → k < w'.heap.size := fun k hk => hk.elim (fun h2 => Nat.lt_of_lt_of_le (h k h2) hs) (fun h2 => h2.2)
theorem FN.up {F : Nat → Prop} {w w1 w2 : World} (h1 : w.heap.size ≤ w1.heap.size) (h2 : w1.heap.size ≤ w2.heap.size) : ∀ k, FN (FN F w w1) w1 w2 k ↔ FN F w w2 k := fun k => by
  unfold FN
  constructor
  · rintro ((h | h) | h)
    · exact .inl h
    · exact .inr ⟨h.1, by omega⟩
    · exact .inr ⟨by omega, h.2⟩
  · rintro (h | h)
    · exact .inl (.inl h)
    · by_cases hk : k < w1.heap.size
      · exact .inl (.inr ⟨h.1, hk⟩)
      · exact .inr ⟨by omega, h.2⟩
theorem FN.new {F : Nat → Prop} {w w' : World} : ∀ k, FN F w w' k → F k ∨ w.heap.size ≤ k := fun k hk => hk.imp (fun h => h) (fun h => h.1)
theorem ObI.chg {F G : Nat → Prop} {w w' : World} {vW u : Value} {ys : List Ob} (h : ObI w F vW u ys) (hc : Chg G w w') (hG : ∀ k, F k → BlkT w k 39 → ¬ vW.ownBlock = some k → ¬ G k) : ObI w' F vW u ys :=
  ⟨h.os.chg hc (fun a n c e hn => by obtain ⟨h1, h2, h3⟩ := h.blk a n c e hn; exact hG _ h1 h2 h3), h.one, fun a n c e hn => by obtain ⟨h1, h2, h3⟩ := h.blk a n c e hn; exact ⟨h1, h2.chg hc (hG _ h1 h2 h3), h3⟩⟩
theorem ObI.mono {F F' : Nat → Prop} {w : World} {vW u : Value} {ys : List Ob} (h : ObI w F vW u ys) (hF : ∀ k, F k → F' k) : ObI w F' vW u ys := ⟨h.os, h.one, fun a n c e hn => by obtain ⟨h1, h2, h3⟩ := h.blk a n c e hn; exact ⟨hF _ h1, h2, h3⟩⟩
/-- Another row of what waits: the elder block, or a new one. -/
theorem ObI.row {F : Nat → Prop} {w w0 : World} {vW vW' u : Value} {ys : List Ob} (h : ObI w F vW u ys) (hF : ∀ k, F k → k < w0.heap.size) (hv : ∀ g, vW'.ownBlock = some g → vW.ownBlock = some g ∨ w0.heap.size ≤ g) : ObI w F vW' u ys :=
  ⟨h.os, h.one, fun a n c e hn => by
    obtain ⟨h1, h2, h3⟩ := h.blk a n c e hn
    exact ⟨h1, h2, fun e2 => (hv _ e2).elim h3 (fun h4 => by have := hF _ h1; omega)⟩⟩
theorem SndAt.blk {w : World} {F : Nat → Prop} {vW : Value} {p : Nat} {e : Bt × Int} (h : SndAt w F vW p e) : BlkT w p 74 := by
  obtain ⟨u, h1, _⟩ := h.cell
  exact ⟨_, _, h1⟩
theorem SndAt.chg {F G : Nat → Prop} {w w' : World} {vW : Value} {p : Nat} {e : Bt × Int} (h : SndAt w F vW p e) (hc : Chg G w w') (hp : ¬ G p) (hG : ∀ k, F k → BlkT w k 39 → ¬ vW.ownBlock = some k → ¬ G k) : SndAt w' F vW p e := by
  obtain ⟨u, h1, h2⟩ := h.cell
  exact ⟨h.f, u, (hc.block p (some_lt h1) hp).trans h1, h2.chg hc hG⟩
theorem SndAt.mono {F F' : Nat → Prop} {w : World} {vW : Value} {p : Nat} {e : Bt × Int} (h : SndAt w F vW p e) (hF : ∀ k, F k → F' k) : SndAt w F' vW p e := by
  obtain ⟨u, h1, h2⟩ := h.cell
  exact ⟨hF _ h.f, u, h1, h2.mono hF⟩
theorem SndAt.row {F : Nat → Prop} {w w0 : World} {vW vW' : Value} {p : Nat} {e : Bt × Int} (h : SndAt w F vW p e) (hF : ∀ k, F k → k < w0.heap.size) (hv : ∀ g, vW'.ownBlock = some g → vW.ownBlock = some g ∨ w0.heap.size ≤ g) : SndAt w F vW' p e := by
  obtain ⟨u, h1, h2⟩ := h.cell
  exact ⟨h.f, u, h1, h2.row hF hv⟩
section
variable {w w' : World} {F F' G : Nat → Prop} {b : Nat} {s : Sd} {Z : Zs1} {vW vO : Value}
theorem PZ.bt (h : PZ w F b s Z vW vO) : BlkT w b 63 := ⟨_, _, h.hp⟩
theorem PZ.keep (h : PZ w F b s Z vW vO) (hc : Chg G w w') (hG : ∀ k, F k → ¬ G k) : PZ w' F b s Z vW vO :=
  ⟨fun k hk => Nat.lt_of_lt_of_le (h.lt k hk) hc.size, h.fb, (hc.block b (h.lt b h.fb) (hG b h.fb)).trans h.hp, own_chg h.wt hc (fun g hg => hG g (h.wf g hg)), h.wf, own_chg h.ot hc (fun g hg => hG g (h.of g hg)), h.of, h.zl, h.nd,
    fun z hz => (h.snd z hz).chg hc (hG _ (h.snd z hz).f) (fun k hk _ _ => hG k hk)⟩
theorem PZ.below (h : PZ w F b s Z vW vO) (hb : Below w.heap.size w w') : PZ w' F b s Z vW vO := h.keep (G := fun _ => False) (chg0 hb) (fun _ _ g => g)
theorem PZ.mono (h : PZ w F b s Z vW vO) (hF : ∀ k, F k → F' k) (hl : ∀ k, F' k → k < w.heap.size) : PZ w F' b s Z vW vO :=
  ⟨hl, hF b h.fb, h.hp, h.wt, fun g hg => hF g (h.wf g hg), h.ot, fun g hg => hF g (h.of g hg), h.zl, h.nd, fun z hz => (h.snd z hz).mono hF⟩
theorem PZ.cells (h : PZ w F b s Z vW vO) : w.cell? ⟨b, 0, none⟩ = some (.int .i64 s.win) ∧ w.cell? ⟨b, 1, none⟩ = some (.int .i64 s.tries) ∧ w.cell? ⟨b, 2, none⟩ = some (.int .i64 s.nx) ∧ w.cell? ⟨b, 3, none⟩ = some vW ∧ w.cell? ⟨b, 4, none⟩ = some vO ∧ ∀ j, w.frozen? ⟨b, j, none⟩ = false := by
  refine ⟨?_, ?_, ?_, ?_, ?_, fun j => by simp [World.frozen?, h.hp]⟩ <;> simp [World.cell?, h.hp]
theorem PZ.wform (h : PZ w F b s Z vW vO) : ∃ a c, vW = .slice a s.W.length c := own_form h.wt
theorem PZ.oform (h : PZ w F b s Z vW vO) : ∃ a c, vO = .slice a Z.length c := by
  obtain ⟨a, c, e⟩ := own_form h.ot
  exact ⟨a, c, by rw [e, List.length_map]⟩
theorem PZ.llen (h : PZ w F b s Z vW vO) : s.L.length = Z.length := by rw [h.zl, List.length_map]
/-- Another number of the next one. -/
theorem PZ.nset (h : PZ w F b s Z vW vO) (n : Int) : PZ (w.setCell ⟨b, 2, none⟩ (.int .i64 n)) F b { s with nx := n } Z vW vO := by
  have hc : Chg (fun k => k = b) w (w.setCell ⟨b, 2, none⟩ (.int .i64 n)) := chg_pt _ _ _ _
  refine ⟨fun k hk => by have := h.lt k hk; simpa [World.setCell] using this, h.fb, ?_, own_chg h.wt hc (fun g hg e => ?_), h.wf, own_chg h.ot hc (fun g hg e => ?_), h.of, h.zl, h.nd, fun z hz => (h.snd z hz).chg hc ?_ ?_⟩
  · rw [heap_setCell_same w b 2 _ 63 _ h.hp]; rfl
  · subst e; exact (own_blk h.wt hg).ne h.bt (by decide) rfl
  · subst e; exact (own_blk h.ot hg).ne h.bt (by decide) rfl
  · exact (h.snd z hz).blk.ne h.bt (by decide)
  · exact fun k _ hk _ => hk.ne h.bt (by decide)
/-- Another row of what waits, in its elder block or in a new one. -/
theorem PZ.wset (h : PZ w F b s Z vW vO) (hc : Chg (fun k => vW.ownBlock = some k) w w') {vW' : Value} {W' : List Ob} (ho : OwO w' 0 vW' W') (hv : ∀ g, vW'.ownBlock = some g → vW.ownBlock = some g ∨ w.heap.size ≤ g) :
    PZ (w'.setCell ⟨b, 3, none⟩ vW') (FN F w w') b { s with W := W' } Z vW' vO := by
  have hb : ¬ vW.ownBlock = some b := fun e => (own_blk h.wt e).ne h.bt (by decide) rfl
  have hp' : w'.heap[b]? = some (.cells #[.int .i64 s.win, .int .i64 s.tries, .int .i64 s.nx, vW, vO] 63) := (hc.block b (h.lt b h.fb) hb).trans h.hp
  have hc2 : Chg (fun k => k = b) w' (w'.setCell ⟨b, 3, none⟩ vW') := chg_pt _ _ _ _
  have hbt : BlkT w' b 63 := ⟨_, _, hp'⟩
  have hs : (w'.setCell ⟨b, 3, none⟩ vW').heap.size = w'.heap.size := by simp [World.setCell]
  refine ⟨fun k hk => by rw [hs]; exact FN.lt h.lt hc.size k hk, .inl h.fb, ?_, own_chg ho hc2 (fun g hg e => ?_), fun g hg => ?_, own_chg (own_chg h.ot hc (fun g hg e => ?_)) hc2 (fun g hg e => ?_), fun g hg => .inl (h.of g hg), h.zl, h.nd, fun z hz => ?_⟩
  · rw [heap_setCell_same w' b 3 _ 63 _ hp']; rfl
  · subst e; exact (own_blk ho hg).ne hbt (by decide) rfl
  · exact (hv g hg).elim (fun h2 => .inl (h.wf g h2)) (fun h2 => .inr ⟨h2, (World.ownsRow.lt ho g hg).2⟩)
  · exact (own_blk h.ot hg).ne (own_blk h.wt e) (by decide) rfl
  · subst e; exact (own_blk h.ot hg).ne h.bt (by decide) rfl
  · have h1 : SndAt w' F vW z.1 z.2 := (h.snd z hz).chg hc (fun e => (h.snd z hz).blk.ne (own_blk h.wt e) (by decide) rfl) (fun _ _ _ hk => hk)
    have h2 : SndAt w' F vW' z.1 z.2 := h1.row (w0 := w) h.lt hv
    exact (h2.chg hc2 (h1.blk.ne hbt (by decide)) (fun k _ hk _ => hk.ne hbt (by decide))).mono (fun k hk => .inl hk)
/-- Another row of what is out, in its elder block or in a new one. -/
theorem PZ.oset (h : PZ w F b s Z vW vO) (hc : Chg (fun k => vO.ownBlock = some k) w w') {vO' : Value} {Z' : Zs1} (ho : OwP w' vO' (Z'.map Prod.fst)) (hv : ∀ g, vO'.ownBlock = some g → vO.ownBlock = some g ∨ w.heap.size ≤ g) (hn : (Z'.map Prod.fst).Nodup) (hz : ∀ z ∈ Z', SndAt w F vW z.1 z.2) :
    PZ (w'.setCell ⟨b, 4, none⟩ vO') (FN F w w') b { s with L := Z'.map Prod.snd } Z' vW vO' := by
  have hb : ¬ vO.ownBlock = some b := fun e => (own_blk h.ot e).ne h.bt (by decide) rfl
  have hp' : w'.heap[b]? = some (.cells #[.int .i64 s.win, .int .i64 s.tries, .int .i64 s.nx, vW, vO] 63) := (hc.block b (h.lt b h.fb) hb).trans h.hp
  have hc2 : Chg (fun k => k = b) w' (w'.setCell ⟨b, 4, none⟩ vO') := chg_pt _ _ _ _
  have hbt : BlkT w' b 63 := ⟨_, _, hp'⟩
  have hs : (w'.setCell ⟨b, 4, none⟩ vO').heap.size = w'.heap.size := by simp [World.setCell]
  refine ⟨fun k hk => by rw [hs]; exact FN.lt h.lt hc.size k hk, .inl h.fb, ?_, own_chg (own_chg h.wt hc (fun g hg e => ?_)) hc2 (fun g hg e => ?_), fun g hg => .inl (h.wf g hg), own_chg ho hc2 (fun g hg e => ?_), fun g hg => ?_, rfl, hn, fun z hz2 => ?_⟩
  · rw [heap_setCell_same w' b 4 _ 63 _ hp']; rfl
  · exact (own_blk h.wt hg).ne (own_blk h.ot e) (by decide) rfl
  · subst e; exact (own_blk h.wt hg).ne h.bt (by decide) rfl
  · subst e; exact (own_blk ho hg).ne hbt (by decide) rfl
  · exact (hv g hg).elim (fun h2 => .inl (h.of g h2)) (fun h2 => .inr ⟨h2, (World.ownsRow.lt ho g hg).2⟩)
  · have h1 : SndAt w' F vW z.1 z.2 := (hz z hz2).chg hc (fun e => (hz z hz2).blk.ne (own_blk h.ot e) (by decide) rfl) (fun k _ hk _ e => hk.ne (own_blk h.ot e) (by decide) rfl)
    exact (h1.chg hc2 (h1.blk.ne hbt (by decide)) (fun k _ hk _ => hk.ne hbt (by decide))).mono (fun k hk => .inl hk)
/-- One that is out was sent once more. -/
theorem PZ.tset {X Y : Zs1} {p : Nat} {e : Bt × Int} (h : PZ w F b s (X ++ (p, e) :: Y) vW vO) (n : Int) :
    PZ (w.setCell ⟨p, 2, none⟩ (.int .i64 n)) F b { s with L := (X ++ (p, e.1, n) :: Y).map Prod.snd } (X ++ (p, e.1, n) :: Y) vW vO := by
  have hc : Chg (fun k => k = p) w (w.setCell ⟨p, 2, none⟩ (.int .i64 n)) := chg_pt _ _ _ _
  have hpe := h.snd (p, e) (List.mem_append_right _ List.mem_cons_self)
  have hpt : BlkT w p 74 := hpe.blk
  have hne : (X ++ (p, e.1, n) :: Y).map Prod.fst = (X ++ (p, e) :: Y).map Prod.fst := by simp
  have hob : ∀ k, F k → BlkT w k 39 → ¬ vW.ownBlock = some k → ¬ k = p := fun k _ hk _ => hk.ne hpt (by decide)
  have hnd := h.nd
  rw [List.map_append, List.map_cons] at hnd
  refine ⟨fun k hk => by have := h.lt k hk; simpa [World.setCell] using this, h.fb, ?_, own_chg h.wt hc (fun g hg e => ?_), h.wf, ?_, h.of, rfl, by rw [hne]; exact h.nd, fun z hz => ?_⟩
  · exact (hc.block b (h.lt b h.fb) (h.bt.ne hpt (by decide))).trans h.hp
  · subst e; exact (own_blk h.wt hg).ne hpt (by decide) rfl
  · unfold OwP
    rw [hne]
    exact own_chg h.ot hc (fun g hg e => by subst e; exact (own_blk h.ot hg).ne hpt (by decide) rfl)
  · have hold : z ∈ X ++ Y → SndAt (w.setCell ⟨p, 2, none⟩ (.int .i64 n)) F vW z.1 z.2 := fun hz => by
      have hm : z ∈ X ++ (p, e) :: Y := by
        rcases List.mem_append.1 hz with h1 | h1
        · exact List.mem_append_left _ h1
        · exact List.mem_append_right _ (List.mem_cons_of_mem _ h1)
      refine (h.snd z hm).chg hc (fun e2 => ?_) hob
      rw [List.nodup_append] at hnd
      obtain ⟨_, h2, h3⟩ := hnd
      rcases List.mem_append.1 hz with h1 | h1
      · exact h3 z.1 (List.mem_map.2 ⟨z, h1, rfl⟩) p List.mem_cons_self e2
      · exact (List.nodup_cons.1 h2).1 (e2 ▸ List.mem_map.2 ⟨z, h1, rfl⟩)
    rcases List.mem_append.1 hz with h1 | h1
    · exact hold (List.mem_append_left _ h1)
    · rcases List.mem_cons.1 h1 with rfl | h1
      · obtain ⟨u, g1, g2⟩ := hpe.cell
        exact ⟨hpe.f, u, by rw [heap_setCell_same w p 2 _ 74 _ g1]; rfl, g2.chg hc hob⟩
      · exact hold (List.mem_append_right _ h1)
end
end Go.Proofs.Yticjeknadddhoaa

namespace Go.Proofs.Yticjeknadddhoaa
set_option maxRecDepth 100000
set_option linter.unusedVariables false
open Go.RowKit

theorem step_app {ops : Array Oper} {o : Oper} {a : Act} {W : World} {K : Act → World → Prop} {Q : Exit → Act → World → Prop} {E : Prop} (hg : o.guard = none) (s x : Operand) (T : TypeId)
    (ho : o.op = .call { callee := .builtin .append, args := #[s, x], argTypes := #[T, T] }) {v u r : Value} {w' : World} (hs : a.eval s = v) (hx : a.eval x = u) (hr : (Builtin.append_ #[T, T] o.type #[v, u]).run Try.prog W = .ok r w') (hK : K (a.put o.dst r) w') :
    if Region.wanted o (yielded ops a.tmps) = true then Oper.wp Try.prog o a W K Q else E := by
  have hw : Region.wanted o (yielded ops a.tmps) = true := by simp [Region.wanted, hg]
  rw [if_pos hw]
  unfold Oper.wp
  rw [gexec_append ho hs hx hr]
  exact hK
theorem own_head {w : World} {S size n m g cap : Nat} {e : TypeId} {xs : List Value} (h : w.ownsRow S e size (.slice (some ⟨g, 0, none⟩) n cap) n xs) (hm : m ≤ n) : w.ownsRow S e size (.slice (some ⟨g, 0, none⟩) m cap) m (xs.take (m * size)) := by
  have hx := h.1
  have hms : m * size ≤ n * size := Nat.mul_le_mul_right _ hm
  refine ⟨by rw [List.length_take]; omega, ?_⟩
  rcases h.2 with ⟨h1, _⟩ | ⟨g', cap', cur, hv, hb, hg, hnc, hcm, hcs, htake⟩
  · cases h1
  · simp only [Value.slice.injEq, Option.some.injEq, Addr.mk.injEq, and_true, true_and] at hv
    obtain ⟨rfl, rfl⟩ := hv
    refine .inr ⟨g, cap, cur, rfl, hb, hg, by omega, hcm, hcs, ?_⟩
    rw [← htake, List.take_take, Nat.min_eq_left hms]
theorem cells_agg (z : Value) (n : Nat) (hz : ∀ u ∈ z.cells, u.oneCell' = true) : ∀ u ∈ (Builtin.zeroCells z.cells n).toList, u.oneCell' = true := by
  intro u hu
  rw [Array.mem_toList_iff, Builtin.zeroCells, Array.mem_map] at hu
  obtain ⟨i, hi, rfl⟩ := hu
  rw [Array.mem_range] at hi
  have h0 : 0 < z.cells.size := by
    rcases Nat.eq_zero_or_pos z.cells.size with h | h
    · rw [h] at hi; omega
    · exact h
  rw [getElem!_pos z.cells (i % z.cells.size) (Nat.mod_lt _ h0)]
  exact hz _ (Array.getElem_mem _)
/-- The cells behind the first n are cleared. -/
theorem run_clear_own (R : RowT) (hzo : ∀ u ∈ R.zero.cells, u.oneCell' = true) (w : World) (ty : TypeId) (S g n m cap c : Nat) (xs : List Value) (h : w.ownsRow S R.T R.K (.slice (some ⟨g, 0, none⟩) n cap) n xs) (hm : 0 < m) (hroom : n + m ≤ cap) :
    ∃ w', (Builtin.clear_ #[R.SL] ty #[.slice (some ⟨g, n * R.K, none⟩) m c]).run Try.prog w = .ok (.tuple #[]) w' ∧ w'.ownsRow S R.T R.K (.slice (some ⟨g, 0, none⟩) n cap) n xs ∧ w.grownBy w' (some g) := by
  obtain ⟨i0, hi, hz0, hz1, hz2⟩ := info_parts R.hinfo
  have hx := h.1
  rcases h.2 with ⟨h1, _⟩ | ⟨g', cap', cur, hv, hb, hg, hnc, hcm, hcs, htake⟩
  · cases h1
  · simp only [Value.slice.injEq, Option.some.injEq, Addr.mk.injEq, and_true, true_and] at hv
    obtain ⟨rfl, rfl⟩ := hv
    have hlen : (Builtin.zeroCells R.zero.cells m).toList.length = m * R.K := by rw [Array.length_toList, size_zeroCells, R.hz]
    have hfit : n * R.K + m * R.K ≤ cur.size := by rw [hcs, ← Nat.add_mul]; exact Nat.mul_le_mul_right _ hroom
    have hst := run_storeCells_at Try.prog g (n * R.K) R.T (Builtin.zeroCells R.zero.cells m).toList 0 cur w hg (by rw [hlen, Nat.add_zero]; exact hfit) (cells_agg R.zero m hzo)
    simp only [Nat.add_zero] at hst
    have hzv : ∀ w, (zeroValue R.T).run Try.prog w = .ok R.zero w := fun w => by simp [zeroValue, typeInfo, hi, hz0]
    obtain ⟨zc, hzc⟩ : ∃ zc, Builtin.zeroCells R.zero.cells m = zc := ⟨_, rfl⟩
    rw [hzc] at hst hlen
    obtain ⟨w', hw'⟩ : ∃ w', w.setRow g (cur.toList.take (n * R.K) ++ zc.toList ++ cur.toList.drop (n * R.K + zc.toList.length)).toArray = w' := ⟨_, rfl⟩
    rw [hw'] at hst
    refine ⟨w', by
      obtain ⟨m', rfl⟩ : ∃ m', m = m' + 1 := ⟨m - 1, by omega⟩
      simp [Builtin.clear_, hzv, hzc, hst, run_underlying R.hSL], ?_⟩
    subst hw'
    refine ⟨⟨hx, .inr ⟨g, cap, _, rfl, hb, setRow_heap w g cur _ R.T _ hg, hnc, hcm, ?_, ?_⟩⟩, ⟨rfl, rfl, rfl, by simp, fun k _ hk => setRow_other w g k _ (fun e => hk (by simp [e]))⟩⟩
    · simp only [List.size_toArray, List.length_append, List.length_take, List.length_drop, Array.length_toList]
      simp only [Array.length_toList] at hlen
      omega
    · show (List.take (n * R.K) (_ ++ _ ++ _)) = xs
      rw [List.append_assoc, List.take_append_of_le_length (by rw [List.length_take, Array.length_toList]; omega), List.take_take, Nat.min_self]
      exact htake
theorem flat_drop (W : List Ob) (n : Nat) : flat (W.drop n) = (flat W).drop (n * 12) := by
  by_cases h : n ≤ W.length
  · have e : flat W = flat (W.take n) ++ flat (W.drop n) := by rw [← flat_app, List.take_append_drop]
    have hl : (flat (W.take n)).length = n * 12 := by rw [flat_len, List.length_take, Nat.min_eq_left h]
    rw [e, ← hl, List.drop_left]
  · rw [List.drop_of_length_le (by omega), List.drop_of_length_le (by rw [flat_len]; omega)]
    rfl
theorem add_zero' (b o j : Nat) : (⟨b, o, none⟩ : Addr).add j = ⟨b, o + j, none⟩ := add_spot' b o j
set_option maxHeartbeats 4000000 in
theorem odel_any (g cap : Nat) (W : List Ob) (n : Nat) (w : World) (h : OwO w 0 (.slice (some ⟨g, 0, none⟩) W.length cap) W) (hn : 0 < n) (hle : n ≤ W.length) :
    Calls Try.prog 56 #[.slice (some ⟨g, 0, none⟩) W.length cap, .int .i64 0, .int .i64 n] w fun e w' => e = .returned (.slice (some ⟨g, 0, none⟩) (W.length - n) cap) ∧ OwO w' 0 (.slice (some ⟨g, 0, none⟩) (W.length - n) cap) (W.drop n) ∧ Chg (fun k => k = g) w w' := by
  have hcap : W.length ≤ cap := by
    rcases h.2 with ⟨h1, _⟩ | ⟨g', cap', cur, hv, hb, hg, hnc, hcm, hcs, htake⟩
    · cases h1
    · simp only [Value.slice.injEq] at hv; omega
  have hd : OwO w.drew 0 (.slice (some ⟨g, 0, none⟩) W.length cap) W := h
  obtain ⟨A0, hA, hsrc⟩ : ∃ A0 : Addr, (if cap = n then some (⟨g, 0, none⟩ : Addr) else some ⟨g, n * 12, none⟩) = some A0 ∧ Hid (∀ t u, (flat (W.drop n))[t]? = some u → w.drew.cell? (A0.add t) = some u) := by
    by_cases hc : cap = n
    · refine ⟨⟨g, 0, none⟩, if_pos hc, fun t u hu => ?_⟩
      rw [List.drop_of_length_le (by omega)] at hu
      simp [flat] at hu
    · refine ⟨⟨g, n * 12, none⟩, if_neg hc, fun t u hu => ?_⟩
      have ht := (List.getElem?_eq_some_iff.1 hu).1
      rw [flat_len, List.length_drop] at ht
      rw [flat_drop, List.getElem?_drop] at hu
      rw [add_zero', World.ownsRow.cellAt hd (n * 12 + t) (by omega)]
      exact hu
  have hone : ∀ u ∈ flat (W.drop n), u.oneCell' = true := flat_ones _
  obtain ⟨w2, hr2, ho2, hg2⟩ := run_append_fits (P := Try.prog) w.drew 0 29 29 39 _ 12 underSL (info_parts infoOB).choose_spec.1 (info_parts infoOB).choose_spec.2.2.1 g 0 cap _ (own_head hd (Nat.zero_le _)) A0 (W.length - n) (cap - n) (flat (W.drop n)) (by rw [flat_len, List.length_drop]) hsrc.out hone (by omega)
  have ho2' : w2.ownsRow 0 (ROB).T (ROB).K (.slice (some ⟨g, 0, none⟩) (W.length - n) cap) (W.length - n) (flat (W.drop n)) := by
    have h9 := ho2
    rw [Nat.zero_add, Nat.zero_mul, List.take_zero, List.nil_append] at h9
    exact h9
  rw [Nat.zero_add] at hr2
  obtain ⟨w3, hr3, ho3, hg3⟩ := run_clear_own ROB (by decide) w2 0 0 g (W.length - n) (W.length - (W.length - n)) cap (cap - (W.length - n)) _ ho2' (by omega) (by omega)
  have hr3' : (Builtin.clear_ #[29] 0 #[.slice (some ⟨g, (W.length - n) * 12, none⟩) (W.length - (W.length - n)) (cap - (W.length - n))]).run Try.prog w2 = .ok (.tuple #[]) w3 := hr3
  have hcg : Chg (fun k => k = g) w w3 := ((Chg.refl _ w).drew.trans ((chg_grown hg2).mono (fun x _ e => by cases e; rfl)) (fun _ _ e => e)).trans ((chg_grown hg3).mono (fun x _ e => by cases e; rfl)) (fun _ _ e => e)
  have HO3 : Hid (OwO w3 0 (.slice (some ⟨g, 0, none⟩) (W.length - n) cap) (W.drop n)) := by
    show w3.ownsRow 0 39 12 _ (W.drop n).length _
    rw [List.length_drop]
    exact ho3
  have HCG := Lib.hid hcg
  have HR2 := Lib.hid hr2
  have mixed : Try.prog.follows Departure.mixedOrders = true := by kernel_rfl
  have hne : ((0 : Int) == (n : Int)) = false := beq_false_of_ne (by omega)
  clear h hd hsrc hone ho2 ho2' hg2 ho3 hg3 hcg hr2 hr3
  go_enter Try.func56, Try.ntmps56
  go_wp2_with fail
  go_region_law_o (refine step_app rfl (.tmp 22) (.tmp 25) 29 rfl (by simp [Act.eval, Act.put]) (by simp [Act.eval, Act.put]) HR2.out ?_)
  go_wp2_with fail
  go_ret
  exact ⟨rfl, HO3.out, HCG.out⟩
end Go.Proofs.Yticjeknadddhoaa

namespace Go.Proofs.Yticjeknadddhoaa
set_option maxRecDepth 100000
set_option linter.unusedVariables false
open Go.RowKit

section
variable (R : RowT)
def NewR (wo : World) (S : Nat) (v : Value) (zs : List R.α) (n : Nat) : Ty := fun u w => ∃ g cap, u = .slice (some ⟨g, 0, none⟩) n cap ∧ w.ownsRow S R.T R.K u zs.length (gflat R zs) ∧ (v.ownBlock = some g ∨ wo.heap.size ≤ g)
variable {R}
theorem NewR.keeps {wo : World} {S n : Nat} {v : Value} {zs : List R.α} {row : Option Nat} (s : Nat) : T3.Keeps (GX row s) s (NewR R wo S v zs n) := by
  rintro j hj u w w' ⟨g, cap, h1, h2, h3⟩ hx
  unfold GX at hx
  rw [if_neg hj] at hx
  exact ⟨g, cap, h1, gown_below h2 hx, h3⟩
variable (R)
/-- One more: the elder row is there as it was; the new one lies in its block, or in a new one. -/
theorem run_gappr (w : World) (S : Nat) (v : Value) (xs : List R.α) (hown : w.ownsRow S R.T R.K v xs.length (gflat R xs)) (b : Nat) (y : R.α) (hy : GC R w b 0 y) (hl : xs.length ≤ 3000) (hS : S ≤ w.heap.size) {ty : TypeId} :
    ∃ g cap w', (Builtin.append_ #[R.SL, R.SL] ty #[v, .slice (some ⟨b, 0, none⟩) 1 1]).run Try.prog w = .ok (.slice (some ⟨g, 0, none⟩) (xs.length + 1) cap) w' ∧ w'.ownsRow S R.T R.K (.slice (some ⟨g, 0, none⟩) (xs.length + 1) cap) (xs ++ [y]).length (gflat R (xs ++ [y])) ∧ w.grownBy w' v.ownBlock ∧ w'.ownsRow S R.T R.K v xs.length (gflat R xs) ∧ (v.ownBlock = some g ∨ w.heap.size ≤ g) := by
  obtain ⟨g, cap, w1, hr, h2, h3, h4⟩ := run_gapp (R := R) w ty S v xs hown b y hy hl hS
  obtain ⟨g2, cap2, w2, hr2, _, _, h5⟩ := run_gapp2 R w ty S v xs hown b y hy hl hS
  have e := hr.symm.trans hr2
  simp only [Result.ok.injEq, Value.slice.injEq, Option.some.injEq, Addr.mk.injEq, and_true, true_and] at e
  obtain ⟨⟨e1, _⟩, _⟩ := e
  exact ⟨g, cap, w1, hr, h2, h3, h4, e1 ▸ h5⟩
end
set_option maxHeartbeats 4000000 in
theorem pnew_any (win tries : Int) (w : World) : Calls Try.prog 9 #[.int .i64 win, .int .i64 tries] w fun e w' => Below w.heap.size w w' ∧ ((¬ nwOk win tries ∧ e = .returned (.tuple #[.pointer none, .int .i64 1])) ∨ (nwOk win tries ∧ ∃ b F, e = .returned (.tuple #[.pointer (some ⟨b, 0, none⟩), .int .i64 0]) ∧ PS w' F b (sd0 win tries) ∧ ∀ k, F k → w.heap.size ≤ k)) := by
  obtain ⟨W1, hW1⟩ : ∃ W1, w.alloc (.cells #[.int .i64 (sd0 win tries).win, .int .i64 (sd0 win tries).tries, .int .i64 (sd0 win tries).nx, .slice none 0 0, .slice none 0 0] 63) = W1 := ⟨_, rfl⟩
  have hb1 : Below w.heap.size w W1 := hW1 ▸ (Below.refl _ w).alloc (Nat.le_refl _) _
  have hs1 : W1.heap.size = w.heap.size + 1 := by rw [← hW1]; simp
  have hp : W1.heap[w.heap.size]? = some (.cells #[.int .i64 (sd0 win tries).win, .int .i64 (sd0 win tries).tries, .int .i64 (sd0 win tries).nx, .slice none 0 0, .slice none 0 0] 63) := by rw [← hW1]; exact heap_alloc_new w _
  by_cases hok : nwOk win tries
  · have HPS : Hid (PS W1 (fun k => k = w.heap.size) w.heap.size (sd0 win tries)) := ⟨sdok_new hok, [], .slice none 0 0, .slice none 0 0, ⟨fun k hk => by omega, rfl, hp, OwO_nil W1 0, fun g hg => (by cases hg), ⟨rfl, .inl ⟨rfl, rfl⟩⟩, fun g hg => (by cases hg), rfl, List.nodup_nil, fun z hz => absurd hz List.not_mem_nil⟩⟩
    have HOK := Lib.hid hok
    have HB1 := Lib.hid hb1
    have HW1 : Hid (w.alloc (.cells #[.int .i64 win, .int .i64 tries, .int .i64 0, .slice none 0 0, .slice none 0 0] 63) = W1) := hW1
    have d1 : decide (win < 1) = false := decide_eq_false (by have := hok.1.1; omega)
    have d2 : decide (16 < win) = false := decide_eq_false (by have := hok.1.2; omega)
    have d3 : decide (tries < 1) = false := decide_eq_false (by have := hok.2.1; omega)
    have d4 : decide (100 < tries) = false := decide_eq_false (by have := hok.2.2; omega)
    have n1 : ¬ win < 1 := of_decide_eq_false d1
    have n2 : ¬ (16 : Int) < win := of_decide_eq_false d2
    have n3 : ¬ tries < 1 := of_decide_eq_false d3
    have n4 : ¬ (100 : Int) < tries := of_decide_eq_false d4
    clear hok hb1 hW1 hp hs1
    go_enter Try.func9, Try.ntmps9
    go_wp2_with fail
    rw [HW1.out]
    go_ret2
    exact ⟨HB1.out, .inr ⟨HOK.out, w.heap.size, rfl, fun k => k = w.heap.size, HPS.out, fun k hk => Nat.le_of_eq hk.symm⟩⟩
  · have HOK := Lib.hid hok
    have hq : win < 1 ∨ (16 : Int) < win ∨ tries < 1 ∨ (100 : Int) < tries := by unfold nwOk at hok; omega
    clear hok hb1 hW1 hp hs1
    by_cases n1 : win < 1
    · go_enter Try.func9, Try.ntmps9
      go_wp2_with fail
      go_ret2
      exact ⟨Below.refl _ _, .inl ⟨HOK.out, rfl⟩⟩
    by_cases n2 : (16 : Int) < win
    · clear hq
      go_enter Try.func9, Try.ntmps9
      go_wp2_with fail
      go_ret2
      exact ⟨Below.refl _ _, .inl ⟨HOK.out, rfl⟩⟩
    by_cases n3 : tries < 1
    · clear hq
      go_enter Try.func9, Try.ntmps9
      go_wp2_with fail
      go_ret2
      exact ⟨Below.refl _ _, .inl ⟨HOK.out, rfl⟩⟩
    have n4 : (100 : Int) < tries := by omega
    clear hq
    go_enter Try.func9, Try.ntmps9
    go_wp2_with fail
    go_ret2
    exact ⟨Below.refl _ _, .inl ⟨HOK.out, rfl⟩⟩
end Go.Proofs.Yticjeknadddhoaa

namespace Go.Proofs.Yticjeknadddhoaa
set_option maxRecDepth 100000
set_option linter.unusedVariables false
open Go.RowKit

/-- One pointer more. -/
theorem run_pt (w : World) (v : Value) (ps : List Nat) (hown : OwP w v ps) (b p : Nat) (hy : w.cell? ⟨b, 0, none⟩ = some (ptr p)) (hl : ps.length ≤ 3000) {ty : TypeId} :
    ∃ g cap w', (Builtin.append_ #[61, 61] ty #[v, .slice (some ⟨b, 0, none⟩) 1 1]).run Try.prog w = .ok (.slice (some ⟨g, 0, none⟩) (ps.length + 1) cap) w' ∧ OwP w' (.slice (some ⟨g, 0, none⟩) (ps.length + 1) cap) (ps ++ [p]) ∧ w.grownBy w' v.ownBlock ∧ (v.ownBlock = some g ∨ w.heap.size ≤ g) := by
  obtain ⟨g, cap, w', h1, h2, h3, _, h5⟩ := run_gappr RPT w 0 v ps hown b p (fun j hj => by
    have hj' : j < 1 := hj
    obtain rfl : j = 0 := by omega
    exact hy) hl (Nat.zero_le _) (ty := ty)
  exact ⟨g, cap, w', h1, h2, h3, h5⟩
/-- The blocks that letOut turns. -/
def LG (b : Nat) (vW vO : Value) : Nat → Prop := fun k => k = b ∨ vW.ownBlock = some k ∨ vO.ownBlock = some k
/-- What letOut leaves. -/
def loS (s : Sd) (x : Bt) : Sd := { s with W := s.W.drop x.2.length, L := s.L ++ [(x, 1)], nx := nxt x.1 }
section
variable {w : World} {F : Nat → Prop} {b : Nat} {s : Sd} {Z : Zs1} {vW vO : Value}
set_option maxHeartbeats 8000000 in
theorem letout_any (n : Int) (ys : List Ob) (u : Value) (h : PZ w F b s Z vW vO) (ho : ObI w F vW u ys) (hy : 0 < ys.length) (hyl : ys.length ≤ s.W.length) (hZ : Z.length ≤ 1000) :
    Calls Try.prog 29 #[.pointer (some ⟨b, 0, none⟩), .agg #[.int .i64 n, u]] w fun e w' => e = .returned (.tuple #[]) ∧ Chg (LG b vW vO) w w' ∧ ∃ Z' vW' vO', PZ w' (FN F w w') b (loS s (n, ys)) Z' vW' vO' ∧ (∃ p, Z' = Z ++ [(p, (n, ys), 1)]) ∧ (∀ g, vW'.ownBlock = some g → vW.ownBlock = some g) := by
  obtain ⟨au, cu, rfl⟩ := ho.os.form
  obtain ⟨aO, cO, rfl⟩ := h.oform
  obtain ⟨g, cap, rfl⟩ : ∃ g cap, vW = .slice (some ⟨g, 0, none⟩) s.W.length cap := by
    rcases h.wt.2 with ⟨_, h2⟩ | ⟨g, cap, cur, h2, _⟩
    · omega
    · exact ⟨g, cap, h2⟩
  obtain ⟨g0, hg0⟩ : ∃ g0, w.heap.size = g0 := ⟨_, rfl⟩
  obtain ⟨p, hp⟩ : ∃ p, g0 + 1 = p := ⟨_, rfl⟩
  obtain ⟨W1, hW1⟩ : ∃ W1, w.alloc (.cells #[.int .i64 n, .slice au ys.length cu] 55) = W1 := ⟨_, rfl⟩
  have hs1 : W1.heap.size = p := by rw [← hp, ← hg0, ← hW1]; simp
  have hb1 : Below w.heap.size w W1 := hW1 ▸ (Below.refl _ w).alloc (Nat.le_refl _) _
  have hg1 : W1.heap[g0]? = some (.cells #[.int .i64 n, .slice au ys.length cu] 55) := by rw [← hW1, ← hg0]; exact heap_alloc_new w _
  obtain ⟨W2, hW2⟩ : ∃ W2, W1.alloc (.cells #[.int .i64 n, .slice au ys.length cu, .int .i64 0] 74) = W2 := ⟨_, rfl⟩
  have hb2 : Below W1.heap.size W1 W2 := hW2 ▸ (Below.refl _ W1).alloc (Nat.le_refl _) _
  have hs2 : W2.heap.size = p + 1 := by rw [← hs1, ← hW2]; simp
  have hp2 : W2.heap[p]? = some (.cells #[.int .i64 n, .slice au ys.length cu, .int .i64 0] 74) := by rw [← hW2, ← hs1]; exact heap_alloc_new W1 _
  obtain ⟨W3, hW3⟩ : ∃ W3, W2.setCell ⟨p, 2, none⟩ (.int .i64 1) = W3 := ⟨_, rfl⟩
  have hs3 : W3.heap.size = p + 1 := by rw [← hs2, ← hW3]; simp [World.setCell]
  have hp3 : W3.heap[p]? = some (.cells #[.int .i64 n, .slice au ys.length cu, .int .i64 1] 74) := by rw [← hW3, heap_setCell_same W2 p 2 _ 74 _ hp2]; rfl
  have hc3 : Chg (fun k => k = p) W2 W3 := hW3 ▸ chg_pt _ _ _ _
  obtain ⟨W4, hW4⟩ : ∃ W4, W3.alloc (.cells #[ptr p] 67) = W4 := ⟨_, rfl⟩
  have hb4 : Below W3.heap.size W3 W4 := hW4 ▸ (Below.refl _ W3).alloc (Nat.le_refl _) _
  have hs4 : W4.heap.size = p + 2 := by rw [← hW4]; simp; omega
  have hFp : ∀ k, F k → k < g0 := fun k hk => hg0 ▸ h.lt k hk
  have hcg4 : Chg (fun k => w.heap.size ≤ k) w W4 := (((chg0 hb1 : Chg (fun k => w.heap.size ≤ k) w W1).trans (G := fun _ => False) (chg0 hb2) (fun _ _ e => e.elim)).trans hc3 (fun x _ e => by omega)).trans (G := fun _ => False) (chg0 hb4) (fun _ _ e => e.elim)
  have hoff : ∀ k, F k → ¬ w.heap.size ≤ k := fun k hk => by have := h.lt k hk; omega
  have h4 := (h.keep hcg4 hoff).mono (F' := FN F w W4) (fun k hk => .inl hk) (FN.lt h.lt hcg4.size)
  have ho4 : ObI W4 (FN F w W4) (.slice (some ⟨g, 0, none⟩) s.W.length cap) (.slice au ys.length cu) ys := (ho.chg hcg4 (fun k hk _ _ => hoff k hk)).mono (fun k hk => .inl hk)
  have hp4 : W4.heap[p]? = some (.cells #[.int .i64 n, .slice au ys.length cu, .int .i64 1] 74) := (hb4.block p (by omega)).trans hp3
  have hsn : SndAt W4 (FN F w W4) (.slice (some ⟨g, 0, none⟩) s.W.length cap) p ((n, ys), 1) := ⟨.inr (by omega), _, hp4, ho4⟩
  obtain ⟨ps, hps⟩ : ∃ ps, Z.map Prod.fst = ps := ⟨_, rfl⟩
  have hpl : ps.length = Z.length := by rw [← hps, List.length_map]
  have hot4 : OwP W4 (.slice aO Z.length cO) ps := hps ▸ h4.ot
  obtain ⟨gq, cq, W5, hr5, hq5, hg5, hv5⟩ := run_pt W4 (.slice aO Z.length cO) ps hot4 W3.heap.size p (by rw [← hW4]; simp) (by omega) (ty := 61)
  rw [hpl] at hr5 hq5
  have hnd : ((Z ++ [(p, (n, ys), 1)]).map Prod.fst).Nodup := by
    rw [List.map_append, List.nodup_append]
    refine ⟨h.nd, by simp, fun a ha b2 hb2 e => ?_⟩
    simp only [List.map_cons, List.map_nil, List.mem_singleton] at hb2
    obtain ⟨z, hz, rfl⟩ := List.mem_map.1 ha
    have := hFp _ (h.snd z hz).f
    omega
  have h6 := h4.oset (chg_grown hg5) (vO' := .slice (some ⟨gq, 0, none⟩) (Z.length + 1) cq) (Z' := Z ++ [(p, (n, ys), 1)]) (by
    rw [List.map_append, hps]
    exact hq5) (fun g2 hg2 => by cases hg2; exact hv5) hnd (fun z hz => by
    rcases List.mem_append.1 hz with h1 | h1
    · exact h4.snd z h1
    · rw [List.mem_singleton.1 h1]; exact hsn)
  obtain ⟨W6, hW6⟩ : ∃ W6, W5.setCell ⟨b, 4, none⟩ (.slice (some ⟨gq, 0, none⟩) (Z.length + 1) cq) = W6 := ⟨_, rfl⟩
  rw [hW6] at h6
  have hcg5 : Chg (LG b (.slice (some ⟨g, 0, none⟩) s.W.length cap) (.slice aO Z.length cO)) w W5 := (hcg4.mono (G := fun k => (LG b (.slice (some ⟨g, 0, none⟩) s.W.length cap) (.slice aO Z.length cO)) k ∨ w.heap.size ≤ k) (fun x _ e => .inr e)).trans (G := fun k => (LG b (.slice (some ⟨g, 0, none⟩) s.W.length cap) (.slice aO Z.length cO)) k ∨ w.heap.size ≤ k) ((chg_grown hg5).mono (fun x _ e => .inl (.inr (.inr e)))) (fun _ _ e => e) |> fun q => ⟨q.os, q.tape, q.output, q.size, fun k hk hn => q.block k hk (fun e => e.elim hn (fun e2 => by omega))⟩
  have hcg6 : Chg (LG b (.slice (some ⟨g, 0, none⟩) s.W.length cap) (.slice aO Z.length cO)) w W6 := hW6 ▸ hcg5.setCell (.inl (.inl rfl)) _
  have hbO : ∀ g2, (Value.slice aO Z.length cO).ownBlock = some g2 → g2 ≠ b := fun g2 e => (own_blk h.ot e).ne h.bt (by decide)
  have hb5 : W5.heap[b]? = some (.cells #[.int .i64 s.win, .int .i64 s.tries, .int .i64 s.nx, .slice (some ⟨g, 0, none⟩) s.W.length cap, .slice aO Z.length cO] 63) := by
    have e5 := (chg_grown hg5).block b (h4.lt b h4.fb) (fun e => hbO b e rfl)
    exact e5.trans h4.hp
  have hbW3 := (h.keep ((((chg0 hb1 : Chg (fun k => w.heap.size ≤ k) w W1).trans (G := fun _ => False) (chg0 hb2) (fun _ _ e => e.elim)).trans hc3 (fun x _ e => by omega))) hoff)
  have hg6 : W6.heap[g0]? = some (.cells #[.int .i64 n, .slice au ys.length cu] 55) := by
    have e1 : W2.heap[g0]? = W1.heap[g0]? := hb2.block g0 (by omega)
    have e2 : W3.heap[g0]? = W2.heap[g0]? := hc3.block g0 (by omega) (by omega)
    have e3 : W4.heap[g0]? = W3.heap[g0]? := hb4.block g0 (by omega)
    have e4 : W5.heap[g0]? = W4.heap[g0]? := (chg_grown hg5).block g0 (by omega) (fun e => by have := hFp _ (h.of g0 e); omega)
    have hgb : g0 ≠ b := fun e => by have := hFp b h.fb; omega
    have e5 : W6.heap[g0]? = W5.heap[g0]? := by rw [← hW6]; exact Below.heap_setCell _ _ _ _ hgb
    rw [e5, e4, e3, e2, e1]; exact hg1
  have hfg : F g := h.wf g rfl
  have C6 := Lib.hid (odel_any g cap s.W ys.length W6.drew h6.wt hy hyl)
  have CS := Lib.hid (sstore_any p 2 0 1 W2 (by simp [World.cell?, hp2]) (by simp [World.frozen?, hp2]))
  rw [← hW4] at hr5
  obtain ⟨d0, d1, d2, d3, d4, df⟩ := hbW3.cells
  have x40 : W5.cell? ⟨b, 4, none⟩ = some (.slice aO Z.length cO) := by simp [World.cell?, hb5]
  have x4f : ∀ j, W5.frozen? ⟨b, j, none⟩ = false := fun j => by simp [World.frozen?, hb5]
  have HX4 := Lib.hid (And.intro x40 x4f)
  have HD := Lib.hid (And.intro d4 df)
  have H6 := Lib.hid h6
  have HCG6 := Lib.hid hcg6
  have HW1 := Lib.hid hW1
  have HW2 := Lib.hid hW2
  have HW3 := Lib.hid hW3
  have HW6 := Lib.hid hW6
  have HG0 := Lib.hid hg0
  have HP := Lib.hid hp
  have HS1 := Lib.hid hs1
  have HG6 := Lib.hid hg6
  have HG1 := Lib.hid hg1
  have HR5 := Lib.hid hr5
  have HFG := Lib.hid hfg
  have HZL := Lib.hid h.zl
  have HFB := Lib.hid h.fb
  have HFP := Lib.hid hFp
  have HY := Lib.hid hyl
  have HSZ : Hid (w.heap.size ≤ W4.heap.size ∧ W4.heap.size ≤ W5.heap.size ∧ W5.heap.size = W6.heap.size) := ⟨hcg4.size, hg5.size, by rw [← hW6]; simp [World.setCell]⟩
  clear hW1 hW2 hW3 hW4 hW6 hg0 hp hs1 hs2 hs3 hs4 hb1 hb2 hb4 hc3 hcg4 hcg5 hcg6 hoff h4 ho4 hp4 hsn hps hpl hot4 hr5 hq5 hg5 hv5 hnd h6 hbO hb5 hbW3 hg6 hg1 hfg d0 d1 d2 d3 d4 df x40 x4f h ho hp2 hp3 hFp hyl
  go_enter Try.func29, Try.ntmps29
  go_upto_region 1 with (fail)
  rw [HW1.out]
  simp only [HG0.out]
  have v0 : W1.cell? ⟨g0, 0, none⟩ = some (.int .i64 n) := by simp [World.cell?, HG1.out]
  have v1 : W1.cell? ⟨g0, 1, none⟩ = some (.slice au ys.length cu) := by simp [World.cell?, HG1.out]
  go_upto_region 2 with (fail)
  rw [HW2.out]
  simp only [HS1.out]
  clear v0 v1
  go_wp2_with fail
  refine CS.out.mono ?_
  rintro e w9 ⟨rfl, rfl⟩
  rw [HW3.out]
  obtain ⟨d4, df⟩ := HD.out
  go_upto_region 4 with (at_builtin; refine app_go rfl (.tmp 16) (.tmp 18) 61 rfl _ _ _ _ rfl rfl HR5.out ?_; obtain ⟨x40, x4f⟩ := HX4.out; clear d4 df)
  rw [HW6.out]
  obtain ⟨m0, m1, m2, m3, m4, mf⟩ := H6.out.cells
  have v0 : W6.cell? ⟨g0, 0, none⟩ = some (.int .i64 n) := by simp [World.cell?, HG6.out]
  have v1 : W6.cell? ⟨g0, 1, none⟩ = some (.slice au ys.length cu) := by simp [World.cell?, HG6.out]
  clear m0 m1 m2 m4 x40 x4f
  go_region_with (go_at_call 56; refine C6.out.mono ?_; rintro e W7 ⟨rfl, hq7, hc7⟩; have HQ7 := Lib.hid hq7; have HC7 := Lib.hid hc7; clear hq7 hc7 m3 mf v0 v1; have hp7 : W7.heap[b]? = W6.heap[b]? := HC7.out.block b (H6.out.lt b H6.out.fb) (fun e => (own_blk H6.out.wt (e ▸ rfl : (Value.slice (some ⟨g, 0, none⟩) s.W.length cap).ownBlock = some b)).ne H6.out.bt (by decide) rfl); have m3 : W7.cell? ⟨b, 3, none⟩ = some (.slice (some ⟨g, 0, none⟩) s.W.length cap) := (World.cell?_of_block hp7).trans H6.out.cells.2.2.2.1; have mf : ∀ j, W7.frozen? ⟨b, j, none⟩ = false := (fun j => (World.frozen?_of_block hp7).trans (H6.out.cells.2.2.2.2.2 j)); clear hp7)
  all_goals
    obtain ⟨W8, hW8⟩ : ∃ W8, W7.setCell ⟨b, 3, none⟩ (.slice (some ⟨g, 0, none⟩) (s.W.length - ys.length) cap) = W8 := ⟨_, rfl⟩
    have hc67 : Chg (fun k => (Value.slice (some ⟨g, 0, none⟩) s.W.length cap).ownBlock = some k) W6 W7 := ((Chg.refl _ W6).drew.trans HC7.out (fun _ _ e => e)).mono (fun x _ e => by rw [e]; rfl)
    have ho7 : OwO W7 0 (.slice (some ⟨g, 0, none⟩) (s.W.length - ys.length) cap) (s.W.drop ys.length) := HQ7.out
    have h8 := H6.out.wset hc67 ho7 (fun g2 hg2 => .inl hg2)
    rw [hW8] at h8
    have hg8 : W8.heap[g0]? = some (.cells #[.int .i64 n, .slice au ys.length cu] 55) := by
      have e1 : W7.heap[g0]? = W6.heap[g0]? := HC7.out.block g0 (some_lt HG6.out) (fun e => by have := HFP.out g HFG.out; omega)
      have e2 : W8.heap[g0]? = W7.heap[g0]? := by rw [← hW8]; exact Below.heap_setCell _ _ _ _ (fun e => by have h9 := HFP.out b HFB.out; have e9 : g0 = b := e; omega)
      rw [e2, e1]; exact HG6.out
    have v0 : W8.cell? ⟨g0, 0, none⟩ = some (.int .i64 n) := by simp [World.cell?, hg8]
    have CN := Lib.hid (z_next_any n W8)
    have hcg8 : Chg (LG b (.slice (some ⟨g, 0, none⟩) s.W.length cap) (.slice aO Z.length cO)) w W8 := hW8 ▸ ((HCG6.out.trans hc67 (fun x _ e => .inr (.inl e))).setCell (.inl (.inl rfl)) _)
    have HCG8 := Lib.hid hcg8
    have H8 := Lib.hid h8
    have HS7 : Hid (W6.heap.size ≤ W7.heap.size ∧ W7.heap.size = W8.heap.size) := ⟨hc67.size, by rw [← hW8]; simp [World.setCell]⟩
    have HW8 := Lib.hid hW8
    clear hW8 hc67 ho7 h8 hg8 hcg8 m3 mf
    rw [HW8.out]
    go_wp2_with fail
    refine CN.out.mono ?_
    rintro e W9 ⟨rfl, hb9⟩
    have h9 := H8.out.below hb9
    obtain ⟨c0, c1, c2, c3, c4, cf⟩ := h9.cells
    have h10 := h9.nset (z_nxt n)
    have hcg10 : Chg (LG b (.slice (some ⟨g, 0, none⟩) s.W.length cap) (.slice aO Z.length cO)) w (W9.setCell ⟨b, 2, none⟩ (.int .i64 (z_nxt n))) := (HCG8.out.trans (G := fun _ => False) (chg0 hb9) (fun _ _ e => e.elim)).setCell (.inl (.inl rfl)) _
    have HCG10 := Lib.hid hcg10
    have H10 := Lib.hid h10
    have HS9 : Hid (W8.heap.size ≤ W9.heap.size) := hb9.size
    clear v0 c0 c1 c3 c4 hb9 h9 h10 hcg10
    go_wp2_with fail
    go_end0
    have hz : z_nxt n = nxt n := by unfold z_nxt nxt; omega
    have hfin := H10.out.mono (F' := FN F w (W9.setCell ⟨b, 2, none⟩ (.int .i64 (z_nxt n)))) (fun k hk => by
      obtain ⟨s1, s2, s3⟩ := HSZ.out
      obtain ⟨s4, s5⟩ := HS7.out
      have s6 := HS9.out
      have s7 : (W9.setCell ⟨b, 2, none⟩ (.int .i64 (z_nxt n))).heap.size = W9.heap.size := by simp [World.setCell]
      unfold FN at hk ⊢
      rcases hk with ((hk | hk) | hk) | hk
      · exact .inl hk
      · exact .inr (by omega)
      · exact .inr (by omega)
      · exact .inr (by omega)) (FN.lt (fun k hk => by have := HFP.out k hk; have := HG0.out; omega) HCG10.out.size)
    have hst : { s with W := s.W.drop ys.length, L := (Z ++ [(p, (n, ys), 1)]).map Prod.snd, nx := z_nxt n } = loS s (n, ys) := by
      unfold loS
      rw [hz, HZL.out, List.map_append]
      rfl
    refine ⟨rfl, HCG10.out, _, .slice (some ⟨g, 0, none⟩) (s.W.length - ys.length) cap, _, hst ▸ hfin, ⟨p, rfl⟩, fun g2 hg2 => hg2⟩
end
end Go.Proofs.Yticjeknadddhoaa

namespace Go.Proofs.Yticjeknadddhoaa
set_option maxRecDepth 100000
set_option linter.unusedVariables false
open Go.RowKit

def stk (s : Sd) (k : Nat) : Sd := { s with W := s.W.drop (cnt ((sdT s).take k)), L := s.L ++ ((sdT s).take k).map fun p => (p, 1), nx := numAt s.nx k }
theorem stk_zero (s : Sd) : stk s 0 = s := by
  unfold stk
  show ({ s with W := s.W, L := s.L ++ [], nx := s.nx } : Sd) = s
  rw [List.append_nil]
theorem stk_end (s : Sd) : stk s (sdT s).length = sdS s := by
  unfold stk sdS nxA
  rw [List.take_of_length_le (Nat.le_refl _)]
theorem cnt_app (a b : List Bt) : cnt (a ++ b) = cnt a + cnt b := by unfold cnt; rw [List.map_append, List.sum_append]
theorem sdT_one {s : Sd} {k : Nat} (hk : k < (sdT s).length) : (sdT s).take (k + 1) = (sdT s).take k ++ [(sdT s).getD k zb] := by
  rw [List.take_succ_eq_append_getElem hk]
  simp [List.getD, hk]
theorem stk_succ {s : Sd} (h : SdOk s) {k : Nat} (hk : k < (sdT s).length) : loS (stk s k) ((sdT s).getD k zb) = stk s (k + 1) := by
  unfold loS stk
  rw [sdT_one hk, cnt_app, List.map_append, List.drop_drop, List.append_assoc, numAt_succ, sdT_num h k hk]
  rfl
theorem cnt_le {s : Sd} (k : Nat) : cnt ((sdT s).take k) ≤ s.W.length := by
  have h1 := congrArg List.length (send_all s)
  rw [List.length_append, List.length_flatten, List.map_map] at h1
  have h2 : cnt (sdT s) = (List.map (List.length ∘ Prod.snd) (sdT s)).sum := rfl
  have h3 := cnt_app ((sdT s).take k) ((sdT s).drop k)
  rw [List.take_append_drop] at h3
  omega
theorem stk_len {s : Sd} (h : SdOk s) {k : Nat} (hk : k < (sdT s).length) : BtOk ((sdT s).getD k zb).1 ((sdT s).getD k zb).2 ∧ ((sdT s).getD k zb).2.length ≤ (stk s k).W.length := by
  obtain ⟨R, hR, _⟩ := sdT_split s
  have hl : k < (packL 512 s.W s.nx).length := by rw [hR, List.length_append]; omega
  have hb := packL_ok h.wok (most := 512) ⟨by decide, by decide⟩ s.nx k hl
  rw [hR, getD_app hk] at hb
  refine ⟨hb.1, ?_⟩
  have h1 := cnt_le (s := s) (k + 1)
  rw [sdT_one hk, cnt_app] at h1
  have h2 : cnt [(sdT s).getD k zb] = ((sdT s).getD k zb).2.length := Nat.add_zero _
  show _ ≤ (s.W.drop (cnt ((sdT s).take k))).length
  rw [List.length_drop]
  omega
theorem near_all {s : Sd} (h : SdOk s) {k : Nat} (hk : k < (sdT s).length) : ∀ e ∈ (stk s k).L, withB ((sdT s).getD k zb).1 e.1.1 s.win = true := fun e he => by
  have hx := sdT_in (getD_mem (d := zb) hk)
  have hn := sdT_num h k hk
  have hf := sdT_far h k hk
  rw [← hn] at hf
  have hle : far (fstN s) e.1.1 ≤ far (fstN s) ((sdT s).getD k zb).1 := by
    rcases List.mem_append.1 he with h1 | h1
    · have := h.below e h1; omega
    · obtain ⟨p, hp, rfl⟩ := List.mem_map.1 h1
      obtain ⟨i, hi, rfl⟩ := List.mem_iff_getElem.1 hp
      rw [List.length_take] at hi
      have hi' : i < (sdT s).length := by omega
      have e1 : ((sdT s).take k)[i] = (sdT s).getD i zb := by rw [List.getElem_take]; simp [List.getD, hi']
      have e2 := sdT_far h i hi'
      rw [← sdT_num h i hi'] at e2
      show far (fstN s) (((sdT s).take k)[i]).1 ≤ _
      rw [e1, e2, hf]
      omega
  have h3 := far_shift hle
  have h4 := far_bd (fstN s) e.1.1
  exact decide_eq_true (by rw [h3]; omega)
theorem far_stop {s : Sd} (h : SdOk s) {p : Bt} {R : List Bt} (hR : packL 512 s.W s.nx = sdT s ++ p :: R) : ∃ e, (sdS s).L[0]? = some e ∧ withB p.1 e.1.1 s.win = false := by
  obtain ⟨R2, hR2, hno⟩ := sdT_split s
  have e2 : R2 = p :: R := List.append_cancel_left (hR2.symm.trans hR)
  have hno2 := hno p R e2
  cases hL : (sdS s).L with
  | nil =>
    have hL' : s.L ++ (sdT s).map (fun p => (p, (1 : Int))) = [] := hL
    obtain ⟨h1, h2⟩ := List.append_eq_nil_iff.1 hL'
    have h3 : sdT s = [] := List.map_eq_nil_iff.1 h2
    have hl : 0 < (packL 512 s.W s.nx).length := by rw [hR, List.length_append, List.length_cons]; omega
    have hn := packL_num 512 s.W s.nx 0 hl
    rw [lft_nx h, hR, h3] at hn
    have hn' : p.1 = s.nx := hn
    have hf : fstN s = s.nx := by unfold fstN; rw [h1]
    rw [hn', hf, far_self] at hno2
    exact absurd (by have := h.win; omega) hno2
  | cons e l =>
    refine ⟨e, rfl, ?_⟩
    have hf : fstN (sdS s) = e.1.1 := by unfold fstN; rw [hL]
    rw [fst_send h] at hf
    rw [hf] at hno2
    exact decide_eq_false hno2
end Go.Proofs.Yticjeknadddhoaa

namespace Go.Proofs.Yticjeknadddhoaa
set_option maxRecDepth 100000
set_option linter.unusedVariables false
open Go.RowKit

set_option maxHeartbeats 8000000 in
theorem ppush_any {w : World} {F : Nat → Prop} {b : Nat} {s : Sd} {Z : Zs1} {vW vO : Value} (y : Ob) (h : PZ w F b s Z vW vO) (hl : s.W.length ≤ 1024) :
    Calls Try.prog 11 #[.pointer (some ⟨b, 0, none⟩), .agg #[.int .i64 y.k, .int .i64 y.x, .bool y.n, .int .i64 y.t, .int .i64 y.o, .int .i64 y.r, .int .i64 y.d, .int .i64 y.i, .int .i64 y.p, .int .i64 y.q, .int .i64 y.s, .int .i64 y.m]] w fun e w' => e = .returned (.int .i64 (pushR s y).1) ∧ Chg F w w' ∧ ∃ F' vW', PZ w' F' b (pushR s y).2 Z vW' vO ∧ ∀ k, F' k → F k ∨ w.heap.size ≤ k := by
  obtain ⟨W1, hW1⟩ : ∃ W1, w.alloc (.cells #[.int .i64 y.k, .int .i64 y.x, .bool y.n, .int .i64 y.t, .int .i64 y.o, .int .i64 y.r, .int .i64 y.d, .int .i64 y.i, .int .i64 y.p, .int .i64 y.q, .int .i64 y.s, .int .i64 y.m] 39) = W1 := ⟨_, rfl⟩
  have hb1 : Below w.heap.size w W1 := hW1 ▸ (Below.refl _ w).alloc (Nat.le_refl _) _
  obtain ⟨g0, hg0⟩ : ∃ g0, w.heap.size = g0 := ⟨_, rfl⟩
  have hs1 : W1.heap.size = g0 + 1 := by rw [← hg0, ← hW1]; simp
  have hy1 : Cells12 W1 g0 y.k y.x y.n y.t y.o y.r y.d y.i y.p y.q y.s y.m := by rw [← hW1, ← hg0]; exact cells12_alloc w _ _ _ _ _ _ _ _ _ _ _ _ _
  have HFL : Hid (∀ k, F k → k < g0) := fun k hk => hg0 ▸ h.lt k hk
  obtain ⟨a, c, rfl⟩ := h.wform
  have H1 := Lib.hid (h.below hb1)
  have HB1 := Lib.hid hb1
  have HW1 := Lib.hid hW1
  have HG0 := Lib.hid hg0
  have HS1 := Lib.hid hs1
  have HY1 := Lib.hid hy1
  have HL := Lib.hid hl
  have C1 := Lib.hid (ocheck_any y.k y.x y.n y.t y.o y.r y.d y.i y.p y.q y.s y.m W1)
  clear h hb1 hW1 hg0 hs1 hy1 hl
  go_enter Try.func11, Try.ntmps11
  go_upto_region 1 with (fail)
  rw [HW1.out]
  simp only [HG0.out]
  obtain ⟨u0, u1, u2, u3, u4, u5, u6, u7, u8, u9, u10, u11⟩ := HY1.out
  go_wp2_with fail
  refine C1.out.mono ?_
  rintro e W2 ⟨rfl, hb⟩
  clear u0 u1 u2 u3 u4 u5 u6 u7 u8 u9 u10 u11
  have HY2 := Lib.hid (HY1.out.below hb)
  have H2 := Lib.hid (H1.out.below hb)
  have HB2 := Lib.hid (HB1.out.trans (hb.mono HB1.out.size))
  have HS2 : Hid (g0 + 1 ≤ W2.heap.size) := HS1.out ▸ hb.size
  clear hb C1
  by_cases hok : y.Ok
  · have e0 : obc y.k y.x y.n y.t y.o y.r y.d y.i y.p y.q y.s y.m = 0 := obc_ok hok
    obtain ⟨c0, c1, c2, c3, c4, cf⟩ := H2.out.cells
    rw [e0]
    by_cases hf : s.W.length = 1024
    · have e1 : Hid (pushR s y = (8, s)) := pushR_full hok (by omega)
      have hd : ((s.W.length : Int) == 1024) = true := by rw [hf]; rfl
      clear hok hf e0
      go_wp2_with fail
      go_ret
      rw [e1.out]
      exact ⟨rfl, chg0 HB2.out, F, _, H2.out, fun k hk => .inl hk⟩
    · have e1 : Hid (pushR s y = (0, { s with W := s.W ++ [y] })) := pushR_ok hok (by have := HL.out; omega)
      have hd : ((s.W.length : Int) == 1024) = false := beq_false_of_ne (by omega)
      clear hok hf e0
      clear c0 c1 c2 c4 cf
      go_upto_region 8 with (fail)
      clear c3
      have kc : ∀ w', Chg (fun k => (Value.slice a s.W.length c).ownBlock = some k) W2 w' → (w'.cell? ⟨b, 3, none⟩ = some (.slice a s.W.length c)) ∧ w'.cell? ⟨g0, 0, none⟩ = some (.int .i64 y.k) ∧ w'.cell? ⟨g0, 1, none⟩ = some (.int .i64 y.x) ∧ w'.cell? ⟨g0, 2, none⟩ = some (.bool y.n) ∧ w'.cell? ⟨g0, 3, none⟩ = some (.int .i64 y.t) ∧ w'.cell? ⟨g0, 4, none⟩ = some (.int .i64 y.o) ∧ w'.cell? ⟨g0, 5, none⟩ = some (.int .i64 y.r) ∧ w'.cell? ⟨g0, 6, none⟩ = some (.int .i64 y.d) ∧ w'.cell? ⟨g0, 7, none⟩ = some (.int .i64 y.i) ∧ w'.cell? ⟨g0, 8, none⟩ = some (.int .i64 y.p) ∧ w'.cell? ⟨g0, 9, none⟩ = some (.int .i64 y.q) ∧ w'.cell? ⟨g0, 10, none⟩ = some (.int .i64 y.s) ∧ w'.cell? ⟨g0, 11, none⟩ = some (.int .i64 y.m) := by
        intro w' hc
        have n1 : ¬ (Value.slice a s.W.length c).ownBlock = some b := fun e => (own_blk H2.out.wt e).ne H2.out.bt (by decide) rfl
        have n2 : ¬ (Value.slice a s.W.length c).ownBlock = some g0 := fun e => by have := HFL.out _ (H2.out.wf _ e); omega
        have f : ∀ {j : Nat} {v : Value}, W2.cell? ⟨g0, j, none⟩ = some v → w'.cell? ⟨g0, j, none⟩ = some v := fun h => (hc.cell (by have := HS2.out; omega) n2).trans h
        obtain ⟨h0, h1, h2, h3, h4, h5, h6, h7, h8, h9, h10, h11⟩ := HY2.out
        exact ⟨(hc.cell (H2.out.lt b H2.out.fb) n1).trans H2.out.cells.2.2.2.1, f h0, f h1, f h2, f h3, f h4, f h5, f h6, f h7, f h8, f h9, f h10, f h11⟩
      have HXL : Hid (s.W.length ≤ 3000) := Nat.le_trans HL.out (by decide)
      have HSW : Hid (0 ≤ W2.heap.size) := Nat.zero_le _
      have OW : Hid (W2.ownsRow 0 (ROB).T (ROB).K (Value.slice a s.W.length c) s.W.length (gflat ROB s.W)) := H2.out.wt
      have HROW : ∀ k, (Value.slice a s.W.length c).ownBlock = some k → k < W2.heap.size := fun k hk => H2.out.lt k (H2.out.wf k hk)
      refine T3.wp_region_tail (C := fun w' => Chg (fun k => (Value.slice a s.W.length c).ownBlock = some k) W2 w' ∧ w'.ownsRow 0 (ROB).T (ROB).K (Value.slice a s.W.length c) (s.W).length (gflat ROB (s.W))) (X := GX (Value.ownBlock (Value.slice a s.W.length c)) 7) (n := 29) 10 (by kernel_rfl) (by kernel_rfl) (by kernel_rfl) (by kernel_rfl) rfl (GX_refl _ 7) ⟨(Chg.refl _ _).drew, OW.out.drew⟩ ?_
      simp only [List.take_succ_cons, List.take_zero, List.drop_succ_cons, List.drop_zero]
      refine T3.w_is (GX_refl _ 7) rfl _ (.inl rfl) (fun ρ w hC hc hfn hf => by have e0 : ρ (.tmp 0) = _ := hf 0 (by decide); (conv => lhs; simp [execOp, go_sem, hc, e0])) ?_
      refine T3.w_is (GX_refl _ 7) rfl _ (.inl rfl) (fun ρ w hC hc hfn hf => by have e0 : ρ (.tmp 0) = _ := hf 0 (by decide); (conv => lhs; simp [execOp, go_sem, hc, e0])) ?_
      refine T3.w_is (GX_refl _ 7) rfl _ (.inl rfl) (fun ρ w hC hc hfn hf => by have e20 : ρ (.tmp 20) = _ := hf 20 (by decide); (conv => lhs; simp [execOp, go_sem, hc, e20])) ?_
      refine T3.w_is (GX_refl _ 7) rfl _ (.inl rfl) (fun ρ w hC hc hfn hf => by have e21 : ρ (.tmp 21) = _ := hf 21 (by decide); (conv => lhs; simp [execOp, go_sem, hc, e21])) ?_
      refine T3.w_is (GX_refl _ 7) rfl _ (.inl rfl) (fun ρ w hC hc hfn hf => by have e22 : ρ (.tmp 22) = _ := hf 22 (by decide); (conv => lhs; simp [execOp, go_sem, hc, e22, kc w hC.1])) ?_
      refine T3.w_is (GX_refl _ 7) rfl _ (.inl rfl) (fun ρ w hC hc hfn hf => by have e3 : ρ (.tmp 3) = _ := hf 3 (by decide); (conv => lhs; simp [execOp, go_sem, hc, e3, kc w hC.1])) ?_
      refine T3.w_make rfl (NewG (R := ROB) W2 (y)) (NewG.keeps HROW 7 6) (.inl rfl) (fun ρ w hC hc hfn hf => by have e24 : ρ (.tmp 24) = _ := hf 24 (by decide); exact ⟨_, _, by (conv => lhs; simp [execOp, go_sem, hc, e24]); rfl, ⟨hC.1.alloc _, gown_below hC.2 ((Below.refl _ w).alloc (Nat.le_refl _) _)⟩, GX_of (by decide) ((Below.refl _ w).alloc (Nat.le_refl _) _), ⟨_, rfl, hC.1.size, gc_alloc (ROB) w (y) _ rfl 39⟩⟩) ?_
      refine T3.w_make rfl (NewR (ROB) W2 0 (Value.slice a s.W.length c) ((s.W) ++ [y]) ((s.W).length + 1)) (NewR.keeps 7) (.inl rfl) (fun ρ w hC hc hfn hf => by have e23 : ρ (.tmp 23) = _ := hf 23 (by decide); obtain ⟨bq, e25, hb1, hb2⟩ := (show NewG (R := ROB) W2 (y) (ρ (.tmp 25)) w from hf 25 (by decide)); obtain ⟨gq, cq, wq, hr, hq1, hq2, hq4, hq3⟩ := run_gappr (ROB) w 0 _ (s.W) hC.2 bq (y) hb2 HXL.out (Nat.le_trans HSW.out hC.1.size); exact ⟨_, wq, gexec_append rfl e23 e25 hr, ⟨hC.1.grown hq2 (fun k hk => .inl hk), hq4⟩, GX_at rfl hq2, ⟨gq, cq, rfl, hq1, hq3.imp (fun h => h) (fun h => Nat.le_trans hC.1.size h)⟩⟩) ?_
      refine T3.w_is (GX_refl _ 7) rfl _ (.inl rfl) (fun ρ w hC hc hfn hf => by have e19 : ρ (.tmp 19) = _ := hf 19 (by decide); (conv => lhs; simp [execOp, go_sem, hc, e19])) ?_
      refine T3.w_is (GX_refl _ 7) rfl _ (.inl rfl) (fun ρ w hC hc hfn hf => by have e27 : ρ (.tmp 27) = _ := hf 27 (by decide); (conv => lhs; simp [execOp, go_sem, hc, e27])) ?_
      intro A V5 hC hn hd hf
      obtain ⟨bq, y25, -, -⟩ := (show NewG (R := ROB) W2 (y) (A.eval (.tmp 25)) V5 from hf 25)
      obtain ⟨gq, cq, y26, OQ, HQ9⟩ := (show NewR (ROB) W2 0 (Value.slice a s.W.length c) ((s.W) ++ [y]) ((s.W).length + 1) (A.eval (.tmp 26)) V5 from hf 26)
      rw [y26] at OQ
      have y0 : A.eval (.tmp 0) = _ := Eq.trans (hf 0) (by conv => lhs; simp [go_sem])
      have y1 : A.eval (.tmp 1) = _ := Eq.trans (hf 1) (by conv => lhs; simp [go_sem])
      have y2 : A.eval (.tmp 2) = _ := Eq.trans (hf 2) (by conv => lhs; simp [go_sem])
      have y3 : A.eval (.tmp 3) = _ := Eq.trans (hf 3) (by conv => lhs; simp [go_sem])
      have y4 : A.eval (.tmp 4) = _ := Eq.trans (hf 4) (by conv => lhs; simp [go_sem])
      have y5 : A.eval (.tmp 5) = _ := Eq.trans (hf 5) (by conv => lhs; simp [go_sem])
      have y6 : A.eval (.tmp 6) = _ := Eq.trans (hf 6) (by conv => lhs; simp [go_sem])
      have y7 : A.eval (.tmp 7) = _ := Eq.trans (hf 7) (by conv => lhs; simp [go_sem])
      have y8 : A.eval (.tmp 8) = _ := Eq.trans (hf 8) (by conv => lhs; simp [go_sem])
      have y9 : A.eval (.tmp 9) = _ := Eq.trans (hf 9) (by conv => lhs; simp [go_sem])
      have y10 : A.eval (.tmp 10) = _ := Eq.trans (hf 10) (by conv => lhs; simp [go_sem])
      have y11 : A.eval (.tmp 11) = _ := Eq.trans (hf 11) (by conv => lhs; simp [go_sem])
      have y12 : A.eval (.tmp 12) = _ := Eq.trans (hf 12) (by conv => lhs; simp [go_sem])
      have y13 : A.eval (.tmp 13) = _ := Eq.trans (hf 13) (by conv => lhs; simp [go_sem])
      have y14 : A.eval (.tmp 14) = _ := Eq.trans (hf 14) (by conv => lhs; simp [go_sem])
      have y15 : A.eval (.tmp 15) = _ := Eq.trans (hf 15) (by conv => lhs; simp [go_sem])
      have y16 : A.eval (.tmp 16) = _ := Eq.trans (hf 16) (by conv => lhs; simp [go_sem])
      have y17 : A.eval (.tmp 17) = _ := Eq.trans (hf 17) (by conv => lhs; simp [go_sem])
      have y18 : A.eval (.tmp 18) = _ := Eq.trans (hf 18) (by conv => lhs; simp [go_sem])
      have y19 : A.eval (.tmp 19) = _ := hf 19
      have y20 : A.eval (.tmp 20) = _ := hf 20
      have y21 : A.eval (.tmp 21) = _ := hf 21
      have y22 : A.eval (.tmp 22) = _ := hf 22
      have y23 : A.eval (.tmp 23) = _ := hf 23
      have y24 : A.eval (.tmp 24) = _ := hf 24
      have y27 : A.eval (.tmp 27) = _ := hf 27
      have y28 : A.eval (.tmp 28) = _ := hf 28
      clear hf
      have hA := frame_eq hn
      rw [show List.range 29 = [0, 1, 2, 3, 4, 5, 6, 7, 8, 9, 10, 11, 12, 13, 14, 15, 16, 17, 18, 19, 20, 21, 22, 23, 24, 25, 26, 27, 28] from rfl, hd] at hA
      simp only [List.map_cons, List.map_nil, y0, y1, y2, y3, y4, y5, y6, y7, y8, y9, y10, y11, y12, y13, y14, y15, y16, y17, y18, y19, y20, y21, y22, y23, y24, y25, y26, y27, y28] at hA
      clear y0 y1 y2 y3 y4 y5 y6 y7 y8 y9 y10 y11 y12 y13 y14 y15 y16 y17 y18 y19 y20 y21 y22 y23 y24 y25 y26 y27 y28
      clear hn hd
      subst hA
      obtain ⟨hC1, hC2⟩ := hC
      have hfin := H2.out.wset hC1 (vW' := .slice (some ⟨gq, 0, none⟩) (s.W.length + 1) cq) (W' := s.W ++ [y]) OQ (fun g hg => by cases hg; exact HQ9)
      have n1 : ¬ (Value.slice a s.W.length c).ownBlock = some b := fun e => (own_blk H2.out.wt e).ne H2.out.bt (by decide) rfl
      have hp5 : V5.heap[b]? = some (.cells #[.int .i64 s.win, .int .i64 s.tries, .int .i64 s.nx, .slice a s.W.length c, vO] 63) := (hC1.block b (H2.out.lt b H2.out.fb) n1).trans H2.out.hp
      have c3 : V5.cell? ⟨b, 3, none⟩ = some (.slice a s.W.length c) := by simp [World.cell?, hp5]
      have cf : ∀ j, V5.frozen? ⟨b, j, none⟩ = false := fun j => by simp [World.frozen?, hp5]
      have hcg : Chg F w (V5.setCell ⟨b, 3, none⟩ (.slice (some ⟨gq, 0, none⟩) (s.W.length + 1) cq)) := ((chg0 HB2.out).trans (hC1.mono (fun x _ hx => H2.out.wf x hx)) (fun _ _ hx => hx)).setCell (.inl H2.out.fb) _
      have HFIN := Lib.hid hfin
      have HCG := Lib.hid hcg
      have HSZ : Hid (w.heap.size ≤ W2.heap.size) := HB2.out.size
      clear hC1 hC2 hfin hp5 hcg n1 kc HROW HQ9 OQ
      go_wp2_with fail
      go_ret
      rw [e1.out]
      exact ⟨rfl, HCG.out, _, _, HFIN.out, fun k hk => hk.imp (fun h => h) (fun h => Nat.le_trans HSZ.out h.1)⟩
  · have e0 : obc y.k y.x y.n y.t y.o y.r y.d y.i y.p y.q y.s y.m = 1 := obc_no hok
    have e1 : Hid (pushR s y = (1, s)) := pushR_no hok
    rw [e0]
    clear hok e0
    go_wp2_with fail
    go_ret
    rw [e1.out]
    exact ⟨rfl, chg0 HB2.out, F, _, H2.out, fun k hk => .inl hk⟩
end Go.Proofs.Yticjeknadddhoaa
