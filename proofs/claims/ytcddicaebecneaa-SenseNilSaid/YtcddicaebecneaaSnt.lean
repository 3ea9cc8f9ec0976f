/- Rows of events; what a sensor of the reference's is in memory; what a call may turn. No conditions. -/
import Derived.Test.YtcddicaebecneaaFrm
import Derived.Test.YtcddicaebecneaaZin
import Derived.Test.YtcddicaebecneaaGsp
import Derived.Test.YtcddicaebecneaaOth
import Derived.Test.YtcddicaebecneaaWit
import Derived.Test.YtcddicaebecneaaBes
import Derived.Test.YtcddicaebecneaaBer
import Derived.Test.YtcddicaebecneaaLfx
namespace Go.Proofs.Ytcddicaebecneaa
set_option maxRecDepth 100000
open Go.RowKit Go.WideShapes Go.ChangeShapes

/-- An event: its kind, its Id, its Epoch. What is remembered of a node: whether it is, its Epoch, when it was heard, whether its link is there. -/
abbrev Ev := Int × Int × Int
abbrev Hd := Bool × Int × Int × Bool
def zEv : Ev := (0, 0, 0)
def zHd : Hd := (false, 0, 0, false)
theorem underRV3 : Try.prog.underlying 37 = some (.slice 49) := by kernel_rfl
theorem infoRV3 : (Try.prog.info? 49).map (fun i => (i.zero, i.size, i.bytes)) = some (some (.agg #[.int .i64 0, .int .i64 0, .int .i64 0]), 3, 24) := by kernel_rfl
theorem cellsRV3 : Try.prog.cellsOf 49 = 3 := by kernel_rfl
def evc (y : Ev) : List Value := [.int .i64 y.1, .int .i64 y.2.1, .int .i64 y.2.2]
theorem evc_ones : ∀ y, ∀ u ∈ evc y, u.oneCell' = true := by
  intro y u hu
  simp only [evc, List.mem_cons, List.not_mem_nil, or_false] at hu
  rcases hu with rfl | rfl | rfl <;> rfl
noncomputable def RV3 : RowT where
  α := Ev
  d := zEv
  cl := evc
  K := 3
  T := 49
  SL := 37
  zero := .agg #[.int .i64 0, .int .i64 0, .int .i64 0]
  bytes := 24
  hcl := fun _ => rfl
  hK := by decide
  hone := evc_ones
  hSL := underRV3
  hinfo := infoRV3
  hz := rfl
  hb := by decide
  hc := cellsRV3

/-- A slice that reads as events; a row of events of one's own. -/
def Evs (w : World) (v : Value) (l : List Ev) : Prop := Gs RV3 w v l
def OwV3 (w : World) (S : Nat) (v : Value) (l : List Ev) : Prop := w.ownsRow S RV3.T RV3.K v l.length (gflat RV3 l)
def C3 (w : World) (b o : Nat) (y : Ev) : Prop := w.cell? ⟨b, o, none⟩ = some (.int .i64 y.1) ∧ w.cell? ⟨b, o + 1, none⟩ = some (.int .i64 y.2.1) ∧ w.cell? ⟨b, o + 2, none⟩ = some (.int .i64 y.2.2)
theorem gc_c3 {w : World} {b o : Nat} {y : Ev} (h : GC RV3 w b o y) : C3 w b o y := ⟨h 0 (show 0 < 3 by decide), h 1 (show 1 < 3 by decide), h 2 (show 2 < 3 by decide)⟩
theorem Evs.at {w : World} {a : Option Addr} {c : Nat} {l : List Ev} (h : Evs w (.slice a l.length c) l) {i : Nat} (hi : i < l.length) : ∃ b off, a = some ⟨b, off, none⟩ ∧ b < w.heap.size ∧ C3 w b (off + i * 3) (l.getD i zEv) := by
  obtain ⟨b, off, h1, h2, h3⟩ := Gs.at (R := RV3) h hi
  exact ⟨b, off, h1, h2, gc_c3 h3⟩
theorem Evs.all {w : World} {b off c : Nat} {l : List Ev} (h : Evs w (.slice (some ⟨b, off, none⟩) l.length c) l) {i : Nat} (hi : i < l.length) : b < w.heap.size ∧ C3 w b (off + i * 3) (l.getD i zEv) :=
  ⟨(Gs.all (R := RV3) h hi).1, gc_c3 (Gs.all (R := RV3) h hi).2⟩
theorem Evs.form {w : World} {v : Value} {l : List Ev} (h : Evs w v l) : ∃ a c, v = .slice a l.length c := Gs.form (R := RV3) h
theorem Evs.below {w w' : World} {v : Value} {l : List Ev} (h : Evs w v l) (hb : Below w.heap.size w w') : Evs w' v l := Gs.below (R := RV3) h hb
theorem Evs_nil (w : World) : Evs w (.slice none 0 0) [] := Gs_nil (R := RV3) w
theorem OwV3.ev {w : World} {S : Nat} {v : Value} {l : List Ev} (h : OwV3 w S v l) : Evs w v l := (Gs_of_own (R := RV3) h).1
theorem OwV3_nil (w : World) (S : Nat) : OwV3 w S (.slice none 0 0) [] := gown_nil (R := RV3) w S
theorem OwV3.below {w w' : World} {S : Nat} {v : Value} {l : List Ev} (h : OwV3 w S v l) (hb : Below w.heap.size w w') : OwV3 w' S v l := gown_below h hb
theorem OwV3.mono {w : World} {S S' : Nat} {v : Value} {l : List Ev} (h : OwV3 w S v l) (hS : S' ≤ S) : OwV3 w S' v l := gown_mono h hS
theorem OwV3.form {w : World} {S : Nat} {v : Value} {l : List Ev} (h : OwV3 w S v l) : ∃ a c, v = .slice a l.length c := gown_form h
theorem eapp3_any {ops : Array Oper} {rest : List Oper} {o : Oper} {a : Act} {Q : Exit → Act → World → Prop} {W : World} (hgd : o.guard = none) (s x : Operand)
    (ho : o.op = .call { callee := .builtin .append, args := #[s, x], argTypes := #[37, 37] }) (w : World) (y : Ev) (hW : W = w.alloc (.cells #[.int .i64 y.1, .int .i64 y.2.1, .int .i64 y.2.2] 49)) (S : Nat) (v : Value) (xs : List Ev)
    (hs : a.eval s = v) (hx : a.eval x = .slice (some ⟨w.heap.size, 0, none⟩) 1 1) (hown : OwV3 w S v xs) (hl : xs.length ≤ 3000) (hS : S ≤ w.heap.size)
    (h : ∀ g cap w', OwV3 w' S (.slice (some ⟨g, 0, none⟩) (xs.length + 1) cap) (xs ++ [y]) → Below S w w' → wpList Try.prog ops Q rest (a.put o.dst (.slice (some ⟨g, 0, none⟩) (xs.length + 1) cap)) w') : wpList Try.prog ops Q (o :: rest) a W :=
  gapp1_any (R := RV3) hgd s x ho w y 49 hW S v xs hs hx hown hl hS h
/-- Echoes of one's own. -/
def OwC (w : World) (S : Nat) (v : Value) (l : List (Int × Int)) : Prop := w.ownsRow S RE.T RE.K v l.length (gflat RE l)
theorem OwC.es {w : World} {S : Nat} {v : Value} {l : List (Int × Int)} (h : OwC w S v l) : Es w v l := (Gs_of_own (R := RE) h).1
theorem OwC_nil (w : World) (S : Nat) : OwC w S (.slice none 0 0) [] := gown_nil (R := RE) w S
theorem OwC.below {w w' : World} {S : Nat} {v : Value} {l : List (Int × Int)} (h : OwC w S v l) (hb : Below w.heap.size w w') : OwC w' S v l := gown_below h hb
theorem OwC.form {w : World} {S : Nat} {v : Value} {l : List (Int × Int)} (h : OwC w S v l) : ∃ a c, v = .slice a l.length c := gown_form h
theorem eappc_any {ops : Array Oper} {rest : List Oper} {o : Oper} {a : Act} {Q : Exit → Act → World → Prop} {W : World} (hgd : o.guard = none) (s x : Operand)
    (ho : o.op = .call { callee := .builtin .append, args := #[s, x], argTypes := #[32, 32] }) (w : World) (y : Int × Int) (hW : W = w.alloc (.cells #[.int .i64 y.1, .int .i64 y.2] 51)) (S : Nat) (v : Value) (xs : List (Int × Int))
    (hs : a.eval s = v) (hx : a.eval x = .slice (some ⟨w.heap.size, 0, none⟩) 1 1) (hown : OwC w S v xs) (hl : xs.length ≤ 3000) (hS : S ≤ w.heap.size)
    (h : ∀ g cap w', OwC w' S (.slice (some ⟨g, 0, none⟩) (xs.length + 1) cap) (xs ++ [y]) → Below S w w' → wpList Try.prog ops Q rest (a.put o.dst (.slice (some ⟨g, 0, none⟩) (xs.length + 1) cap)) w') : wpList Try.prog ops Q (o :: rest) a W :=
  gapp1_any (R := RE) hgd s x ho w y 51 hW S v xs hs hx hown hl hS h
/-- Of the blocks that there were only those of F have turned. -/
structure Chg (F : Nat → Prop) (w w' : World) : Prop where
  os : w'.os = w.os
  tape : w'.tape = w.tape
  output : w'.output = w.output
  size : w.heap.size ≤ w'.heap.size
  block : ∀ k, k < w.heap.size → ¬ F k → w'.heap[k]? = w.heap[k]?
theorem Chg.refl (F : Nat → Prop) (w : World) : Chg F w w := ⟨rfl, rfl, rfl, Nat.le_refl _, fun _ _ _ => rfl⟩
theorem Chg.trans {F G : Nat → Prop} {a b c : World} (h : Chg F a b) (k : Chg G b c) (hG : ∀ x, x < a.heap.size → G x → F x) : Chg F a c :=
  ⟨k.os.trans h.os, k.tape.trans h.tape, k.output.trans h.output, Nat.le_trans h.size k.size, fun x hx hn => (k.block x (Nat.lt_of_lt_of_le hx h.size) (fun g => hn (hG x hx g))).trans (h.block x hx hn)⟩
theorem Chg.mono {F G : Nat → Prop} {a b : World} (h : Chg F a b) (hG : ∀ x, x < a.heap.size → F x → G x) : Chg G a b := ⟨h.os, h.tape, h.output, h.size, fun x hx hn => h.block x hx (fun f => hn (hG x hx f))⟩
theorem Chg.drew {F : Nat → Prop} {a w : World} (h : Chg F a w) : Chg F a w.drew := ⟨h.os, h.tape, h.output, h.size, h.block⟩
theorem Chg.alloc {F : Nat → Prop} {a w : World} (h : Chg F a w) (o : Obj) : Chg F a (w.alloc o) :=
  h.trans (G := fun _ => False) ⟨rfl, rfl, rfl, by simp, fun k hk _ => Below.heap_alloc _ _ _ hk⟩ (fun _ _ h => h.elim)
theorem Chg.setCell {F : Nat → Prop} {a w : World} (h : Chg F a w) {p : Addr} (hp : F p.block ∨ a.heap.size ≤ p.block) (u : Value) : Chg F a (w.setCell p u) :=
  h.trans (G := fun k => k = p.block) ⟨rfl, rfl, rfl, by simp [World.setCell], fun k _ hk => Below.heap_setCell _ _ _ _ hk⟩ (fun x hx e => hp.elim (fun f => by rw [e]; exact f) (fun g => absurd hx (by rw [e]; omega)))
theorem Chg.grown {F : Nat → Prop} {a w w' : World} {row : Option Nat} (h : Chg F a w) (hg : w.grownBy w' row) (hr : ∀ k, row = some k → F k ∨ a.heap.size ≤ k) : Chg F a w' :=
  h.trans (G := fun k => row = some k) ⟨hg.os, hg.tape, hg.output, hg.size, fun k hk hn => hg.block k hk (fun e => hn e.symm)⟩ (fun x hx e => (hr x e).elim (fun f => f) (fun g => absurd hx (by omega)))
theorem chg_of {B : Nat} {w w' : World} (h : Below B w w') : Chg (fun k => B ≤ k) w w' := ⟨h.os, h.tape, h.output, h.size, fun k _ hn => h.block k (by omega)⟩
theorem chg0 {F : Nat → Prop} {w w' : World} (h : Below w.heap.size w w') : Chg F w w' := ⟨h.os, h.tape, h.output, h.size, fun k hk _ => h.block k hk⟩
theorem Chg.below {F : Nat → Prop} {B : Nat} {w w' : World} (h : Chg F w w') (hB : B ≤ w.heap.size) (hF : ∀ k, F k → B ≤ k) : Below B w w' :=
  ⟨h.os, h.tape, h.output, h.size, fun k hk => h.block k (by omega) (fun f => by have := hF k f; omega)⟩
theorem Chg.cell {F : Nat → Prop} {w w' : World} (h : Chg F w w') {b j : Nat} (hb : b < w.heap.size) (hn : ¬ F b) : w'.cell? ⟨b, j, none⟩ = w.cell? ⟨b, j, none⟩ := World.cell?_of_block (h.block b hb hn)
theorem Chg.frozen {F : Nat → Prop} {w w' : World} (h : Chg F w w') {b j : Nat} (hb : b < w.heap.size) (hn : ¬ F b) : w'.frozen? ⟨b, j, none⟩ = w.frozen? ⟨b, j, none⟩ := by
  have := h.block b hb hn
  simp only [World.frozen?, this]
theorem Evs.chg {F : Nat → Prop} {w w' : World} {v : Value} {l : List Ev} (h : Evs w v l) (hc : Chg F w w') (hv : ∀ a n c, v = .slice (some a) n c → ¬ F a.block) : Evs w' v l := by
  rcases h with h | ⟨b, off, cap, rfl, h2, h3, h4⟩
  · exact .inl h
  · exact .inr ⟨b, off, cap, rfl, h2, Nat.lt_of_lt_of_le h3 hc.size, fun i hi j hj => (hc.cell h3 (hv _ _ _ rfl)).trans (h4 i hi j hj)⟩

/-- A sensor: its id, its epoch, its hold, when it was called last, what it remembers by ids. -/
structure Sn where
  id : Int
  ep : Int
  hold : Int
  now : Int
  L : List Hd
def C4 (w : World) (b o : Nat) (y : Hd) : Prop := w.cell? ⟨b, o, none⟩ = some (.bool y.1) ∧ w.cell? ⟨b, o + 1, none⟩ = some (.int .i64 y.2.1) ∧ w.cell? ⟨b, o + 2, none⟩ = some (.int .i64 y.2.2.1) ∧ w.cell? ⟨b, o + 3, none⟩ = some (.bool y.2.2.2)
theorem C4.chg {F : Nat → Prop} {w w' : World} {b o : Nat} {y : Hd} (h : C4 w b o y) (hc : Chg F w w') (hn : ¬ F b) : C4 w' b o y := by
  have hb := World.block_lt_of_cell? w _ h.1
  exact ⟨(hc.cell hb hn).trans h.1, (hc.cell hb hn).trans h.2.1, (hc.cell hb hn).trans h.2.2.1, (hc.cell hb hn).trans h.2.2.2⟩
/-- The five cells of a sensor of the reference's, whose row lies in block g. -/
def C5 (w : World) (b g : Nat) (s : Sn) : Prop := w.cell? ⟨b, 0, none⟩ = some (.int .i64 s.id) ∧ w.cell? ⟨b, 1, none⟩ = some (.int .i64 s.ep) ∧ w.cell? ⟨b, 2, none⟩ = some (.int .i64 s.hold) ∧ w.cell? ⟨b, 3, none⟩ = some (.int .i64 s.now) ∧ w.cell? ⟨b, 4, none⟩ = some (.slice (some ⟨g, 0, none⟩) 64 64)
/-- A sensor of the reference's in memory. -/
structure XS (w : World) (b g : Nat) (s : Sn) : Prop where
  ne : b ≠ g
  cells : C5 w b g s
  fz : ∀ k, w.frozen? ⟨b, k, none⟩ = false
  len : s.L.length = 64
  row : ∀ i, i < 64 → C4 w g (i * 4) (s.L.getD i zHd)
  gz : ∀ k, w.frozen? ⟨g, k, none⟩ = false
theorem XS.bl {w : World} {b g : Nat} {s : Sn} (h : XS w b g s) : b < w.heap.size := World.block_lt_of_cell? w _ h.cells.1
theorem XS.gl {w : World} {b g : Nat} {s : Sn} (h : XS w b g s) : g < w.heap.size := World.block_lt_of_cell? w _ (h.row 0 (by decide)).1
theorem XS.chg {F : Nat → Prop} {w w' : World} {b g : Nat} {s : Sn} (h : XS w b g s) (hc : Chg F w w') (hb : ¬ F b) (hg : ¬ F g) : XS w' b g s where
  ne := h.ne
  cells := by
    obtain ⟨h0, h1, h2, h3, h4⟩ := h.cells
    exact ⟨(hc.cell h.bl hb).trans h0, (hc.cell h.bl hb).trans h1, (hc.cell h.bl hb).trans h2, (hc.cell h.bl hb).trans h3, (hc.cell h.bl hb).trans h4⟩
  fz := fun k => (hc.frozen h.bl hb).trans (h.fz k)
  len := h.len
  row := fun i hi => (h.row i hi).chg hc hg
  gz := fun k => (hc.frozen h.gl hg).trans (h.gz k)
theorem XS.below {w w' : World} {b g : Nat} {s : Sn} (h : XS w b g s) (hb : Below w.heap.size w w') : XS w' b g s := h.chg (F := fun _ => False) (chg0 hb) (fun h => h) (fun h => h)
/-- What a sensor remembers at a place turns. -/
theorem c4_set {w : World} {b o : Nat} {y : Hd} (h : C4 w b o y) (z : Hd) : C4 ((((w.setCell ⟨b, o, none⟩ (.bool z.1)).setCell ⟨b, o + 1, none⟩ (.int .i64 z.2.1)).setCell ⟨b, o + 2, none⟩ (.int .i64 z.2.2.1)).setCell ⟨b, o + 3, none⟩ (.bool z.2.2.2)) b o z := by
  obtain ⟨h0, h1, h2, h3⟩ := h
  refine ⟨?_, ?_, ?_, ?_⟩ <;> simp [go_sem, h0, h1, h2, h3]
theorem c4_off1 {w : World} {b o o' : Nat} {y : Hd} {u : Value} (h : C4 w b o y) (hn : o' < o ∨ o + 4 ≤ o') : C4 (w.setCell ⟨b, o', none⟩ u) b o y := by
  obtain ⟨h0, h1, h2, h3⟩ := h
  have e : ∀ j, j < 4 → (w.setCell ⟨b, o', none⟩ u).cell? ⟨b, o + j, none⟩ = w.cell? ⟨b, o + j, none⟩ := fun j hj => World.cell?_setCell_other _ _ _ _ (by intro e; simp only [Addr.mk.injEq] at e; omega)
  exact ⟨(e 0 (by omega)).trans h0, (e 1 (by omega)).trans h1, (e 2 (by omega)).trans h2, (e 3 (by omega)).trans h3⟩
def chain4 (w : World) (b o : Nat) (z : Hd) : World := (((w.setCell ⟨b, o, none⟩ (.bool z.1)).setCell ⟨b, o + 1, none⟩ (.int .i64 z.2.1)).setCell ⟨b, o + 2, none⟩ (.int .i64 z.2.2.1)).setCell ⟨b, o + 3, none⟩ (.bool z.2.2.2)
theorem chain4_chg (w : World) (b o : Nat) (z : Hd) : Chg (fun k => k = b) w (chain4 w b o z) :=
  ((((Chg.refl (fun k => k = b) w).setCell (p := ⟨b, o, none⟩) (.inl rfl) _).setCell (p := ⟨b, o + 1, none⟩) (.inl rfl) _).setCell (p := ⟨b, o + 2, none⟩) (.inl rfl) _).setCell (p := ⟨b, o + 3, none⟩) (.inl rfl) _
theorem XS.put {w : World} {b g : Nat} {s : Sn} (h : XS w b g s) {i : Nat} (hi : i < 64) (z : Hd) : XS (chain4 w g (i * 4) z) b g { s with L := s.L.set i z } := by
  have hc := chain4_chg w g (i * 4) z
  have hb : b < w.heap.size := h.bl
  have hne : ¬ b = g := h.ne
  refine ⟨h.ne, ?_, fun k => (hc.frozen hb hne).trans (h.fz k), by show (s.L.set i z).length = 64; rw [List.length_set]; exact h.len, fun j hj => ?_, fun k => ?_⟩
  · obtain ⟨h0, h1, h2, h3, h4⟩ := h.cells
    exact ⟨(hc.cell hb hne).trans h0, (hc.cell hb hne).trans h1, (hc.cell hb hne).trans h2, (hc.cell hb hne).trans h3, (hc.cell hb hne).trans h4⟩
  · have hlen := h.len
    by_cases e : i = j
    · subst e
      have e2 : (s.L.set i z).getD i zHd = z := by simp [List.getD, hlen, hi]
      show C4 _ _ _ ((s.L.set i z).getD i zHd)
      rw [e2]
      exact c4_set (h.row i hi) z
    · have e2 : (s.L.set i z).getD j zHd = s.L.getD j zHd := by simp [List.getD, e]
      show C4 _ _ _ ((s.L.set i z).getD j zHd)
      rw [e2]
      unfold chain4
      exact c4_off1 (c4_off1 (c4_off1 (c4_off1 (h.row j hj) (by omega)) (by omega)) (by omega)) (by omega)
  · unfold chain4
    simpa using h.gz k
/-- When it was called last turns. -/
theorem XS.tick {w : World} {b g : Nat} {s : Sn} (h : XS w b g s) (n : Int) : XS (w.setCell ⟨b, 3, none⟩ (.int .i64 n)) b g { s with now := n } := by
  have hc : Chg (fun k => k = b) w (w.setCell ⟨b, 3, none⟩ (.int .i64 n)) := (Chg.refl (fun k => k = b) w).setCell (p := ⟨b, 3, none⟩) (.inl rfl) _
  refine ⟨h.ne, ?_, fun k => by simpa using h.fz k, h.len, fun i hi => (h.row i hi).chg hc (fun e => h.ne e.symm), fun k => by simpa using h.gz k⟩
  obtain ⟨h0, h1, h2, h3, h4⟩ := h.cells
  refine ⟨?_, ?_, ?_, ?_, ?_⟩ <;> simp [go_sem, h0, h1, h2, h3, h4]
end Go.Proofs.Ytcddicaebecneaa
