/- Rows of timers; what a call may turn; the reference's wheel in memory. No conditions. -/
import Derived.Test.YtmgipedpggpkoaaFrm
import Derived.Test.YtmgipedpggpkoaaZin
import Derived.Test.YtmgipedpggpkoaaGsp
import Derived.Test.YtmgipedpggpkoaaOth
import Derived.Test.YtmgipedpggpkoaaWit
namespace Go.Proofs.Ytmgipedpggpkoaa
set_option maxRecDepth 100000
open Go.RowKit Go.WideShapes Go.ChangeShapes

/-- A timer: its time, its key. -/
abbrev Tm := Int × Int
theorem underMS : Try.prog.underlying 26 = some (.slice 32) := by kernel_rfl
theorem infoTM : (Try.prog.info? 32).map (fun i => (i.zero, i.size, i.bytes)) = some (some (.agg #[.int .i64 0, .int .i64 0]), 2, 16) := by kernel_rfl
theorem cellsTM : Try.prog.cellsOf 32 = 2 := by kernel_rfl
def tmc (y : Tm) : List Value := [.int .i64 y.1, .int .i64 y.2]
def zTm : Tm := (0, 0)
theorem tmc_ones : ∀ y, ∀ u ∈ tmc y, u.oneCell' = true := by
  intro y u hu
  simp only [tmc, List.mem_cons, List.not_mem_nil, or_false] at hu
  rcases hu with rfl | rfl <;> rfl
noncomputable def RM : RowT where
  α := Tm
  d := zTm
  cl := tmc
  K := 2
  T := 32
  SL := 26
  zero := .agg #[.int .i64 0, .int .i64 0]
  bytes := 16
  hcl := fun _ => rfl
  hK := by decide
  hone := tmc_ones
  hSL := underMS
  hinfo := infoTM
  hz := rfl
  hb := by decide
  hc := cellsTM
/-- A packet as a value. -/
abbrev tmV (y : Tm) : Value := .agg #[.int .i64 y.1, .int .i64 y.2]
/-- A slice that reads as packets; a row of packets of one's own. -/
def Ms (w : World) (v : Value) (l : List Tm) : Prop := Gs RM w v l
def OwM (w : World) (S : Nat) (v : Value) (l : List Tm) : Prop := w.ownsRow S RM.T RM.K v l.length (gflat RM l)
/-- Five cells of a packet. -/
def C2 (w : World) (b o : Nat) (y : Tm) : Prop := w.cell? ⟨b, o, none⟩ = some (.int .i64 y.1) ∧ w.cell? ⟨b, o + 1, none⟩ = some (.int .i64 y.2)
theorem gc_two {w : World} {b o : Nat} {y : Tm} (h : GC RM w b o y) : C2 w b o y := by
  have h0 := h 0 (show 0 < 2 by decide)
  have h1 := h 1 (show 1 < 2 by decide)
  exact ⟨h0, h1⟩
theorem two_gc {w : World} {b o : Nat} {y : Tm} (h : C2 w b o y) : GC RM w b o y := by
  intro j hj
  have hj' : j < 2 := hj
  obtain ⟨h0, h1⟩ := h
  match j, hj' with
  | 0, _ => exact h0
  | 1, _ => exact h1
theorem Ms.at {w : World} {a : Option Addr} {c : Nat} {l : List Tm} (h : Ms w (.slice a l.length c) l) {i : Nat} (hi : i < l.length) : ∃ b off, a = some ⟨b, off, none⟩ ∧ b < w.heap.size ∧ C2 w b (off + i * 2) (l.getD i zTm) := by
  obtain ⟨b, off, h1, h2, h3⟩ := Gs.at (R := RM) h hi
  exact ⟨b, off, h1, h2, gc_two h3⟩
theorem Ms.mk {w : World} {b off c n : Nat} {l : List Tm} (hn : l.length = n) (hc : n ≤ c) (hb : b < w.heap.size) (h : ∀ i, i < n → C2 w b (off + i * 2) (l.getD i zTm)) : Ms w (.slice (some ⟨b, off, none⟩) n c) l := by
  subst hn
  exact .inr ⟨b, off, c, rfl, hc, hb, fun i hi => two_gc (h i hi)⟩
theorem Ms.opn {w : World} {b off c : Nat} {l : List Tm} (h : Ms w (.slice (some ⟨b, off, none⟩) l.length c) l) (h0 : 0 < l.length) : l.length ≤ c ∧ b < w.heap.size ∧ ∀ i, i < l.length → C2 w b (off + i * 2) (l.getD i zTm) := by
  rcases h with ⟨a, cap, h1, _, rfl⟩ | ⟨b', off', cap, h1, h2, h3, h4⟩
  · exact absurd h0 (Nat.lt_irrefl _)
  · simp only [Value.slice.injEq, Option.some.injEq, Addr.mk.injEq, and_true] at h1
    obtain ⟨⟨rfl, rfl⟩, _, rfl⟩ := h1
    exact ⟨h2, h3, fun i hi => gc_two (h4 i hi)⟩
theorem Ms.form {w : World} {v : Value} {l : List Tm} (h : Ms w v l) : ∃ a c, v = .slice a l.length c := Gs.form (R := RM) h
theorem Ms.below {w w' : World} {v : Value} {l : List Tm} (h : Ms w v l) (hb : Below w.heap.size w w') : Ms w' v l := Gs.below (R := RM) h hb
theorem Ms_nil (w : World) : Ms w (.slice none 0 0) [] := Gs_nil (R := RM) w
theorem OwM.ms {w : World} {S : Nat} {v : Value} {l : List Tm} (h : OwM w S v l) : Ms w v l := (Gs_of_own (R := RM) h).1
theorem OwM_nil (w : World) (S : Nat) : OwM w S (.slice none 0 0) [] := gown_nil (R := RM) w S
theorem OwM.below {w w' : World} {S : Nat} {v : Value} {l : List Tm} (h : OwM w S v l) (hb : Below w.heap.size w w') : OwM w' S v l := gown_below h hb
theorem OwM.mono {w : World} {S S' : Nat} {v : Value} {l : List Tm} (h : OwM w S v l) (hS : S' ≤ S) : OwM w S' v l := gown_mono h hS
theorem OwM.form {w : World} {S : Nat} {v : Value} {l : List Tm} (h : OwM w S v l) : ∃ a c, v = .slice a l.length c := gown_form h

/-- Of the blocks that there were only those of F have turned. -/
structure Chg (F : Nat → Prop) (w w' : World) : Prop where
  os : w'.os = w.os
  tape : w'.tape = w.tape
  output : w'.output = w.output
  size : w.heap.size ≤ w'.heap.size
  block : ∀ k, k < w.heap.size → ¬ F k → w'.heap[k]? = w.heap[k]?
theorem Chg.refl (F : Nat → Prop) (w : World) : Chg F w w := ⟨rfl, rfl, rfl, Nat.le_refl _, fun _ _ _ => rfl⟩
theorem Chg.trans {F G : Nat → Prop} {a b c : World} (h : Chg F a b) (k : Chg G b c) (hG : ∀ x, x < a.heap.size → G x → F x) : Chg F a c :=
  ⟨k.os.trans h.os, k.tape.trans h.tape, k.output.trans h.output, Nat.le_trans h.size k.size, fun x hx hn => (k.block x (Nat.lt_of_lt_of_le hx h.size) (fun g => hn (hG x hx g))).trans (h.block x hx hn)⟩
theorem Chg.mono {F G : Nat → Prop} {a b : World} (h : Chg F a b) (hG : ∀ x, x < a.heap.size → F x → G x) : Chg G a b := ⟨h.os, h.tape, h.output, h.size, fun x hx hn => h.block x hx (fun f => hn (hG x hx f))⟩
theorem Chg.drew {F : Nat → Prop} {a w : World} (h : Chg F a w) : Chg F a w.drew := ⟨h.os, h.tape, h.output, h.size, h.block⟩
theorem Chg.alloc {F : Nat → Prop} {a w : World} (h : Chg F a w) (o : Obj) : Chg F a (w.alloc o) :=
  h.trans (G := fun _ => False) ⟨rfl, rfl, rfl, by simp, fun k hk _ => Below.heap_alloc _ _ _ hk⟩ (fun _ _ h => h.elim)
theorem Chg.setCell {F : Nat → Prop} {a w : World} (h : Chg F a w) {p : Addr} (hp : F p.block ∨ a.heap.size ≤ p.block) (u : Value) : Chg F a (w.setCell p u) :=
  h.trans (G := fun k => k = p.block) ⟨rfl, rfl, rfl, by simp [World.setCell], fun k _ hk => Below.heap_setCell _ _ _ _ hk⟩ (fun x hx e => hp.elim (fun f => by rw [e]; exact f) (fun g => absurd hx (by rw [e]; omega)))
theorem Chg.grown {F : Nat → Prop} {a w w' : World} {row : Option Nat} (h : Chg F a w) (hg : w.grownBy w' row) (hr : ∀ k, row = some k → F k ∨ a.heap.size ≤ k) : Chg F a w' :=
  h.trans (G := fun k => row = some k) ⟨hg.os, hg.tape, hg.output, hg.size, fun k hk hn => hg.block k hk (fun e => hn e.symm)⟩ (fun x hx e => (hr x e).elim (fun f => f) (fun g => absurd hx (by omega)))
theorem chg_of {B : Nat} {w w' : World} (h : Below B w w') : Chg (fun k => B ≤ k) w w' := ⟨h.os, h.tape, h.output, h.size, fun k _ hn => h.block k (by omega)⟩
theorem chg0 {F : Nat → Prop} {w w' : World} (h : Below w.heap.size w w') : Chg F w w' := ⟨h.os, h.tape, h.output, h.size, fun k hk _ => h.block k hk⟩
theorem Chg.below {F : Nat → Prop} {B : Nat} {w w' : World} (h : Chg F w w') (hB : B ≤ w.heap.size) (hF : ∀ k, F k → B ≤ k) : Below B w w' :=
  ⟨h.os, h.tape, h.output, h.size, fun k hk => h.block k (by omega) (fun f => by have := hF k f; omega)⟩
theorem Chg.cell {F : Nat → Prop} {w w' : World} (h : Chg F w w') {b j : Nat} (hb : b < w.heap.size) (hn : ¬ F b) : w'.cell? ⟨b, j, none⟩ = w.cell? ⟨b, j, none⟩ := World.cell?_of_block (h.block b hb hn)
theorem Chg.frozen {F : Nat → Prop} {w w' : World} (h : Chg F w w') {b j : Nat} (hb : b < w.heap.size) (hn : ¬ F b) : w'.frozen? ⟨b, j, none⟩ = w.frozen? ⟨b, j, none⟩ := by
  have := h.block b hb hn
  simp only [World.frozen?, this]
theorem OwM.chg {F : Nat → Prop} {w w' : World} {S : Nat} {v : Value} {l : List Tm} (h : OwM w S v l) (hc : Chg F w w') (hn : ∀ k, v.ownBlock = some k → ¬ F k) : OwM w' S v l := by
  refine ⟨h.1, ?_⟩
  rcases h.2 with h2 | ⟨g, cap, cur, rfl, h3, hg, rest⟩
  · exact .inl h2
  · exact .inr ⟨g, cap, cur, rfl, h3, (hc.block g (Array.getElem?_eq_some_iff.1 hg).1 (hn g rfl)).trans hg, rest⟩
theorem Ms.chg {F : Nat → Prop} {w w' : World} {v : Value} {l : List Tm} (h : Ms w v l) (hc : Chg F w w') (hv : ∀ a n c, v = .slice (some a) n c → ¬ F a.block) : Ms w' v l := by
  rcases h with h | ⟨b, off, cap, rfl, h2, h3, h4⟩
  · exact .inl h
  · exact .inr ⟨b, off, cap, rfl, h2, Nat.lt_of_lt_of_le h3 hc.size, fun i hi j hj => (hc.cell h3 (hv _ _ _ rfl)).trans (h4 i hi j hj)⟩
/-- A whole readable slice behind a row of one's own. -/
theorem run_gappg (w : World) (ty : TypeId) (S : Nat) (v : Value) (xs : List Tm) (hown : OwM w S v xs) (u : Value) (ys : List Tm) (hu : Ms w u ys) (hl : xs.length + ys.length ≤ 3000) (hS : S ≤ w.heap.size) :
    ∃ r w', (Builtin.append_ #[26, 26] ty #[v, u]).run Try.prog w = .ok r w' ∧ OwM w' S r (xs ++ ys) ∧ w.grownBy w' v.ownBlock ∧ (∀ g, r.ownBlock = some g → v.ownBlock = some g ∨ w.heap.size ≤ g) := by
  obtain ⟨i0, hi, hz0, hz1, hz2⟩ := info_parts RM.hinfo
  have e : gflat RM (xs ++ ys) = gflat RM xs ++ gflat RM ys := gflat_app RM xs ys
  have e2 : (xs ++ ys).length = xs.length + ys.length := by simp
  have hfy : (gflat RM ys).length = ys.length * 2 := gflat_len RM ys
  have hone := gflat_ones RM ys
  have hby : (xs.length + ys.length) * 16 ≤ 140737488355328 := Nat.le_trans (Nat.mul_le_mul_right 16 hl) (by decide)
  have go : ∀ (a : Addr) (c : Nat), (∀ j q, (gflat RM ys)[j]? = some q → w.cell? (a.add j) = some q) →
      ∃ r w', (Builtin.append_ #[26, 26] ty #[v, .slice (some a) ys.length c]).run Try.prog w = .ok r w' ∧ OwM w' S r (xs ++ ys) ∧ w.grownBy w' v.ownBlock ∧ (∀ g, r.ownBlock = some g → v.ownBlock = some g ∨ w.heap.size ≤ g) := by
    intro a c hnews
    obtain ⟨v', w', hr, h2, h3, _, h5⟩ := run_append_own_at (P := Try.prog) w S 26 ty 32 i0 RM.zero 2 16 RM.hSL hi hz0 hz1 hz2 RM.hz (by decide) v xs.length (gflat RM xs) hown a ys.length c (gflat RM ys) hfy hnews hone (by unfold maxLen; omega) hby hS
    refine ⟨v', w', hr, ?_, h3, fun g hg => ?_⟩
    · unfold OwM
      rw [e, e2]; exact h2
    · rcases h5 with h | h
      · exact .inl (h ▸ hg)
      · rw [h] at hg
        exact .inr (by cases hg; exact Nat.le_refl _)
  rcases hu with ⟨a, cap, rfl, hc, rfl⟩ | ⟨b, off, cap, rfl, h2, h3, h4⟩
  · cases a with
    | none =>
      obtain rfl := hc rfl
      refine ⟨v, w, run_append_owned_none (P := Try.prog) (w := w) S 26 ty 32 i0 2 RM.hSL hi v xs.length (gflat RM xs) hown, ?_, ⟨rfl, rfl, rfl, Nat.le_refl _, fun _ _ _ => rfl⟩, fun g hg => .inl hg⟩
      exact (congrArg (fun z : List Tm => OwM w S v z) (List.append_nil xs)).mpr hown
    | some a => exact go a cap (fun j q hj => by simp [gflat] at hj)
  · refine go ⟨b, off, none⟩ cap (fun j q hj => ?_)
    have hlt := (List.getElem?_eq_some_iff.1 hj).1
    rw [hfy] at hlt
    have hd : j / 2 < ys.length := by omega
    have h5 := h4 (j / 2) hd (j % 2) (Nat.mod_lt _ (by decide))
    have h6 := gflat_at RM ys (j / 2) (j % 2) hd (Nat.mod_lt _ (by decide))
    have h7 : j / 2 * RM.K + j % 2 = j := by show j / 2 * 2 + j % 2 = j; omega
    rw [h7] at h6
    rw [add_spot', ← hj, h6, ← h5]
    congr 2
    show off + j = off + j / 2 * 2 + j % 2
    omega
/-- The reference's wheel: its timers, in a slice that lies elsewhere. -/
structure XW (w : World) (b : Nat) (v : Value) (l : List Tm) : Prop where
  hp : w.heap[b]? = some (.cells #[v] 28)
  ms : Ms w v l
  ap : ∀ a n c, v = .slice (some a) n c → b < a.block ∧ a.block < w.heap.size
theorem XW.lt {w : World} {b : Nat} {v : Value} {l : List Tm} (h : XW w b v l) : b < w.heap.size := (Array.getElem?_eq_some_iff.1 h.hp).1
theorem XW.cells {w : World} {b : Nat} {v : Value} {l : List Tm} (h : XW w b v l) : w.cell? ⟨b, 0, none⟩ = some v ∧ ∀ j, w.frozen? ⟨b, j, none⟩ = false :=
  ⟨by simp [World.cell?, h.hp], fun j => by simp [World.frozen?, h.hp]⟩
theorem XW.chg {F : Nat → Prop} {w w' : World} {b : Nat} {v : Value} {l : List Tm} (h : XW w b v l) (hc : Chg F w w') (hb : ¬ F b) (hn : ∀ a n c, v = .slice (some a) n c → ¬ F a.block) : XW w' b v l :=
  ⟨(hc.block b h.lt hb).trans h.hp, h.ms.chg hc hn, fun a n c e => ⟨(h.ap a n c e).1, Nat.lt_of_lt_of_le (h.ap a n c e).2 hc.size⟩⟩
theorem XW.below {w w' : World} {b : Nat} {v : Value} {l : List Tm} (h : XW w b v l) (hb : Below w.heap.size w w') : XW w' b v l :=
  h.chg (F := fun _ => False) (chg0 hb) (fun h => h) (fun _ _ _ _ h => h)
theorem XW.set {w : World} {b : Nat} {v u : Value} {l l' : List Tm} (h : XW w b v l) (hm : Ms w u l') (ha : ∀ a n c, u = .slice (some a) n c → b < a.block ∧ a.block < w.heap.size) : XW (w.setCell ⟨b, 0, none⟩ u) b u l' := by
  refine ⟨?_, hm.chg (F := fun k => k = b) (Chg.setCell (F := fun k => k = b) (p := ⟨b, 0, none⟩) (Chg.refl _ w) (.inl rfl) u) (fun a n c e hk => ?_), fun a n c e => ⟨(ha a n c e).1, by simpa [World.setCell] using (ha a n c e).2⟩⟩
  · have hp := h.hp
    simp only [World.setCell, Array.getElem?_modify, hp]
    simp
  · have := (ha a n c e).1
    omega
end Go.Proofs.Ytmgipedpggpkoaa
