/- Texts Sd3, Sd4, Sd6, Sd7, Sd9, Pq1 of this proof, in one. No conditions but on lengths. -/
import Derived.Test.YthnajpckhoomgaaGreatRows
import Derived.Test.YthnajpckhoomgaaGreatU20
import Derived.ArgAppend
import Derived.Below
import Derived.BigQuiet
import Derived.Calls
import Derived.ChangeArms
import Derived.ChangeMade
import Derived.ChangeOld
import Derived.Deep.Cut
import Derived.Deep.CutBlock
import Derived.Deep.QuietTactic
import Derived.Deep.RegionHeld
import Derived.Deep.RegionLaw
import Derived.Deep.RegionWith
import Derived.Deep.Slices
import Derived.Laws.AppendOwnNone
import Derived.Laws.BytesArg
import Derived.Laws.LoneSync
import Derived.Laws.OwnMore
import Derived.Laws.StructEq
import Derived.Lib.Hide
import Derived.Lib.QuietBelow
import Derived.LoopIn
import Derived.LoopTactic
import Derived.Maps.AppendAt
import Derived.OpenShut
import Derived.Orders
import Derived.Outline
import Derived.OwnWalkIn
import Derived.ProofKit
import Derived.RangeFuncBox
import Derived.RangeFuncCalls
import Derived.RangeFuncLeaves
import Derived.RangeFuncNested
import Derived.Shelf.RegionOpen
import Derived.Shelf.RegionOpenPlain
import Derived.ShutString
import Derived.StillTail
import Derived.TacticsInMore
import Derived.WalkKit
import Derived.WalkLawsBesides
import Derived.WalkSpells
import Derived.WideShapes
namespace Go.Proofs.YthnajpckhoomgaaGreat
set_option maxRecDepth 100000
open Go.RowKit

/-- Of the blocks that there were only those of F have turned. -/
structure Chg (F : Nat → Prop) (w w' : World) : Prop where
  os : w'.os = w.os
  tape : w'.tape = w.tape
  output : w'.output = w.output
  size : w.heap.size ≤ w'.heap.size
  block : ∀ k, k < w.heap.size → ¬ F k → w'.heap[k]? = w.heap[k]?
theorem Chg.refl (F : Nat → Prop) (w : World) : Chg F w w := ⟨rfl, rfl, rfl, Nat.le_refl _, fun _ _ _ => rfl⟩
theorem Chg.trans {F G : Nat → Prop} {a b c : World} (h : Chg F a b) (k : Chg G b c) (hG : ∀ x, x < a.heap.size → G x → F x) : Chg F a c :=
  ⟨k.os.trans h.os, k.tape.trans h.tape, k.output.trans h.output, Nat.le_trans h.size k.size, fun x hx hn => (k.block x (Nat.lt_of_lt_of_le hx h.size) (fun g => hn (hG x hx g))).trans (h.block x hx hn)⟩
theorem Chg.mono {F G : Nat → Prop} {a b : World} (h : Chg F a b) (hG : ∀ x, x < a.heap.size → F x → G x) : Chg G a b := ⟨h.os, h.tape, h.output, h.size, fun x hx hn => h.block x hx (fun f => hn (hG x hx f))⟩
theorem Chg.drew {F : Nat → Prop} {a w : World} (h : Chg F a w) : Chg F a w.drew := ⟨h.os, h.tape, h.output, h.size, h.block⟩
theorem Chg.alloc {F : Nat → Prop} {a w : World} (h : Chg F a w) (o : Obj) : Chg F a (w.alloc o) :=
  h.trans (G := fun _ => False) ⟨rfl, rfl, rfl, by simp, fun k hk _ => Below.heap_alloc _ _ _ hk⟩ (fun _ _ h => h.elim)
theorem Chg.setCell {F : Nat → Prop} {a w : World} (h : Chg F a w) {p : Addr} (hp : F p.block ∨ a.heap.size ≤ p.block) (u : Value) : Chg F a (w.setCell p u) :=
  h.trans (G := fun k => k = p.block) ⟨rfl, rfl, rfl, by simp [World.setCell], fun k _ hk => Below.heap_setCell _ _ _ _ hk⟩ (fun x hx e => hp.elim (fun f => by rw [e]; exact f) (fun g => absurd hx (by rw [e]; omega)))
theorem Chg.grown {F : Nat → Prop} {a w w' : World} {row : Option Nat} (h : Chg F a w) (hg : w.grownBy w' row) (hr : ∀ k, row = some k → F k ∨ a.heap.size ≤ k) : Chg F a w' :=
  h.trans (G := fun k => row = some k) ⟨hg.os, hg.tape, hg.output, hg.size, fun k hk hn => hg.block k hk (fun e => hn e.symm)⟩ (fun x hx e => (hr x e).elim (fun f => f) (fun g => absurd hx (by omega)))
theorem chg0 {F : Nat → Prop} {w w' : World} (h : Below w.heap.size w w') : Chg F w w' := ⟨h.os, h.tape, h.output, h.size, fun k hk _ => h.block k hk⟩
theorem Chg.below {F : Nat → Prop} {B : Nat} {w w' : World} (h : Chg F w w') (hB : B ≤ w.heap.size) (hF : ∀ k, F k → B ≤ k) : Below B w w' :=
  ⟨h.os, h.tape, h.output, h.size, fun k hk => h.block k (by omega) (fun f => by have := hF k f; omega)⟩
theorem Chg.cell {F : Nat → Prop} {w w' : World} (h : Chg F w w') {b j : Nat} (hb : b < w.heap.size) (hn : ¬ F b) : w'.cell? ⟨b, j, none⟩ = w.cell? ⟨b, j, none⟩ := World.cell?_of_block (h.block b hb hn)
theorem Chg.frozen {F : Nat → Prop} {w w' : World} (h : Chg F w w') {b j : Nat} (hb : b < w.heap.size) (hn : ¬ F b) : w'.frozen? ⟨b, j, none⟩ = w.frozen? ⟨b, j, none⟩ := by
  have := h.block b hb hn
  simp only [World.frozen?, this]
/-- A slice that reads as objects, off the blocks of F, in a block of objects. -/
def OsO (w : World) (F : Nat → Prop) (v : Value) (ys : List Ob) : Prop := Os w v ys ∧ ∀ a n c, v = .slice (some a) n c → ys ≠ [] → ¬ F a.block ∧ ∃ cur fz, w.heap[a.block]? = some (.cells cur 39 fz)
/-- A slice that reads as batches, off the blocks of F, its objects too. -/
def BtsO (w : World) (F : Nat → Prop) (v : Value) (bs : List Bt) : Prop :=
  (∃ a cap, v = .slice a 0 cap ∧ (a = none → cap = 0) ∧ bs = []) ∨
  ∃ b off cap, v = .slice (some ⟨b, off, none⟩) bs.length cap ∧ bs.length ≤ cap ∧ b < w.heap.size ∧ ¬ F b ∧ ∀ i, i < bs.length → w.cell? ⟨b, off + i * 2, none⟩ = some (.int .i64 (bs.getD i zb).1) ∧ ∃ u, w.cell? ⟨b, off + i * 2 + 1, none⟩ = some u ∧ u.oneCell' = true ∧ OsO w F u (bs.getD i zb).2
theorem Os.chg {F : Nat → Prop} {w w' : World} {v : Value} {ys : List Ob} (h : Os w v ys) (hc : Chg F w w') (hv : ∀ a n c, v = .slice (some a) n c → ys ≠ [] → ¬ F a.block) : Os w' v ys := by
  by_cases hn : ys = []
  · subst hn
    rcases h with h | ⟨b, off, cap, rfl, h2, h3, _⟩
    · exact .inl h
    · exact .inl ⟨some ⟨b, off, none⟩, cap, rfl, (fun e => nomatch e), rfl⟩
  · rcases h with h | ⟨b, off, cap, rfl, h2, h3, h4⟩
    · exact .inl h
    · exact .inr ⟨b, off, cap, rfl, h2, Nat.lt_of_lt_of_le h3 hc.size, fun i hi j hj => (hc.cell h3 (hv _ _ _ rfl hn)).trans (h4 i hi j hj)⟩
theorem some_lt {w : World} {b : Nat} {o : Obj} (h : w.heap[b]? = some o) : b < w.heap.size := (Array.getElem?_eq_some_iff.1 h).1
theorem OsO.chg {F : Nat → Prop} {w w' : World} {v : Value} {ys : List Ob} (h : OsO w F v ys) (hc : Chg F w w') : OsO w' F v ys :=
  ⟨h.1.chg hc (fun a n c e hn => (h.2 a n c e hn).1), fun a n c e hn => by
    obtain ⟨h1, cur, fz, h2⟩ := h.2 a n c e hn
    exact ⟨h1, cur, fz, (hc.block a.block (some_lt h2) h1).trans h2⟩⟩
theorem OsO.to {F F' : Nat → Prop} {w : World} {v : Value} {ys : List Ob} (h : OsO w F v ys) (hF : ∀ k, F' k → F k ∨ w.heap.size ≤ k) : OsO w F' v ys :=
  ⟨h.1, fun a n c e hn => by
    obtain ⟨h1, cur, fz, h2⟩ := h.2 a n c e hn
    refine ⟨fun hf => ?_, cur, fz, h2⟩
    rcases hF _ hf with g | g
    · exact h1 g
    · have := some_lt h2; omega⟩
theorem BtsO.chg {F : Nat → Prop} {w w' : World} {v : Value} {bs : List Bt} (h : BtsO w F v bs) (hc : Chg F w w') : BtsO w' F v bs := by
  rcases h with h | ⟨b, off, cap, h1, h2, h3, h4, h5⟩
  · exact .inl h
  · refine .inr ⟨b, off, cap, h1, h2, Nat.lt_of_lt_of_le h3 hc.size, h4, fun i hi => ?_⟩
    obtain ⟨k1, u, k2, k3, k4⟩ := h5 i hi
    exact ⟨(hc.cell h3 h4).trans k1, u, (hc.cell h3 h4).trans k2, k3, k4.chg hc⟩
theorem BtsO.to {F F' : Nat → Prop} {w : World} {v : Value} {bs : List Bt} (h : BtsO w F v bs) (hF : ∀ k, F' k → F k ∨ w.heap.size ≤ k) : BtsO w F' v bs := by
  rcases h with h | ⟨b, off, cap, h1, h2, h3, h4, h5⟩
  · exact .inl h
  · refine .inr ⟨b, off, cap, h1, h2, h3, fun hf => ?_, fun i hi => ?_⟩
    · rcases hF _ hf with g | g
      · exact h4 g
      · omega
    · obtain ⟨k1, u, k2, k3, k4⟩ := h5 i hi
      exact ⟨k1, u, k2, k3, k4.to hF⟩
theorem OsO.step {F F' : Nat → Prop} {w w' : World} {v : Value} {ys : List Ob} (h : OsO w F v ys) (hc : Chg F w w') (hF : ∀ k, F' k → F k ∨ w.heap.size ≤ k) : OsO w' F' v ys := ⟨(h.chg hc).1, fun a n c e hn => ⟨((h.to hF).2 a n c e hn).1, ((h.chg hc).2 a n c e hn).2⟩⟩
theorem OsO.below {F : Nat → Prop} {w w' : World} {v : Value} {ys : List Ob} (h : OsO w F v ys) (hb : Below w.heap.size w w') : OsO w' F v ys :=
  ⟨h.1.below hb, fun a n c e hn => by
    obtain ⟨h1, cur, fz, h2⟩ := h.2 a n c e hn
    exact ⟨h1, cur, fz, (hb.block a.block (some_lt h2)).trans h2⟩⟩
theorem BtsO.step {F F' : Nat → Prop} {w w' : World} {v : Value} {bs : List Bt} (h : BtsO w F v bs) (hc : Chg F w w') (hF : ∀ k, F' k → F k ∨ w.heap.size ≤ k) : BtsO w' F' v bs := by
  rcases h with h | ⟨b, off, cap, h1, h2, h3, h4, h5⟩
  · exact .inl h
  · refine .inr ⟨b, off, cap, h1, h2, Nat.lt_of_lt_of_le h3 hc.size, fun hf => ?_, fun i hi => ?_⟩
    · rcases hF _ hf with g | g
      · exact h4 g
      · omega
    · obtain ⟨k1, u, k2, k3, k4⟩ := h5 i hi
      exact ⟨(hc.cell h3 h4).trans k1, u, (hc.cell h3 h4).trans k2, k3, k4.step hc hF⟩
theorem BtsO.below {F : Nat → Prop} {w w' : World} {v : Value} {bs : List Bt} (h : BtsO w F v bs) (hb : Below w.heap.size w w') : BtsO w' F v bs := by
  rcases h with h | ⟨b, off, cap, h1, h2, h3, h4, h5⟩
  · exact .inl h
  · refine .inr ⟨b, off, cap, h1, h2, Nat.lt_of_lt_of_le h3 hb.size, h4, fun i hi => ?_⟩
    obtain ⟨k1, u, k2, k3, k4⟩ := h5 i hi
    exact ⟨(hb.cell (p := ⟨b, off + i * 2, none⟩) h3).trans k1, u, (hb.cell (p := ⟨b, off + i * 2 + 1, none⟩) h3).trans k2, k3, k4.below hb⟩
theorem OsO.mono {F G : Nat → Prop} {w : World} {v : Value} {ys : List Ob} (h : OsO w G v ys) (hF : ∀ k, F k → G k) : OsO w F v ys := ⟨h.1, fun a n c e hn => ⟨fun hf => (h.2 a n c e hn).1 (hF _ hf), (h.2 a n c e hn).2⟩⟩
theorem BtsO.mono {F G : Nat → Prop} {w : World} {v : Value} {bs : List Bt} (h : BtsO w G v bs) (hF : ∀ k, F k → G k) : BtsO w F v bs := by
  rcases h with h | ⟨b, off, cap, h1, h2, h3, h4, h5⟩
  · exact .inl h
  · refine .inr ⟨b, off, cap, h1, h2, h3, fun hf => h4 (hF _ hf), fun i hi => ?_⟩
    obtain ⟨k1, u, k2, k3, k4⟩ := h5 i hi
    exact ⟨k1, u, k2, k3, k4.mono hF⟩
theorem BtsO.bts {F : Nat → Prop} {w : World} {v : Value} {bs : List Bt} (h : BtsO w F v bs) : Bts w v bs := by
  rcases h with ⟨a, cap, h1, _, h2⟩ | ⟨b, off, cap, h1, _, _, _, h5⟩
  · exact .inl ⟨a, cap, h1, h2⟩
  · exact .inr ⟨b, off, cap, h1, fun i hi => ⟨(h5 i hi).1, by obtain ⟨_, u, k2, _, k4⟩ := h5 i hi; exact ⟨u, k2, k4.1⟩⟩⟩
theorem BtsO.form {F : Nat → Prop} {w : World} {v : Value} {bs : List Bt} (h : BtsO w F v bs) : ∃ a c, v = .slice a bs.length c := h.bts.form
theorem OsO.form {F : Nat → Prop} {w : World} {v : Value} {ys : List Ob} (h : OsO w F v ys) : ∃ a c, v = .slice a ys.length c := h.1.form
/-- What the program's sender answers: PS w F b s: at block b lies a sender that is s, in the blocks of F. What Send and Wait answer lies in new blocks. -/
structure Dc (PS : World → (Nat → Prop) → Nat → Sd → Prop) : Prop where
  lt : ∀ {w : World} {F : Nat → Prop} {b : Nat} {s : Sd}, PS w F b s → ∀ k, F k → k < w.heap.size
  ok : ∀ {w : World} {F : Nat → Prop} {b : Nat} {s : Sd}, PS w F b s → SdOk s
  keep : ∀ {w w' : World} {F G : Nat → Prop} {b : Nat} {s : Sd}, PS w F b s → Chg G w w' → (∀ k, F k → ¬ G k) → PS w' F b s
  new : ∀ (win tries : Int) (w : World), Calls Tryz.prog 29 #[.int .i64 win, .int .i64 tries] w fun e w' => Below w.heap.size w w' ∧ ((¬ nwOk win tries ∧ e = .returned (.tuple #[.pointer none, .int .i64 1])) ∨ (nwOk win tries ∧ ∃ b F, e = .returned (.tuple #[.pointer (some ⟨b, 0, none⟩), .int .i64 0]) ∧ PS w' F b (sd0 win tries) ∧ ∀ k, F k → w.heap.size ≤ k))
  push : ∀ {w : World} {F : Nat → Prop} {b : Nat} {s : Sd} (y : Ob), PS w F b s → Calls Tryz.prog 32 #[.pointer (some ⟨b, 0, none⟩), .agg #[.int .i64 y.k, .int .i64 y.x, .bool y.n, .int .i64 y.t, .int .i64 y.o, .int .i64 y.r, .int .i64 y.d, .int .i64 y.i, .int .i64 y.p, .int .i64 y.q, .int .i64 y.s, .int .i64 y.m]] w fun e w' => e = .returned (.int .i64 (pushR s y).1) ∧ Chg F w w' ∧ ∃ F', PS w' F' b ((pushR s y).2) ∧ (∀ k, F' k → F k ∨ w.heap.size ≤ k)
  send : ∀ {w : World} {F : Nat → Prop} {b : Nat} {s : Sd}, PS w F b s → Calls Tryz.prog 36 #[.pointer (some ⟨b, 0, none⟩)] w fun e w' => ∃ r, e = .returned r ∧ Chg F w w' ∧ ∃ F', PS w' F' b (sdS s) ∧ (∀ k, F' k → F k ∨ w.heap.size ≤ k) ∧ BtsO w' (fun k => F' k ∨ k < w.heap.size) r (sdT s)
  again : ∀ {w : World} {F : Nat → Prop} {b : Nat} {s : Sd}, PS w F b s → Calls Tryz.prog 39 #[.pointer (some ⟨b, 0, none⟩)] w fun e w' => ∃ r, e = .returned (.tuple #[r, .bool (agB s)]) ∧ Chg F w w' ∧ ∃ F', PS w' F' b (agS s) ∧ (∀ k, F' k → F k ∨ w.heap.size ≤ k) ∧ BtsO w' F' r (agL s)
  got : ∀ {w : World} {F : Nat → Prop} {b : Nat} {s : Sd} (a : Ak), PS w F b s → Calls Tryz.prog 74 #[.pointer (some ⟨b, 0, none⟩), .agg #[.int .i64 a.1, .int .i64 a.2.1, .int .i64 a.2.2.1, .int .i64 a.2.2.2]] w fun e w' => e = .returned (.int .i64 (gtN s a)) ∧ Chg F w w' ∧ ∃ F', PS w' F' b (gtS s a) ∧ (∀ k, F' k → F k ∨ w.heap.size ≤ k)
  wait : ∀ {w : World} {F : Nat → Prop} {b : Nat} {s : Sd}, PS w F b s → Calls Tryz.prog 47 #[.pointer (some ⟨b, 0, none⟩)] w fun e w' => ∃ r, e = .returned r ∧ Chg F w w' ∧ ∃ F', PS w' F' b (s) ∧ (∀ k, F' k → F k ∨ w.heap.size ≤ k) ∧ OsO w' (fun k => F' k ∨ k < w.heap.size) r s.W
  out : ∀ {w : World} {F : Nat → Prop} {b : Nat} {s : Sd}, PS w F b s → Calls Tryz.prog 48 #[.pointer (some ⟨b, 0, none⟩)] w fun e w' => ∃ r, e = .returned r ∧ Chg F w w' ∧ ∃ F', PS w' F' b (s) ∧ (∀ k, F' k → F k ∨ w.heap.size ≤ k) ∧ BtsO w' F' r s.out
  pushN : ∀ (y : Ob) (w : World), Calls Tryz.prog 32 #[.pointer none, .agg #[.int .i64 y.k, .int .i64 y.x, .bool y.n, .int .i64 y.t, .int .i64 y.o, .int .i64 y.r, .int .i64 y.d, .int .i64 y.i, .int .i64 y.p, .int .i64 y.q, .int .i64 y.s, .int .i64 y.m]] w fun e w' => e = .returned (.int .i64 3) ∧ Below w.heap.size w w'
  sendN : ∀ (w : World), Calls Tryz.prog 36 #[.pointer none] w fun e w' => ∃ r, e = .returned r ∧ Bts w' r [] ∧ Below w.heap.size w w'
  againN : ∀ (w : World), Calls Tryz.prog 39 #[.pointer none] w fun e w' => ∃ r, e = .returned (.tuple #[r, .bool true]) ∧ Bts w' r [] ∧ Below w.heap.size w w'
  gotN : ∀ (a : Ak) (w : World), Calls Tryz.prog 74 #[.pointer none, .agg #[.int .i64 a.1, .int .i64 a.2.1, .int .i64 a.2.2.1, .int .i64 a.2.2.2]] w fun e w' => e = .returned (.int .i64 0) ∧ Below w.heap.size w w'
  waitN : ∀ (w : World), Calls Tryz.prog 47 #[.pointer none] w fun e w' => ∃ r, e = .returned r ∧ Os w' r [] ∧ Below w.heap.size w w'
  outN : ∀ (w : World), Calls Tryz.prog 48 #[.pointer none] w fun e w' => ∃ r, e = .returned r ∧ Bts w' r [] ∧ Below w.heap.size w w'
/-- A sender that was made since w0. -/
structure One (PS : World → (Nat → Prop) → Nat → Sd → Prop) (w0 w : World) (F : Nat → Prop) (b : Nat) (s : Sd) : Prop where
  ps : PS w F b s
  new : ∀ k, F k → w0.heap.size ≤ k
  bel : Below w0.heap.size w0 w
section
variable {PS : World → (Nat → Prop) → Nat → Sd → Prop} {w0 w w' : World} {F F' : Nat → Prop} {b : Nat} {s s' : Sd}
theorem One.next (h : One PS w0 w F b s) (hc : Chg F w w') (hp : PS w' F' b s') (hF : ∀ k, F' k → F k ∨ w.heap.size ≤ k) : One PS w0 w' F' b s' :=
  ⟨hp, fun k hk => (hF k hk).elim (h.new k) (fun g => Nat.le_trans h.bel.size g), h.bel.trans (hc.below h.bel.size h.new)⟩
theorem One.below (dc : Dc PS) (h : One PS w0 w F b s) (hb : Below w.heap.size w w') : One PS w0 w' F b s :=
  ⟨dc.keep h.ps (G := fun _ => False) (chg0 hb) (fun _ _ g => g), h.new, h.bel.trans (hb.mono h.bel.size)⟩
end
/-- One object makes one batch. -/
theorem pack_one {y : Ob} (n : Int) : packL 512 [y] n = [(lft n, [y])] := by
  obtain ⟨k1, k2, _⟩ := cut_spec 512 [y] (A := 0) (show 0 < 1 by decide)
  have k3 : cutTo 512 [y] 0 = 1 := by have e : [y].length = 1 := rfl; omega
  show packF 512 [y] 1 0 (lft n) = _
  rw [packF_cons (show 0 < 1 by decide), k3]
  rfl
theorem send_one {win tries n : Int} {y : Ob} (hw : 1 ≤ win) (hn : 0 ≤ n ∧ n ≤ 65535) : sdT ⟨win, tries, [y], [], n⟩ = [(n, [y])] ∧ sdS ⟨win, tries, [y], [], n⟩ = ⟨win, tries, [], [((n, [y]), 1)], nxt n⟩ := by
  have e0 : lft n = n := by unfold lft; omega
  have e1 : sdT ⟨win, tries, [y], [], n⟩ = [(n, [y])] := by
    unfold sdT
    show (packL 512 [y] n).takeWhile (fun p => decide (far n p.1 < win)) = _
    rw [pack_one, e0, List.takeWhile_cons]
    have : decide (far n n < win) = true := decide_eq_true (by rw [far_self]; omega)
    show (if decide (far n n < win) = true then _ else _) = _
    rw [if_pos this]
    rfl
  refine ⟨e1, ?_⟩
  unfold sdS
  rw [e1]
  rfl
end Go.Proofs.YthnajpckhoomgaaGreat
namespace Go.Proofs.YthnajpckhoomgaaGreat
set_option maxRecDepth 100000
open Go.RowKit

/-- One batch is out, of number 0, sent c times. -/
def o1 (win tries : Int) (y : Ob) (c : Int) : Sd := ⟨win, tries, [], [((0, [y]), c)], 1⟩
def o0 (win tries : Int) : Sd := ⟨win, tries, [], [], 1⟩
theorem o1_send {win tries : Int} {y : Ob} (hw : 1 ≤ win) : sdT ⟨win, tries, [y], [], 0⟩ = [(0, [y])] ∧ sdS ⟨win, tries, [y], [], 0⟩ = o1 win tries y 1 := send_one hw ⟨Int.le_refl 0, by decide⟩
theorem o1_push {win tries : Int} {y : Ob} (hy : y.Ok) : pushR (sd0 win tries) y = (0, ⟨win, tries, [y], [], 0⟩) := by
  unfold pushR
  rw [if_pos hy]
  rfl
def y5 : Ob := ⟨1, 5, false, 0, 0, 0, 0, 0, 0, 0, 0, 0⟩
end Go.Proofs.YthnajpckhoomgaaGreat
namespace Go.Proofs.YthnajpckhoomgaaGreat
set_option maxRecDepth 100000
open Go.RowKit

/-- Objects of one's own. -/
def OwO (w : World) (S : Nat) (v : Value) (ys : List Ob) : Prop := w.ownsRow S 39 12 v ys.length (flat ys)
theorem OwO_nil (w : World) (S : Nat) : OwO w S (.slice none 0 0) [] := ⟨rfl, .inl ⟨rfl, rfl⟩⟩
theorem OwO.os {w : World} {S : Nat} {v : Value} {ys : List Ob} (h : OwO w S v ys) : Os w v ys := (Os_of_own h).1
theorem OwO.below {w w' : World} {S : Nat} {v : Value} {ys : List Ob} (h : OwO w S v ys) (hb : Below w.heap.size w w') : OwO w' S v ys := own_below h hb
theorem own_chg {F : Nat → Prop} {w w' : World} {S size n : Nat} {e : TypeId} {v : Value} {xs : List Value} (h : w.ownsRow S e size v n xs) (hc : Chg F w w') (hv : ∀ g, v.ownBlock = some g → ¬ F g) : w'.ownsRow S e size v n xs := by
  refine ⟨h.1, ?_⟩
  rcases h.2 with h2 | ⟨g, cap, cur, rfl, h3, hg, rest⟩
  · exact .inl h2
  · exact .inr ⟨g, cap, cur, rfl, h3, (hc.block g (some_lt hg) (hv g rfl)).trans hg, rest⟩
/-- A whole readable slice of objects behind a row of one's own. -/
theorem run_gappo (w : World) (ty : TypeId) (S : Nat) (v : Value) (xs : List Ob) (hown : OwO w S v xs) (u : Value) (ys : List Ob) (hu : Os w u ys) (hl : xs.length + ys.length ≤ 30000) (hS : S ≤ w.heap.size) :
    ∃ r w', (Builtin.append_ #[51, 51] ty #[v, u]).run Tryz.prog w = .ok r w' ∧ OwO w' S r (xs ++ ys) ∧ w.grownBy w' v.ownBlock ∧ (∀ g, r.ownBlock = some g → v.ownBlock = some g ∨ w.heap.size ≤ g) := by
  obtain ⟨i0, hi, hz0, hz1, hz2⟩ := info_parts infoOB
  have e : flat (xs ++ ys) = flat xs ++ flat ys := flat_app xs ys
  have e2 : (xs ++ ys).length = xs.length + ys.length := by simp
  have hfy : (flat ys).length = ys.length * 12 := flat_len ys
  have hone := flat_ones ys
  have hby : (xs.length + ys.length) * 96 ≤ 140737488355328 := Nat.le_trans (Nat.mul_le_mul_right 96 hl) (by decide)
  have go : ∀ (a : Addr) (c : Nat), (∀ j q, (flat ys)[j]? = some q → w.cell? (a.add j) = some q) →
      ∃ r w', (Builtin.append_ #[51, 51] ty #[v, .slice (some a) ys.length c]).run Tryz.prog w = .ok r w' ∧ OwO w' S r (xs ++ ys) ∧ w.grownBy w' v.ownBlock ∧ (∀ g, r.ownBlock = some g → v.ownBlock = some g ∨ w.heap.size ≤ g) := by
    intro a c hnews
    obtain ⟨v', w', hr, h2, h3, _, h5⟩ := run_append_own_at (P := Tryz.prog) w S 51 ty 39 i0 _ 12 96 underSL hi hz0 hz1 hz2 rfl (by decide) v xs.length (flat xs) hown a ys.length c (flat ys) hfy hnews hone (by unfold maxLen; omega) hby hS
    refine ⟨v', w', hr, ?_, h3, fun g hg => ?_⟩
    · unfold OwO
      rw [e, e2]; exact h2
    · rcases h5 with h | h
      · exact .inl (h ▸ hg)
      · rw [h] at hg
        exact .inr (by cases hg; exact Nat.le_refl _)
  rcases hu with ⟨a, cap, rfl, hc, rfl⟩ | ⟨b, off, cap, rfl, h2, h3, h4⟩
  · cases a with
    | none =>
      obtain rfl := hc rfl
      refine ⟨v, w, run_append_owned_none (P := Tryz.prog) (w := w) S 51 ty 39 i0 12 underSL hi v xs.length (flat xs) hown, ?_, ⟨rfl, rfl, rfl, Nat.le_refl _, fun _ _ _ => rfl⟩, fun g hg => .inl hg⟩
      exact (congrArg (fun z : List Ob => OwO w S v z) (List.append_nil xs)).mpr hown
    | some a => exact go a cap (fun j q hj => by simp [flat] at hj)
  · exact go ⟨b, off, none⟩ cap (flat_news h4)
/-- A row of batches of one's own, whose objects lie off the blocks of F. -/
def SentR (w : World) (S : Nat) (F : Nat → Prop) (v : Value) (l : List Bt) : Prop :=
  (∀ g, v.ownBlock = some g → ¬ F g) ∧ ∃ vs : List (Int × Value), vs.length = l.length ∧ w.ownsRow S 69 2 v l.length (flat2 vs) ∧
    ∀ i, i < l.length → (vs.getD i zv).1 = (l.getD i zb).1 ∧ (vs.getD i zv).2.oneCell' = true ∧ OsO w F (vs.getD i zv).2 (l.getD i zb).2
theorem SentR.below {w w' : World} {S : Nat} {F : Nat → Prop} {v : Value} {l : List Bt} (h : SentR w S F v l) (hb : Below w.heap.size w w') : SentR w' S F v l := by
  obtain ⟨h0, vs, h1, h2, h3⟩ := h
  exact ⟨h0, vs, h1, own_below h2 hb, fun i hi => ⟨(h3 i hi).1, (h3 i hi).2.1, (h3 i hi).2.2.below hb⟩⟩
theorem SentR.step {w w' : World} {S : Nat} {F F' : Nat → Prop} {v : Value} {l : List Bt} (h : SentR w S F v l) (hc : Chg F w w') (hF : ∀ k, F' k → F k ∨ w.heap.size ≤ k) : SentR w' S F' v l := by
  obtain ⟨h0, vs, h1, h2, h3⟩ := h
  refine ⟨fun g hg hf => ?_, vs, h1, own_chg h2 hc h0, fun i hi => ⟨(h3 i hi).1, (h3 i hi).2.1, (h3 i hi).2.2.step hc hF⟩⟩
  rcases hF g hf with h4 | h4
  · exact h0 g hg h4
  · have := (h2.lt g hg).2; omega
theorem SentR.form {w : World} {S : Nat} {F : Nat → Prop} {v : Value} {l : List Bt} (h : SentR w S F v l) : ∃ a c, v = .slice a l.length c := by
  obtain ⟨h0, vs, h1, h2, h3⟩ := h
  rcases h2.2 with ⟨h4, h5⟩ | ⟨g, cap, cur, h4, _⟩
  · exact ⟨none, 0, by rw [h4, h5]⟩
  · exact ⟨_, _, h4⟩
theorem flat2_at : ∀ (vs : List (Int × Value)) (i j : Nat), i < vs.length → j < 2 → (flat2 vs)[i * 2 + j]? = (c2 (vs.getD i zv))[j]?
  | [], i, j, h, _ => absurd h (Nat.not_lt_zero i)
  | p :: vs, 0, j, _, hj => by
    simp only [flat2, List.flatMap_cons, Nat.zero_mul, Nat.zero_add, List.getD_cons_zero]
    rw [List.getElem?_append_left (by show j < 2; exact hj)]
  | p :: vs, i + 1, j, h, hj => by
    have ih := flat2_at vs i j (by simpa using h) hj
    simp only [flat2, List.flatMap_cons, List.getD_cons_succ] at *
    rw [List.getElem?_append_right (by show 2 ≤ _; omega), show (i + 1) * 2 + j - (c2 p).length = i * 2 + j by show (i + 1) * 2 + j - 2 = _; omega]
    exact ih
theorem SentR.bts {w : World} {S : Nat} {F : Nat → Prop} {v : Value} {l : List Bt} (h : SentR w S F v l) : Bts w v l := by
  obtain ⟨h0, vs, h1, h2, h3⟩ := h
  rcases h2.2 with ⟨h4, h5⟩ | ⟨g, cap, cur, h4, _, hg, _, _, hcs, htake⟩
  · exact .inl ⟨none, 0, h4, List.eq_nil_of_length_eq_zero h5⟩
  · refine .inr ⟨g, 0, cap, h4, fun i hi => ?_⟩
    have hc : ∀ j, j < 2 → w.cell? ⟨g, 0 + i * 2 + j, none⟩ = (c2 (vs.getD i zv))[j]? := fun j hj => by
      rw [cell_of_row w g _ cur 69 (0, 0) hg, Nat.zero_add, ← flat2_at vs i j (by omega) hj, ← htake, List.getElem?_take, if_pos (by omega)]
      simp
    have e0 := hc 0 (by decide)
    have e1 := hc 1 (by decide)
    obtain ⟨k1, k2, k3⟩ := h3 i hi
    exact ⟨by rw [← k1]; exact e0, (vs.getD i zv).2, e1, k3.1⟩
end Go.Proofs.YthnajpckhoomgaaGreat
namespace Go.Proofs.YthnajpckhoomgaaGreat
set_option maxRecDepth 100000
open Go.RowKit

theorem chg_grown {w w' : World} {row : Option Nat} (hg : w.grownBy w' row) : Chg (fun k => row = some k) w w' := ⟨hg.os, hg.tape, hg.output, hg.size, fun k hk hn => hg.block k hk (fun e => hn e.symm)⟩
theorem OsO.grown {w w' : World} {F : Nat → Prop} {u : Value} {ys : List Ob} {row : Option Nat} (h : OsO w F u ys) (hg : w.grownBy w' row) (hr : ∀ g, row = some g → ∃ cur fz, w.heap[g]? = some (.cells cur 69 fz)) : OsO w' F u ys := by
  have hne : ∀ a n c, u = .slice (some a) n c → ys ≠ [] → ¬ row = some a.block := fun a n c e hn e2 => by
    obtain ⟨_, cur, fz, h2⟩ := h.2 a n c e hn
    obtain ⟨cur', fz', h3⟩ := hr a.block e2
    rw [h2] at h3
    cases h3
  refine ⟨h.1.chg (chg_grown hg) (fun a n c e hn => hne a n c e hn), fun a n c e hn => ?_⟩
  obtain ⟨h1, cur, fz, h2⟩ := h.2 a n c e hn
  exact ⟨h1, cur, fz, (hg.block a.block (some_lt h2) (fun e2 => hne a n c e hn e2.symm)).trans h2⟩
end Go.Proofs.YthnajpckhoomgaaGreat
namespace Go.Proofs.YthnajpckhoomgaaGreat
set_option maxRecDepth 100000
open Go.RowKit

structure RowF (w : World) (S : Nat) (F : Nat → Prop) (v : Value) (ys : List Ob) : Prop where
  own : OwO w S v ys
  off : ∀ g, v.ownBlock = some g → ¬ F g
theorem RowF_nil (w : World) (S : Nat) (F : Nat → Prop) : RowF w S F (.slice none 0 0) [] := ⟨OwO_nil w S, fun g h => by cases h⟩
theorem RowF.lt {w : World} {S : Nat} {F : Nat → Prop} {v : Value} {ys : List Ob} (h : RowF w S F v ys) : ∀ g, v.ownBlock = some g → S ≤ g ∧ g < w.heap.size := fun g hg => World.ownsRow.lt h.own g hg
theorem RowF.form {w : World} {S : Nat} {F : Nat → Prop} {v : Value} {ys : List Ob} (h : RowF w S F v ys) : ∃ a c, v = .slice a ys.length c := own_form h.own
theorem RowF.below {w w' : World} {S : Nat} {F : Nat → Prop} {v : Value} {ys : List Ob} (h : RowF w S F v ys) (hb : Below w.heap.size w w') : RowF w' S F v ys := ⟨h.own.below hb, h.off⟩
theorem RowF.step {w w' : World} {S : Nat} {F F' : Nat → Prop} {v : Value} {ys : List Ob} (h : RowF w S F v ys) (hc : Chg F w w') (hF : ∀ k, F' k → F k ∨ w.heap.size ≤ k) : RowF w' S F' v ys :=
  ⟨own_chg h.own hc h.off, fun g hg hf => (hF g hf).elim (h.off g hg) (fun h2 => by have := (h.lt g hg).2; omega)⟩
/-- One row lies apart from another one. -/
def Apart (u v : Value) : Prop := ∀ g, u.ownBlock = some g → ¬ v.ownBlock = some g
theorem Apart.symm {u v : Value} (h : Apart u v) : Apart v u := fun g h1 h2 => h g h2 h1
theorem RowF.kept {w w' : World} {S : Nat} {F : Nat → Prop} {v u : Value} {ys : List Ob} (h : RowF w S F v ys) (hg : w.grownBy w' u.ownBlock) (ha : Apart v u) : RowF w' S F v ys :=
  ⟨own_chg h.own (chg_grown hg) (fun g h1 h2 => ha g h1 h2), h.off⟩
/-- A row that grew: off F, and apart from what it was apart from. -/
theorem RowF.grew {w w' : World} {S : Nat} {F : Nat → Prop} {v r : Value} {xs zs : List Ob} (h : RowF w S F v xs) (ho : OwO w' S r zs) (hF : ∀ k, F k → k < w.heap.size) (hr : ∀ g, r.ownBlock = some g → v.ownBlock = some g ∨ w.heap.size ≤ g) : RowF w' S F r zs :=
  ⟨ho, fun g hg hf => (hr g hg).elim (fun h2 => h.off g h2 hf) (fun h2 => by have := hF g hf; omega)⟩
theorem Apart.grew {w : World} {S : Nat} {F : Nat → Prop} {v r u : Value} {ys : List Ob} (h : Apart v u) (hu : RowF w S F u ys) (hr : ∀ g, r.ownBlock = some g → v.ownBlock = some g ∨ w.heap.size ≤ g) : Apart r u := fun g hg hu2 =>
  (hr g hg).elim (fun h2 => h g h2 hu2) (fun h2 => by have := (hu.lt g hu2).2; omega)
theorem One.grown {PS : World → (Nat → Prop) → Nat → Sd → Prop} (dc : Dc PS) {w0 w w' : World} {F : Nat → Prop} {b : Nat} {s : Sd} {v : Value} {ys : List Ob} (h : One PS w0 w F b s) (hv : RowF w w0.heap.size F v ys) (hg : w.grownBy w' v.ownBlock) : One PS w0 w' F b s :=
  ⟨dc.keep h.ps (chg_grown hg) (fun k hk e => hv.off k e hk), h.new, h.bel.grown hg h.bel.size (fun k hk => (hv.lt k hk).1)⟩
theorem gt_W (s : Sd) (a : Ak) : (gtS s a).W = s.W ∧ (gtS s a).nx = s.nx := by unfold gtS; split <;> exact ⟨rfl, rfl⟩
end Go.Proofs.YthnajpckhoomgaaGreat
namespace Go.Proofs.YthnajpckhoomgaaGreat
set_option maxRecDepth 100000
set_option linter.unusedVariables false
open Go.RowKit

theorem infoPTz : (Tryz.prog.info? 142).map (fun i => (i.zero, i.size, i.bytes)) = some (some (.pointer none), 1, 8) := by kernel_rfl
theorem underPR : Tryz.prog.underlying 121 = some (.slice 142) := by kernel_rfl
theorem cellsPTz : Tryz.prog.cellsOf 142 = 1 := by kernel_rfl
theorem cellsOB : Tryz.prog.cellsOf 39 = 12 := by kernel_rfl
abbrev ptr (p : Nat) : Value := .pointer (some ⟨p, 0, none⟩)
noncomputable def RPT : RowT where
  α := Nat
  d := 0
  cl := fun p => [ptr p]
  K := 1
  T := 142
  SL := 121
  zero := .pointer none
  bytes := 8
  hcl := fun _ => rfl
  hK := by decide
  hone := fun y u hu => by simp only [List.mem_singleton] at hu; subst hu; rfl
  hSL := underPR
  hinfo := infoPTz
  hz := rfl
  hb := by decide
  hc := cellsPTz
noncomputable def ROB : RowT where
  α := Ob
  d := z12
  cl := Ob.cl
  K := 12
  T := 39
  SL := 51
  zero := .agg #[.int .i64 0, .int .i64 0, .bool false, .int .i64 0, .int .i64 0, .int .i64 0, .int .i64 0, .int .i64 0, .int .i64 0, .int .i64 0, .int .i64 0, .int .i64 0]
  bytes := 96
  hcl := fun _ => rfl
  hK := by decide
  hone := fun y u hu => by
    simp only [Ob.cl, List.mem_cons, List.not_mem_nil, or_false] at hu
    rcases hu with rfl | rfl | rfl | rfl | rfl | rfl | rfl | rfl | rfl | rfl | rfl | rfl <;> rfl
  hSL := underSL
  hinfo := infoOB
  hz := rfl
  hb := by decide
  hc := cellsOB
theorem chg_pt (w : World) (b j : Nat) (u : Value) : Chg (fun k => k = b) w (w.setCell ⟨b, j, none⟩ u) := Chg.setCell (F := fun k => k = b) (p := ⟨b, j, none⟩) (Chg.refl _ w) (.inl rfl) u
/-- A row of pointers of one's own. -/
def OwP (w : World) (v : Value) (ps : List Nat) : Prop := w.ownsRow 0 142 1 v ps.length (gflat RPT ps)
/-- A block of that type. -/
def BlkT (w : World) (k : Nat) (t : TypeId) : Prop := ∃ cur fz, w.heap[k]? = some (.cells cur t fz)
theorem BlkT.ne {w : World} {k k' : Nat} {t t' : TypeId} (h : BlkT w k t) (h' : BlkT w k' t') (ht : t ≠ t') : k ≠ k' := fun e => by
  subst e
  obtain ⟨c, f, h1⟩ := h
  obtain ⟨c', f', h2⟩ := h'
  rw [h1] at h2
  cases h2
  exact ht rfl
theorem BlkT.chg {F : Nat → Prop} {w w' : World} {k : Nat} {t : TypeId} (h : BlkT w k t) (hc : Chg F w w') (hk : ¬ F k) : BlkT w' k t := by
  obtain ⟨c, f, h1⟩ := h
  exact ⟨c, f, (hc.block k (some_lt h1) hk).trans h1⟩
theorem own_blk {w : World} {S size n g : Nat} {e : TypeId} {v : Value} {xs : List Value} (h : w.ownsRow S e size v n xs) (hg : v.ownBlock = some g) : BlkT w g e := by
  rcases h.2 with ⟨rfl, _⟩ | ⟨g', cap, cur, rfl, _, hh, _⟩
  · cases hg
  · cases hg
    exact ⟨cur, (0, 0), hh⟩
/-- A slice that reads as objects, in a block of F that is none of what waits. -/
structure ObI (w : World) (F : Nat → Prop) (vW u : Value) (ys : List Ob) : Prop where
  os : Os w u ys
  one : u.oneCell' = true
  blk : ∀ a n c, u = .slice (some a) n c → ys ≠ [] → F a.block ∧ BlkT w a.block 39 ∧ ¬ vW.ownBlock = some a.block
/-- A batch that is out, in memory, with how often it was sent. -/
structure SndAt (w : World) (F : Nat → Prop) (vW : Value) (p : Nat) (e : Bt × Int) : Prop where
  f : F p
  cell : ∃ u, w.heap[p]? = some (.cells #[.int .i64 e.1.1, u, .int .i64 e.2] 148) ∧ ObI w F vW u e.1.2
abbrev Zs1 := List (Nat × Bt × Int)
theorem pushR_full {s : Sd} {y : Ob} (h : y.Ok) (hl : 1024 ≤ s.W.length) : pushR s y = (8, s) := by unfold pushR; rw [if_pos h, if_pos hl]
theorem pushR_ok {s : Sd} {y : Ob} (h : y.Ok) (hl : ¬ 1024 ≤ s.W.length) : pushR s y = (0, { s with W := s.W ++ [y] }) := by unfold pushR; rw [if_pos h, if_neg hl]
theorem pushR_no {s : Sd} {y : Ob} (h : ¬ y.Ok) : pushR s y = (1, s) := by unfold pushR; rw [if_neg h]
/-- The program's sender. -/
structure PZ (w : World) (F : Nat → Prop) (b : Nat) (s : Sd) (Z : Zs1) (vW vO : Value) : Prop where
  lt : ∀ k, F k → k < w.heap.size
  fb : F b
  hp : w.heap[b]? = some (.cells #[.int .i64 s.win, .int .i64 s.tries, .int .i64 s.nx, vW, vO] 123)
  wt : OwO w 0 vW s.W
  wf : ∀ g, vW.ownBlock = some g → F g
  ot : OwP w vO (Z.map Prod.fst)
  of : ∀ g, vO.ownBlock = some g → F g
  zl : s.L = Z.map Prod.snd
  nd : (Z.map Prod.fst).Nodup
  snd : ∀ z ∈ Z, SndAt w F vW z.1 z.2
def PS (w : World) (F : Nat → Prop) (b : Nat) (s : Sd) : Prop := SdOk s ∧ ∃ Z vW vO, PZ w F b s Z vW vO
/-- F, and what is new. -/
def FN (F : Nat → Prop) (w w' : World) : Nat → Prop := fun k => F k ∨ (w.heap.size ≤ k ∧ k < w'.heap.size)
theorem FN.lt {F : Nat → Prop} {w w' : World} (h : ∀ k, F k → k < w.heap.size) (hs : w.heap.size ≤ w'.heap.size) : ∀ k, FN F w w' k → k < w'.heap.size := fun k hk => hk.elim (fun h2 => Nat.lt_of_lt_of_le (h k h2) hs) (fun h2 => h2.2)
theorem FN.up {F : Nat → Prop} {w w1 w2 : World} (h1 : w.heap.size ≤ w1.heap.size) (h2 : w1.heap.size ≤ w2.heap.size) : ∀ k, FN (FN F w w1) w1 w2 k ↔ FN F w w2 k := fun k => by
  unfold FN
  constructor
  · rintro ((h | h) | h)
    · exact .inl h
    · exact .inr ⟨h.1, by omega⟩
    · exact .inr ⟨by omega, h.2⟩
  · rintro (h | h)
    · exact .inl (.inl h)
    · by_cases hk : k < w1.heap.size
      · exact .inl (.inr ⟨h.1, hk⟩)
      · exact .inr ⟨by omega, h.2⟩
theorem FN.new {F : Nat → Prop} {w w' : World} : ∀ k, FN F w w' k → F k ∨ w.heap.size ≤ k := fun k hk => hk.imp (fun h => h) (fun h => h.1)
theorem ObI.chg {F G : Nat → Prop} {w w' : World} {vW u : Value} {ys : List Ob} (h : ObI w F vW u ys) (hc : Chg G w w') (hG : ∀ k, F k → BlkT w k 39 → ¬ vW.ownBlock = some k → ¬ G k) : ObI w' F vW u ys :=
  ⟨h.os.chg hc (fun a n c e hn => by obtain ⟨h1, h2, h3⟩ := h.blk a n c e hn; exact hG _ h1 h2 h3), h.one, fun a n c e hn => by obtain ⟨h1, h2, h3⟩ := h.blk a n c e hn; exact ⟨h1, h2.chg hc (hG _ h1 h2 h3), h3⟩⟩
theorem ObI.mono {F F' : Nat → Prop} {w : World} {vW u : Value} {ys : List Ob} (h : ObI w F vW u ys) (hF : ∀ k, F k → F' k) : ObI w F' vW u ys := ⟨h.os, h.one, fun a n c e hn => by obtain ⟨h1, h2, h3⟩ := h.blk a n c e hn; exact ⟨hF _ h1, h2, h3⟩⟩
/-- Another row of what waits: the elder block, or a new one. -/
theorem ObI.row {F : Nat → Prop} {w w0 : World} {vW vW' u : Value} {ys : List Ob} (h : ObI w F vW u ys) (hF : ∀ k, F k → k < w0.heap.size) (hv : ∀ g, vW'.ownBlock = some g → vW.ownBlock = some g ∨ w0.heap.size ≤ g) : ObI w F vW' u ys :=
  ⟨h.os, h.one, fun a n c e hn => by
    obtain ⟨h1, h2, h3⟩ := h.blk a n c e hn
    exact ⟨h1, h2, fun e2 => (hv _ e2).elim h3 (fun h4 => by have := hF _ h1; omega)⟩⟩
theorem SndAt.blk {w : World} {F : Nat → Prop} {vW : Value} {p : Nat} {e : Bt × Int} (h : SndAt w F vW p e) : BlkT w p 148 := by
  obtain ⟨u, h1, _⟩ := h.cell
  exact ⟨_, _, h1⟩
theorem SndAt.chg {F G : Nat → Prop} {w w' : World} {vW : Value} {p : Nat} {e : Bt × Int} (h : SndAt w F vW p e) (hc : Chg G w w') (hp : ¬ G p) (hG : ∀ k, F k → BlkT w k 39 → ¬ vW.ownBlock = some k → ¬ G k) : SndAt w' F vW p e := by
  obtain ⟨u, h1, h2⟩ := h.cell
  exact ⟨h.f, u, (hc.block p (some_lt h1) hp).trans h1, h2.chg hc hG⟩
theorem SndAt.mono {F F' : Nat → Prop} {w : World} {vW : Value} {p : Nat} {e : Bt × Int} (h : SndAt w F vW p e) (hF : ∀ k, F k → F' k) : SndAt w F' vW p e := by
  obtain ⟨u, h1, h2⟩ := h.cell
  exact ⟨hF _ h.f, u, h1, h2.mono hF⟩
theorem SndAt.row {F : Nat → Prop} {w w0 : World} {vW vW' : Value} {p : Nat} {e : Bt × Int} (h : SndAt w F vW p e) (hF : ∀ k, F k → k < w0.heap.size) (hv : ∀ g, vW'.ownBlock = some g → vW.ownBlock = some g ∨ w0.heap.size ≤ g) : SndAt w F vW' p e := by
  obtain ⟨u, h1, h2⟩ := h.cell
  exact ⟨h.f, u, h1, h2.row hF hv⟩
section
variable {w w' : World} {F F' G : Nat → Prop} {b : Nat} {s : Sd} {Z : Zs1} {vW vO : Value}
theorem PZ.bt (h : PZ w F b s Z vW vO) : BlkT w b 123 := ⟨_, _, h.hp⟩
theorem PZ.keep (h : PZ w F b s Z vW vO) (hc : Chg G w w') (hG : ∀ k, F k → ¬ G k) : PZ w' F b s Z vW vO :=
  ⟨fun k hk => Nat.lt_of_lt_of_le (h.lt k hk) hc.size, h.fb, (hc.block b (h.lt b h.fb) (hG b h.fb)).trans h.hp, own_chg h.wt hc (fun g hg => hG g (h.wf g hg)), h.wf, own_chg h.ot hc (fun g hg => hG g (h.of g hg)), h.of, h.zl, h.nd,
    fun z hz => (h.snd z hz).chg hc (hG _ (h.snd z hz).f) (fun k hk _ _ => hG k hk)⟩
theorem PZ.below (h : PZ w F b s Z vW vO) (hb : Below w.heap.size w w') : PZ w' F b s Z vW vO := h.keep (G := fun _ => False) (chg0 hb) (fun _ _ g => g)
theorem PZ.mono (h : PZ w F b s Z vW vO) (hF : ∀ k, F k → F' k) (hl : ∀ k, F' k → k < w.heap.size) : PZ w F' b s Z vW vO :=
  ⟨hl, hF b h.fb, h.hp, h.wt, fun g hg => hF g (h.wf g hg), h.ot, fun g hg => hF g (h.of g hg), h.zl, h.nd, fun z hz => (h.snd z hz).mono hF⟩
theorem PZ.cells (h : PZ w F b s Z vW vO) : w.cell? ⟨b, 0, none⟩ = some (.int .i64 s.win) ∧ w.cell? ⟨b, 1, none⟩ = some (.int .i64 s.tries) ∧ w.cell? ⟨b, 2, none⟩ = some (.int .i64 s.nx) ∧ w.cell? ⟨b, 3, none⟩ = some vW ∧ w.cell? ⟨b, 4, none⟩ = some vO ∧ ∀ j, w.frozen? ⟨b, j, none⟩ = false := by
  refine ⟨?_, ?_, ?_, ?_, ?_, fun j => by simp [World.frozen?, h.hp]⟩ <;> simp [World.cell?, h.hp]
theorem PZ.wform (h : PZ w F b s Z vW vO) : ∃ a c, vW = .slice a s.W.length c := own_form h.wt
theorem PZ.oform (h : PZ w F b s Z vW vO) : ∃ a c, vO = .slice a Z.length c := by
  obtain ⟨a, c, e⟩ := own_form h.ot
  exact ⟨a, c, by rw [e, List.length_map]⟩
theorem PZ.llen (h : PZ w F b s Z vW vO) : s.L.length = Z.length := by rw [h.zl, List.length_map]
/-- Another number of the next one. -/
theorem PZ.nset (h : PZ w F b s Z vW vO) (n : Int) : PZ (w.setCell ⟨b, 2, none⟩ (.int .i64 n)) F b { s with nx := n } Z vW vO := by
  have hc : Chg (fun k => k = b) w (w.setCell ⟨b, 2, none⟩ (.int .i64 n)) := chg_pt _ _ _ _
  refine ⟨fun k hk => by have := h.lt k hk; simpa [World.setCell] using this, h.fb, ?_, own_chg h.wt hc (fun g hg e => ?_), h.wf, own_chg h.ot hc (fun g hg e => ?_), h.of, h.zl, h.nd, fun z hz => (h.snd z hz).chg hc ?_ ?_⟩
  · rw [heap_setCell_same w b 2 _ 123 _ h.hp]; rfl
  · subst e; exact (own_blk h.wt hg).ne h.bt (by decide) rfl
  · subst e; exact (own_blk h.ot hg).ne h.bt (by decide) rfl
  · exact (h.snd z hz).blk.ne h.bt (by decide)
  · exact fun k _ hk _ => hk.ne h.bt (by decide)
/-- Another row of what waits, in its elder block or in a new one. -/
theorem PZ.wset (h : PZ w F b s Z vW vO) (hc : Chg (fun k => vW.ownBlock = some k) w w') {vW' : Value} {W' : List Ob} (ho : OwO w' 0 vW' W') (hv : ∀ g, vW'.ownBlock = some g → vW.ownBlock = some g ∨ w.heap.size ≤ g) :
    PZ (w'.setCell ⟨b, 3, none⟩ vW') (FN F w w') b { s with W := W' } Z vW' vO := by
  have hb : ¬ vW.ownBlock = some b := fun e => (own_blk h.wt e).ne h.bt (by decide) rfl
  have hp' : w'.heap[b]? = some (.cells #[.int .i64 s.win, .int .i64 s.tries, .int .i64 s.nx, vW, vO] 123) := (hc.block b (h.lt b h.fb) hb).trans h.hp
  have hc2 : Chg (fun k => k = b) w' (w'.setCell ⟨b, 3, none⟩ vW') := chg_pt _ _ _ _
  have hbt : BlkT w' b 123 := ⟨_, _, hp'⟩
  have hs : (w'.setCell ⟨b, 3, none⟩ vW').heap.size = w'.heap.size := by simp [World.setCell]
  refine ⟨fun k hk => by rw [hs]; exact FN.lt h.lt hc.size k hk, .inl h.fb, ?_, own_chg ho hc2 (fun g hg e => ?_), fun g hg => ?_, own_chg (own_chg h.ot hc (fun g hg e => ?_)) hc2 (fun g hg e => ?_), fun g hg => .inl (h.of g hg), h.zl, h.nd, fun z hz => ?_⟩
  · rw [heap_setCell_same w' b 3 _ 123 _ hp']; rfl
  · subst e; exact (own_blk ho hg).ne hbt (by decide) rfl
  · exact (hv g hg).elim (fun h2 => .inl (h.wf g h2)) (fun h2 => .inr ⟨h2, (World.ownsRow.lt ho g hg).2⟩)
  · exact (own_blk h.ot hg).ne (own_blk h.wt e) (by decide) rfl
  · subst e; exact (own_blk h.ot hg).ne h.bt (by decide) rfl
  · have h1 : SndAt w' F vW z.1 z.2 := (h.snd z hz).chg hc (fun e => (h.snd z hz).blk.ne (own_blk h.wt e) (by decide) rfl) (fun _ _ _ hk => hk)
    have h2 : SndAt w' F vW' z.1 z.2 := h1.row (w0 := w) h.lt hv
    exact (h2.chg hc2 (h1.blk.ne hbt (by decide)) (fun k _ hk _ => hk.ne hbt (by decide))).mono (fun k hk => .inl hk)
/-- Another row of what is out, in its elder block or in a new one. -/
theorem PZ.oset (h : PZ w F b s Z vW vO) (hc : Chg (fun k => vO.ownBlock = some k) w w') {vO' : Value} {Z' : Zs1} (ho : OwP w' vO' (Z'.map Prod.fst)) (hv : ∀ g, vO'.ownBlock = some g → vO.ownBlock = some g ∨ w.heap.size ≤ g) (hn : (Z'.map Prod.fst).Nodup) (hz : ∀ z ∈ Z', SndAt w F vW z.1 z.2) :
    PZ (w'.setCell ⟨b, 4, none⟩ vO') (FN F w w') b { s with L := Z'.map Prod.snd } Z' vW vO' := by
  have hb : ¬ vO.ownBlock = some b := fun e => (own_blk h.ot e).ne h.bt (by decide) rfl
  have hp' : w'.heap[b]? = some (.cells #[.int .i64 s.win, .int .i64 s.tries, .int .i64 s.nx, vW, vO] 123) := (hc.block b (h.lt b h.fb) hb).trans h.hp
  have hc2 : Chg (fun k => k = b) w' (w'.setCell ⟨b, 4, none⟩ vO') := chg_pt _ _ _ _
  have hbt : BlkT w' b 123 := ⟨_, _, hp'⟩
  have hs : (w'.setCell ⟨b, 4, none⟩ vO').heap.size = w'.heap.size := by simp [World.setCell]
  refine ⟨fun k hk => by rw [hs]; exact FN.lt h.lt hc.size k hk, .inl h.fb, ?_, own_chg (own_chg h.wt hc (fun g hg e => ?_)) hc2 (fun g hg e => ?_), fun g hg => .inl (h.wf g hg), own_chg ho hc2 (fun g hg e => ?_), fun g hg => ?_, rfl, hn, fun z hz2 => ?_⟩
  · rw [heap_setCell_same w' b 4 _ 123 _ hp']; rfl
  · exact (own_blk h.wt hg).ne (own_blk h.ot e) (by decide) rfl
  · subst e; exact (own_blk h.wt hg).ne h.bt (by decide) rfl
  · subst e; exact (own_blk ho hg).ne hbt (by decide) rfl
  · exact (hv g hg).elim (fun h2 => .inl (h.of g h2)) (fun h2 => .inr ⟨h2, (World.ownsRow.lt ho g hg).2⟩)
  · have h1 : SndAt w' F vW z.1 z.2 := (hz z hz2).chg hc (fun e => (hz z hz2).blk.ne (own_blk h.ot e) (by decide) rfl) (fun k _ hk _ e => hk.ne (own_blk h.ot e) (by decide) rfl)
    exact (h1.chg hc2 (h1.blk.ne hbt (by decide)) (fun k _ hk _ => hk.ne hbt (by decide))).mono (fun k hk => .inl hk)
/-- One that is out was sent once more. -/
theorem PZ.tset {X Y : Zs1} {p : Nat} {e : Bt × Int} (h : PZ w F b s (X ++ (p, e) :: Y) vW vO) (n : Int) :
    PZ (w.setCell ⟨p, 2, none⟩ (.int .i64 n)) F b { s with L := (X ++ (p, e.1, n) :: Y).map Prod.snd } (X ++ (p, e.1, n) :: Y) vW vO := by
  have hc : Chg (fun k => k = p) w (w.setCell ⟨p, 2, none⟩ (.int .i64 n)) := chg_pt _ _ _ _
  have hpe := h.snd (p, e) (List.mem_append_right _ List.mem_cons_self)
  have hpt : BlkT w p 148 := hpe.blk
  have hne : (X ++ (p, e.1, n) :: Y).map Prod.fst = (X ++ (p, e) :: Y).map Prod.fst := by simp
  have hob : ∀ k, F k → BlkT w k 39 → ¬ vW.ownBlock = some k → ¬ k = p := fun k _ hk _ => hk.ne hpt (by decide)
  have hnd := h.nd
  rw [List.map_append, List.map_cons] at hnd
  refine ⟨fun k hk => by have := h.lt k hk; simpa [World.setCell] using this, h.fb, ?_, own_chg h.wt hc (fun g hg e => ?_), h.wf, ?_, h.of, rfl, by rw [hne]; exact h.nd, fun z hz => ?_⟩
  · exact (hc.block b (h.lt b h.fb) (h.bt.ne hpt (by decide))).trans h.hp
  · subst e; exact (own_blk h.wt hg).ne hpt (by decide) rfl
  · unfold OwP
    rw [hne]
    exact own_chg h.ot hc (fun g hg e => by subst e; exact (own_blk h.ot hg).ne hpt (by decide) rfl)
  · have hold : z ∈ X ++ Y → SndAt (w.setCell ⟨p, 2, none⟩ (.int .i64 n)) F vW z.1 z.2 := fun hz => by
      have hm : z ∈ X ++ (p, e) :: Y := by
        rcases List.mem_append.1 hz with h1 | h1
        · exact List.mem_append_left _ h1
        · exact List.mem_append_right _ (List.mem_cons_of_mem _ h1)
      refine (h.snd z hm).chg hc (fun e2 => ?_) hob
      rw [List.nodup_append] at hnd
      obtain ⟨_, h2, h3⟩ := hnd
      rcases List.mem_append.1 hz with h1 | h1
      · exact h3 z.1 (List.mem_map.2 ⟨z, h1, rfl⟩) p List.mem_cons_self e2
      · exact (List.nodup_cons.1 h2).1 (e2 ▸ List.mem_map.2 ⟨z, h1, rfl⟩)
    rcases List.mem_append.1 hz with h1 | h1
    · exact hold (List.mem_append_left _ h1)
    · rcases List.mem_cons.1 h1 with rfl | h1
      · obtain ⟨u, g1, g2⟩ := hpe.cell
        exact ⟨hpe.f, u, by rw [heap_setCell_same w p 2 _ 148 _ g1]; rfl, g2.chg hc hob⟩
      · exact hold (List.mem_append_right _ h1)
end
end Go.Proofs.YthnajpckhoomgaaGreat
