/- Rows of packets; what a call may turn; the reference's queue in memory. No conditions. -/
import Derived.Test.YtgcjmnjepnmaeaaPkt
import Derived.Test.YtgcjmnjepnmaeaaGsp
import Derived.Test.YtgcjmnjepnmaeaaOth
import Derived.Test.YtgcjmnjepnmaeaaWit
namespace Go.Proofs.Ytgcjmnjepnmaeaa
set_option maxRecDepth 100000
open Go.RowKit Go.WideShapes Go.ChangeShapes

theorem underKS : Try.prog.underlying 30 = some (.slice 34) := by kernel_rfl
theorem infoPK : (Try.prog.info? 34).map (fun i => (i.zero, i.size, i.bytes)) = some (some (.agg #[.int .i64 0, .int .i64 0, .int .i64 0, .int .i64 0, .string ⟨#[]⟩]), 5, 48) := by kernel_rfl
theorem cellsPK : Try.prog.cellsOf 34 = 5 := by kernel_rfl
def pkc (y : Pk) : List Value := [.int .i64 y.1, .int .i64 y.2.1, .int .i64 y.2.2.1, .int .i64 y.2.2.2.1, .string y.2.2.2.2]
def zPk : Pk := (0, 0, 0, 0, ⟨#[]⟩)
theorem pkc_ones : ∀ y, ∀ u ∈ pkc y, u.oneCell' = true := by
  intro y u hu
  simp only [pkc, List.mem_cons, List.not_mem_nil, or_false] at hu
  rcases hu with rfl | rfl | rfl | rfl | rfl <;> rfl
noncomputable def RK : RowT where
  α := Pk
  d := zPk
  cl := pkc
  K := 5
  T := 34
  SL := 30
  zero := .agg #[.int .i64 0, .int .i64 0, .int .i64 0, .int .i64 0, .string ⟨#[]⟩]
  bytes := 48
  hcl := fun _ => rfl
  hK := by decide
  hone := pkc_ones
  hSL := underKS
  hinfo := infoPK
  hz := rfl
  hb := by decide
  hc := cellsPK
/-- A packet as a value. -/
abbrev pkV (y : Pk) : Value := .agg #[.int .i64 y.1, .int .i64 y.2.1, .int .i64 y.2.2.1, .int .i64 y.2.2.2.1, .string y.2.2.2.2]
/-- A slice that reads as packets; a row of packets of one's own. -/
def Ks (w : World) (v : Value) (l : List Pk) : Prop := Gs RK w v l
def OwK (w : World) (S : Nat) (v : Value) (l : List Pk) : Prop := w.ownsRow S RK.T RK.K v l.length (gflat RK l)
/-- Five cells of a packet. -/
def C5 (w : World) (b o : Nat) (y : Pk) : Prop := w.cell? ⟨b, o, none⟩ = some (.int .i64 y.1) ∧ w.cell? ⟨b, o + 1, none⟩ = some (.int .i64 y.2.1) ∧ w.cell? ⟨b, o + 2, none⟩ = some (.int .i64 y.2.2.1) ∧ w.cell? ⟨b, o + 3, none⟩ = some (.int .i64 y.2.2.2.1) ∧ w.cell? ⟨b, o + 4, none⟩ = some (.string y.2.2.2.2)
theorem gc_five {w : World} {b o : Nat} {y : Pk} (h : GC RK w b o y) : C5 w b o y := by
  have h0 := h 0 (show 0 < 5 by decide)
  have h1 := h 1 (show 1 < 5 by decide)
  have h2 := h 2 (show 2 < 5 by decide)
  have h3 := h 3 (show 3 < 5 by decide)
  have h4 := h 4 (show 4 < 5 by decide)
  exact ⟨h0, h1, h2, h3, h4⟩
theorem five_gc {w : World} {b o : Nat} {y : Pk} (h : C5 w b o y) : GC RK w b o y := by
  intro j hj
  have hj' : j < 5 := hj
  obtain ⟨h0, h1, h2, h3, h4⟩ := h
  match j, hj' with
  | 0, _ => exact h0
  | 1, _ => exact h1
  | 2, _ => exact h2
  | 3, _ => exact h3
  | 4, _ => exact h4
theorem Ks.at {w : World} {a : Option Addr} {c : Nat} {l : List Pk} (h : Ks w (.slice a l.length c) l) {i : Nat} (hi : i < l.length) : ∃ b off, a = some ⟨b, off, none⟩ ∧ b < w.heap.size ∧ C5 w b (off + i * 5) (l.getD i zPk) := by
  obtain ⟨b, off, h1, h2, h3⟩ := Gs.at (R := RK) h hi
  exact ⟨b, off, h1, h2, gc_five h3⟩
theorem Ks.mk {w : World} {b off c n : Nat} {l : List Pk} (hn : l.length = n) (hc : n ≤ c) (hb : b < w.heap.size) (h : ∀ i, i < n → C5 w b (off + i * 5) (l.getD i zPk)) : Ks w (.slice (some ⟨b, off, none⟩) n c) l := by
  subst hn
  exact .inr ⟨b, off, c, rfl, hc, hb, fun i hi => five_gc (h i hi)⟩
theorem Ks.opn {w : World} {b off c : Nat} {l : List Pk} (h : Ks w (.slice (some ⟨b, off, none⟩) l.length c) l) (h0 : 0 < l.length) : l.length ≤ c ∧ b < w.heap.size ∧ ∀ i, i < l.length → C5 w b (off + i * 5) (l.getD i zPk) := by
  rcases h with ⟨a, cap, h1, _, rfl⟩ | ⟨b', off', cap, h1, h2, h3, h4⟩
  · exact absurd h0 (Nat.lt_irrefl _)
  · simp only [Value.slice.injEq, Option.some.injEq, Addr.mk.injEq, and_true] at h1
    obtain ⟨⟨rfl, rfl⟩, _, rfl⟩ := h1
    exact ⟨h2, h3, fun i hi => gc_five (h4 i hi)⟩
theorem Ks.form {w : World} {v : Value} {l : List Pk} (h : Ks w v l) : ∃ a c, v = .slice a l.length c := Gs.form (R := RK) h
theorem Ks.below {w w' : World} {v : Value} {l : List Pk} (h : Ks w v l) (hb : Below w.heap.size w w') : Ks w' v l := Gs.below (R := RK) h hb
theorem Ks_nil (w : World) : Ks w (.slice none 0 0) [] := Gs_nil (R := RK) w
theorem OwK.ks {w : World} {S : Nat} {v : Value} {l : List Pk} (h : OwK w S v l) : Ks w v l := (Gs_of_own (R := RK) h).1
theorem OwK_nil (w : World) (S : Nat) : OwK w S (.slice none 0 0) [] := gown_nil (R := RK) w S
theorem OwK.below {w w' : World} {S : Nat} {v : Value} {l : List Pk} (h : OwK w S v l) (hb : Below w.heap.size w w') : OwK w' S v l := gown_below h hb
theorem OwK.mono {w : World} {S S' : Nat} {v : Value} {l : List Pk} (h : OwK w S v l) (hS : S' ≤ S) : OwK w S' v l := gown_mono h hS
theorem OwK.form {w : World} {S : Nat} {v : Value} {l : List Pk} (h : OwK w S v l) : ∃ a c, v = .slice a l.length c := gown_form h

/-- Of the blocks that there were only those of F have turned. -/
structure Chg (F : Nat → Prop) (w w' : World) : Prop where
  os : w'.os = w.os
  tape : w'.tape = w.tape
  output : w'.output = w.output
  size : w.heap.size ≤ w'.heap.size
  block : ∀ k, k < w.heap.size → ¬ F k → w'.heap[k]? = w.heap[k]?
theorem Chg.refl (F : Nat → Prop) (w : World) : Chg F w w := ⟨rfl, rfl, rfl, Nat.le_refl _, fun _ _ _ => rfl⟩
theorem Chg.trans {F G : Nat → Prop} {a b c : World} (h : Chg F a b) (k : Chg G b c) (hG : ∀ x, x < a.heap.size → G x → F x) : Chg F a c :=
  ⟨k.os.trans h.os, k.tape.trans h.tape, k.output.trans h.output, Nat.le_trans h.size k.size, fun x hx hn => (k.block x (Nat.lt_of_lt_of_le hx h.size) (fun g => hn (hG x hx g))).trans (h.block x hx hn)⟩
theorem Chg.mono {F G : Nat → Prop} {a b : World} (h : Chg F a b) (hG : ∀ x, x < a.heap.size → F x → G x) : Chg G a b := ⟨h.os, h.tape, h.output, h.size, fun x hx hn => h.block x hx (fun f => hn (hG x hx f))⟩
theorem Chg.drew {F : Nat → Prop} {a w : World} (h : Chg F a w) : Chg F a w.drew := ⟨h.os, h.tape, h.output, h.size, h.block⟩
theorem Chg.alloc {F : Nat → Prop} {a w : World} (h : Chg F a w) (o : Obj) : Chg F a (w.alloc o) :=
  h.trans (G := fun _ => False) ⟨rfl, rfl, rfl, by simp, fun k hk _ => Below.heap_alloc _ _ _ hk⟩ (fun _ _ h => h.elim)
theorem Chg.setCell {F : Nat → Prop} {a w : World} (h : Chg F a w) {p : Addr} (hp : F p.block ∨ a.heap.size ≤ p.block) (u : Value) : Chg F a (w.setCell p u) :=
  h.trans (G := fun k => k = p.block) ⟨rfl, rfl, rfl, by simp [World.setCell], fun k _ hk => Below.heap_setCell _ _ _ _ hk⟩ (fun x hx e => hp.elim (fun f => by rw [e]; exact f) (fun g => absurd hx (by rw [e]; omega)))
theorem Chg.grown {F : Nat → Prop} {a w w' : World} {row : Option Nat} (h : Chg F a w) (hg : w.grownBy w' row) (hr : ∀ k, row = some k → F k ∨ a.heap.size ≤ k) : Chg F a w' :=
  h.trans (G := fun k => row = some k) ⟨hg.os, hg.tape, hg.output, hg.size, fun k hk hn => hg.block k hk (fun e => hn e.symm)⟩ (fun x hx e => (hr x e).elim (fun f => f) (fun g => absurd hx (by omega)))
theorem chg_of {B : Nat} {w w' : World} (h : Below B w w') : Chg (fun k => B ≤ k) w w' := ⟨h.os, h.tape, h.output, h.size, fun k _ hn => h.block k (by omega)⟩
theorem chg0 {F : Nat → Prop} {w w' : World} (h : Below w.heap.size w w') : Chg F w w' := ⟨h.os, h.tape, h.output, h.size, fun k hk _ => h.block k hk⟩
theorem Chg.below {F : Nat → Prop} {B : Nat} {w w' : World} (h : Chg F w w') (hB : B ≤ w.heap.size) (hF : ∀ k, F k → B ≤ k) : Below B w w' :=
  ⟨h.os, h.tape, h.output, h.size, fun k hk => h.block k (by omega) (fun f => by have := hF k f; omega)⟩
theorem Chg.cell {F : Nat → Prop} {w w' : World} (h : Chg F w w') {b j : Nat} (hb : b < w.heap.size) (hn : ¬ F b) : w'.cell? ⟨b, j, none⟩ = w.cell? ⟨b, j, none⟩ := World.cell?_of_block (h.block b hb hn)
theorem Chg.frozen {F : Nat → Prop} {w w' : World} (h : Chg F w w') {b j : Nat} (hb : b < w.heap.size) (hn : ¬ F b) : w'.frozen? ⟨b, j, none⟩ = w.frozen? ⟨b, j, none⟩ := by
  have := h.block b hb hn
  simp only [World.frozen?, this]
theorem OwnP.chg {F : Nat → Prop} {w w' : World} {b : Nat} {s d t n : Int} {x : ByteArray} (h : OwnP w b s d t n x) (hc : Chg F w w') (hn : ¬ F b) : OwnP w' b s d t n x :=
  ⟨⟨(hc.cell h.lt hn).trans h.1.1, (hc.cell h.lt hn).trans h.1.2.1, (hc.cell h.lt hn).trans h.1.2.2.1, (hc.cell h.lt hn).trans h.1.2.2.2.1, (hc.cell h.lt hn).trans h.1.2.2.2.2⟩, fun j => (hc.frozen h.lt hn).trans (h.2 j)⟩
theorem OwK.chg {F : Nat → Prop} {w w' : World} {S : Nat} {v : Value} {l : List Pk} (h : OwK w S v l) (hc : Chg F w w') (hn : ∀ k, v.ownBlock = some k → ¬ F k) : OwK w' S v l := by
  refine ⟨h.1, ?_⟩
  rcases h.2 with h2 | ⟨g, cap, cur, rfl, h3, hg, rest⟩
  · exact .inl h2
  · exact .inr ⟨g, cap, cur, rfl, h3, (hc.block g (Array.getElem?_eq_some_iff.1 hg).1 (hn g rfl)).trans hg, rest⟩
theorem Ks.chg {F : Nat → Prop} {w w' : World} {v : Value} {l : List Pk} (h : Ks w v l) (hc : Chg F w w') (hv : ∀ a n c, v = .slice (some a) n c → ¬ F a.block) : Ks w' v l := by
  rcases h with h | ⟨b, off, cap, rfl, h2, h3, h4⟩
  · exact .inl h
  · exact .inr ⟨b, off, cap, rfl, h2, Nat.lt_of_lt_of_le h3 hc.size, fun i hi j hj => (hc.cell h3 (hv _ _ _ rfl)).trans (h4 i hi j hj)⟩
/-- A whole readable slice behind a row of one's own. -/
theorem run_gappg (w : World) (ty : TypeId) (S : Nat) (v : Value) (xs : List Pk) (hown : OwK w S v xs) (u : Value) (ys : List Pk) (hu : Ks w u ys) (hl : xs.length + ys.length ≤ 3000) (hS : S ≤ w.heap.size) :
    ∃ r w', (Builtin.append_ #[30, 30] ty #[v, u]).run Try.prog w = .ok r w' ∧ OwK w' S r (xs ++ ys) ∧ w.grownBy w' v.ownBlock ∧ (∀ g, r.ownBlock = some g → v.ownBlock = some g ∨ w.heap.size ≤ g) := by
  obtain ⟨i0, hi, hz0, hz1, hz2⟩ := info_parts RK.hinfo
  have e : gflat RK (xs ++ ys) = gflat RK xs ++ gflat RK ys := gflat_app RK xs ys
  have e2 : (xs ++ ys).length = xs.length + ys.length := by simp
  have hfy : (gflat RK ys).length = ys.length * 5 := gflat_len RK ys
  have hone := gflat_ones RK ys
  have hby : (xs.length + ys.length) * 48 ≤ 140737488355328 := Nat.le_trans (Nat.mul_le_mul_right 48 hl) (by decide)
  have go : ∀ (a : Addr) (c : Nat), (∀ j q, (gflat RK ys)[j]? = some q → w.cell? (a.add j) = some q) →
      ∃ r w', (Builtin.append_ #[30, 30] ty #[v, .slice (some a) ys.length c]).run Try.prog w = .ok r w' ∧ OwK w' S r (xs ++ ys) ∧ w.grownBy w' v.ownBlock ∧ (∀ g, r.ownBlock = some g → v.ownBlock = some g ∨ w.heap.size ≤ g) := by
    intro a c hnews
    obtain ⟨v', w', hr, h2, h3, _, h5⟩ := run_append_own_at (P := Try.prog) w S 30 ty 34 i0 RK.zero 5 48 RK.hSL hi hz0 hz1 hz2 RK.hz (by decide) v xs.length (gflat RK xs) hown a ys.length c (gflat RK ys) hfy hnews hone (by unfold maxLen; omega) hby hS
    refine ⟨v', w', hr, ?_, h3, fun g hg => ?_⟩
    · unfold OwK
      rw [e, e2]; exact h2
    · rcases h5 with h | h
      · exact .inl (h ▸ hg)
      · rw [h] at hg
        exact .inr (by cases hg; exact Nat.le_refl _)
  rcases hu with ⟨a, cap, rfl, hc, rfl⟩ | ⟨b, off, cap, rfl, h2, h3, h4⟩
  · cases a with
    | none =>
      obtain rfl := hc rfl
      refine ⟨v, w, run_append_owned_none (P := Try.prog) (w := w) S 30 ty 34 i0 5 RK.hSL hi v xs.length (gflat RK xs) hown, ?_, ⟨rfl, rfl, rfl, Nat.le_refl _, fun _ _ _ => rfl⟩, fun g hg => .inl hg⟩
      exact (congrArg (fun z : List Pk => OwK w S v z) (List.append_nil xs)).mpr hown
    | some a => exact go a cap (fun j q hj => by simp [gflat] at hj)
  · refine go ⟨b, off, none⟩ cap (fun j q hj => ?_)
    have hlt := (List.getElem?_eq_some_iff.1 hj).1
    rw [hfy] at hlt
    have hd : j / 5 < ys.length := by omega
    have h5 := h4 (j / 5) hd (j % 5) (Nat.mod_lt _ (by decide))
    have h6 := gflat_at RK ys (j / 5) (j % 5) hd (Nat.mod_lt _ (by decide))
    have h7 : j / 5 * RK.K + j % 5 = j := by show j / 5 * 5 + j % 5 = j; omega
    rw [h7] at h6
    rw [add_spot', ← hj, h6, ← h5]
    congr 2
    show off + j = off + j / 5 * 5 + j % 5
    omega
/-- The reference's queue: how many may wait, and those that do, in a row of its own that lies behind it. -/
structure RQ (w : World) (b : Nat) (m : Int) (v : Value) (l : List Pk) : Prop where
  hp : w.heap[b]? = some (.cells #[.int .i64 m, v] 32)
  own : OwK w (b + 1) v l
theorem RQ.lt {w : World} {b : Nat} {m : Int} {v : Value} {l : List Pk} (h : RQ w b m v l) : b < w.heap.size := (Array.getElem?_eq_some_iff.1 h.hp).1
theorem RQ.cells {w : World} {b : Nat} {m : Int} {v : Value} {l : List Pk} (h : RQ w b m v l) : w.cell? ⟨b, 0, none⟩ = some (.int .i64 m) ∧ w.cell? ⟨b, 1, none⟩ = some v ∧ ∀ j, w.frozen? ⟨b, j, none⟩ = false :=
  ⟨by simp [World.cell?, h.hp], by simp [World.cell?, h.hp], fun j => by simp [World.frozen?, h.hp]⟩
/-- The blocks of the reference's queue. -/
def QF (b : Nat) (v : Value) (k : Nat) : Prop := k = b ∨ v.ownBlock = some k
theorem RQ.fr {w : World} {b : Nat} {m : Int} {v : Value} {l : List Pk} (h : RQ w b m v l) {k : Nat} (hk : QF b v k) : b ≤ k ∧ k < w.heap.size := by
  rcases hk with rfl | hk
  · exact ⟨Nat.le_refl _, h.lt⟩
  · have := h.own.lt k hk
    omega
theorem RQ.chg {F : Nat → Prop} {w w' : World} {b : Nat} {m : Int} {v : Value} {l : List Pk} (h : RQ w b m v l) (hc : Chg F w w') (hn : ∀ k, QF b v k → ¬ F k) : RQ w' b m v l :=
  ⟨(hc.block b h.lt (hn b (.inl rfl))).trans h.hp, h.own.chg hc (fun k hk => hn k (.inr hk))⟩
theorem RQ.below {w w' : World} {b : Nat} {m : Int} {v : Value} {l : List Pk} (h : RQ w b m v l) (hb : Below w.heap.size w w') : RQ w' b m v l :=
  h.chg (chg_of hb) (fun k hk hB => by have := (h.fr hk).2; omega)
theorem RQ.set {w : World} {b : Nat} {m : Int} {v u : Value} {l' : List Pk} (h : w.heap[b]? = some (.cells #[.int .i64 m, v] 32)) (ho : OwK w (b + 1) u l') : RQ (w.setCell ⟨b, 1, none⟩ u) b m u l' := by
  refine ⟨?_, ho.chg (F := fun k => k = b) (Chg.setCell (F := fun k => k = b) (p := ⟨b, 1, none⟩) (Chg.refl _ w) (.inl rfl) u) (fun k hk e => ?_)⟩
  · simp only [World.setCell, Array.getElem?_modify, h]
    simp
  · have := ho.lt k hk
    omega
end Go.Proofs.Ytgcjmnjepnmaeaa
