/- A range over a function whose iterator keeps blocks of its own: the law of the statement. Over any program. No conditions beyond those of the theorems. -/
import Derived.RangeFuncNested
import Derived.RangeFuncLeaves
import Derived.RangeFuncCalls
import Derived.RangeFuncBox
import Derived.Below
namespace Go.Proofs.Ytmimgpnogjgliaa
set_option maxRecDepth 100000
open Go Go.RowKit

/-- The blocks from D up to E stand as they stood. -/
structure Keep (D E : Nat) (W W' : World) : Prop where
  size : W.heap.size ≤ W'.heap.size
  same : ∀ k, D ≤ k → k < E → k < W.heap.size → W'.heap[k]? = W.heap[k]?
theorem Keep.refl (D E : Nat) (W : World) : Keep D E W W := ⟨Nat.le_refl _, fun _ _ _ _ => rfl⟩
theorem Keep.trans {D E : Nat} {A B C : World} (h : Keep D E A B) (k : Keep D E B C) : Keep D E A C :=
  ⟨Nat.le_trans h.size k.size, fun i h1 h2 h3 => (k.same i h1 h2 (Nat.lt_of_lt_of_le h3 h.size)).trans (h.same i h1 h2 h3)⟩
theorem Keep.mono {D E D' E' : Nat} {A B : World} (h : Keep D E A B) (hD : D ≤ D') (hE : E' ≤ E) : Keep D' E' A B :=
  ⟨h.size, fun i h1 h2 h3 => h.same i (Nat.le_trans hD h1) (Nat.lt_of_lt_of_le h2 hE) h3⟩
theorem Keep.alloc (D E : Nat) (W : World) (o : Obj) : Keep D E W (W.alloc o) := ⟨by simp, fun k _ _ h => Below.heap_alloc W o k h⟩
theorem Keep.grown {D E : Nat} {W W' : World} {row : Option Nat} (hg : W.grownBy W' row) (hr : ∀ r, row = some r → r < D ∨ E ≤ r) : Keep D E W W' :=
  ⟨hg.size, fun k h1 h2 h3 => hg.block k h3 (fun e => by have := hr k e.symm; omega)⟩
theorem Keep.setCell {D E : Nat} (W : World) (b j : Nat) (v : Value) (hb : b < D ∨ E ≤ b) : Keep D E W (W.setCell ⟨b, j, none⟩ v) :=
  ⟨by simp, fun k h1 h2 _ => Below.heap_setCell W ⟨b, j, none⟩ v k (by show k ≠ b; omega)⟩
theorem Keep.below {D E B : Nat} {W W' : World} (h : Below B W W') (hE : E ≤ B) : Keep D E W W' := ⟨h.size, fun k _ h2 _ => h.block k (Nat.lt_of_lt_of_le h2 hE)⟩
theorem Keep.news {D E : Nat} {W W' : World} (h : Below W.heap.size W W') : Keep D E W W' := ⟨h.size, fun k _ _ h3 => h.block k h3⟩
theorem Keep.cell {D E : Nat} {W W' : World} (h : Keep D E W W') {b j : Nat} (h1 : D ≤ b) (h2 : b < E) (h3 : b < W.heap.size) : W'.cell? ⟨b, j, none⟩ = W.cell? ⟨b, j, none⟩ := World.cell?_of_block (h.same b h1 h2 h3)
theorem Keep.frozen {D E : Nat} {W W' : World} (h : Keep D E W W') {b j : Nat} (h1 : D ≤ b) (h2 : b < E) (h3 : b < W.heap.size) : W'.frozen? ⟨b, j, none⟩ = W.frozen? ⟨b, j, none⟩ := World.frozen?_of_block (h.same b h1 h2 h3)
/-- It abides the turn of a block from D up to E, and new ones. -/
def AbK {β : Type} (D E : Nat) (I : β → World → Prop) : Prop := ∀ s W W' row, I s W → W.grownBy W' row → (∀ r, row = some r → D ≤ r ∧ r < E) → I s W'
theorem AbK.mono {β : Type} {D E D' E' : Nat} {I : β → World → Prop} (h : AbK D E I) (hD : D ≤ D') (hE : E' ≤ E) : AbK D' E' I :=
  fun s W W' row hs hg hr => h s W W' row hs hg (fun r e => by have := hr r e; omega)
theorem AbK.putObj {β : Type} {D E : Nat} {I : β → World → Prop} (h : AbK D E I) {s : β} {W : World} (l : Nat) (o : Obj) (hs : I s W) (h1 : D ≤ l) (h2 : l < E) : I s (W.putObj l o) :=
  h s W _ (some l) hs (grownBy_putObj' W l o) (fun r e => by cases e; exact ⟨h1, h2⟩)
theorem AbK.alloc {β : Type} {D E : Nat} {I : β → World → Prop} (h : AbK D E I) {s : β} {W : World} (o : Obj) (hs : I s W) : I s (W.alloc o) :=
  h s W _ none hs (World.grownBy_alloc W o none) (fun r e => by cases e)
/-- An iterator that hands on zs, one behind the other, out of p blocks of its own, as long as yield says so; of the round it asks that those blocks, those from c up to c2, and what lies below n₀, stand. -/
def SeqV {α : Type} (F : Fence) (n : Nat) (P : Program) (g : Nat) (lb : Array Value) (encs : α → Array Value) (n₀ c c2 p : Nat) (zs : List α) (w : World) : Prop :=
  ∀ (l : Nat) (J Jx : List α → World → Prop) (W : World), Below w.heap.size w W → AbK W.heap.size (W.heap.size + p) J → AbK W.heap.size (W.heap.size + p) Jx →
    (∀ pre x W1, J pre W1 → W.heap.size + p ≤ W1.heap.size → (pre ++ [x]) <+: zs → YieldAt F (n - 1) P l (encs x) W1 fun e W' =>
      ∃ q : Bool, e = .returned (.bool q) ∧ (q = true → J (pre ++ [x]) W' ∧ Keep c c2 W1 W' ∧ Keep W.heap.size (W.heap.size + p) W1 W' ∧ Below n₀ W1 W') ∧ (q = false → Jx (pre ++ [x]) W')) →
    J [] W →
    CallsIn F n P g (#[.func (.yield l) #[] #[]] ++ lb) W fun e W' => (∃ v, e = .returned v) ∧ (J zs W' ∨ ∃ pre, pre <+: zs ∧ Jx pre W')
/-- How the body of a round may be left. -/
def postV {α : Type} (c E n₀ : Nat) (I : List α → World → Prop) (Ix : Code → List α → World → Prop) (xs : List α) (W : World) : Exit → Act → World → Prop
  | .normal, _, W' => Keep c E W W' ∧ Below n₀ W W' ∧ I xs W'
  | .ret, _, W' => Keep c E W W' ∧ Ix .ret xs W'
  | .exit id, _, W' => Keep c E W W' ∧ Ix (.exit id) xs W'
  | .goto t, _, W' => Keep c E W W' ∧ Ix (.goto t) xs W'
  | .panic _, _, _ => False
  | .outgrown, _, _ => False
variable {F : Fence} {n : Nat} {P : Program}
/-- The statement. D: where the law's own blocks begin; E: where the iterator's end. -/
theorem wpIn_rangeFuncV {α : Type} {g : Operand} {ps : Array Tmp} {assign body : Code} {Q : Exit → Act → World → Prop} {a : Act} {w : World}
    (hro : F.round = none) (h1 : 1 ≤ n) {gf : Nat} {lb : Array Value} (hg : a.eval g = .func (.func gf) #[] lb) (hFg : F.fn gf) (eg : ∀ args w, (callFunc gf args).run P w = .ok (.enter gf args) w)
    {encs : α → Array Value} {n₀ c c2 p : Nat} {zs : List α} {w0 : World} (hseq : SeqV F (n - 1) P gf lb encs n₀ c c2 p zs w0) (hb0 : Below w0.heap.size w0 w) (hps : ∀ x, (encs x).size = ps.size)
    (D E : Nat) (hD : w.heap.size = D) (hE : E = D + 2 + p) (hn₀ : n₀ ≤ D) (hc : c ≤ D) (hc2 : c2 ≤ D)
    (I : List α → World → Prop) (Ix : Code → List α → World → Prop) (hI : AbK D E I) (hIx : ∀ ex, AbK D E (Ix ex)) (h0 : I [] w)
    (hround : ∀ (l : Nat) (pre : List α) (x : α) (W : World), I pre W → E ≤ W.heap.size → (pre ++ [x]) <+: zs →
      assign.wpIn (F.inRound l) (n - 1 - 1) P (Exit.then (fun a₁ W1 => Keep c E W W1 ∧ Below n₀ W W1 ∧ ∀ W2, W1.grownBy W2 (some (D + 1)) → body.wpIn (F.inRound l) (n - 1 - 1) P (postV c E n₀ I Ix (pre ++ [x]) W2) a₁ W2) (fun _ _ _ => False))
        { tmps := (ps.zip (encs x)).foldl (fun t (p, v) => t.setIfInBounds p v) a.tmps, defers := [] } W)
    (hdone : ∀ (W : World), I zs W → W.heap[D]? = some (.deferred (some [])) → Q .normal { a with defers := { target := .collected D, args := #[] } :: a.defers } W)
    (hstop : ∀ (ex : Code) (pre : List α) (W : World), pre <+: zs → Ix ex pre W → W.heap[D]? = some (.deferred (some [])) → ex.wpIn F n P Q { a with defers := { target := .collected D, args := #[] } :: a.defers } W) :
    (Code.rangeFunc g ps assign body).wpIn F n P Q a w := by
  subst hD
  refine wpIn_rangeFunc ?_
  intro fn hfn
  rw [hro]
  obtain ⟨rec, hrec⟩ : ∃ rec : LoopState → Option Code → Loop, rec = fun st pe => { state := st, pending := pe, fn, tmps := a.tmps, params := ps, assign, body, defers := w.heap.size } := ⟨_, rfl⟩
  obtain ⟨W1, hW1⟩ : ∃ W1, (w.alloc (.deferred (some []))).alloc (.loop (rec .ready none)) = W1 := ⟨_, rfl⟩
  have hL1 : W1.heap[w.heap.size + 1]? = some (.loop (rec .ready none)) := by
    rw [← hW1]; have := World.alloc_heap_new (w.alloc (.deferred (some []))) (.loop (rec .ready none)); rwa [World.size_alloc] at this
  have hK1 : W1.heap[w.heap.size]? = some (.deferred (some [])) := by
    rw [← hW1]; exact (Below.heap_alloc _ _ _ (by simp)).trans (World.alloc_heap_new w _)
  have hI1 : I [] W1 := by rw [← hW1]; exact hI.alloc _ (hI.alloc _ h0)
  have hb1 : Below w0.heap.size w0 W1 := by
    rw [← hW1]; exact hb0.trans ((((Below.refl _ w).alloc (Nat.le_refl _) _).alloc (by simp) _).mono hb0.size)
  have hs1 : W1.heap.size = w.heap.size + 2 := by rw [← hW1]; simp
  have hEE : W1.heap.size + p = E := by omega
  refine ⟨w.heap.size + 1, [{ target := .collected w.heap.size, args := #[] }], W1, { target := .fn (.func gf) lb, args := #[.func (.yield (w.heap.size + 1)) #[] #[]] }, W1, gf,
    #[.func (.yield (w.heap.size + 1)) #[] #[]] ++ lb, W1, ?_, ?_, ?_, ?_, fun _ => h1, ?_⟩
  · rw [← hW1, hrec]; exact run_enterLoop_outer _ _ _ _ _
  · simp only [resolve, hg]
    simp [go_sem]
  · intro f' hf'; simp [Target.leads] at hf'; subst hf'; exact hFg
  · simp [invoke, go_sem, eg]
  · have keep2 : ∀ {A B : World} {row : Option Nat} {k : Nat} {o : Obj}, k < w.heap.size + 2 → A.grownBy B row → (∀ r, row = some r → W1.heap.size ≤ r ∧ r < W1.heap.size + p) → A.heap[k]? = some o → B.heap[k]? = some o := fun hk hg' hr h =>
      (hg'.block _ (Array.getElem?_eq_some_iff.1 h).1 (fun e => by have := hr _ e.symm; omega)).trans h
    refine (hseq (w.heap.size + 1)
      (fun pre W => I pre W ∧ W.heap[w.heap.size + 1]? = some (.loop (rec .ready none)) ∧ W.heap[w.heap.size]? = some (.deferred (some [])))
      (fun pre W => ∃ c, Ix c pre W ∧ W.heap[w.heap.size + 1]? = some (.loop (rec .done (some c))) ∧ W.heap[w.heap.size]? = some (.deferred (some [])))
      W1 hb1
      (fun s A B row hs hg' hr => ⟨hI s A B row hs.1 hg' (fun r e => by have := hr r e; omega), keep2 (by omega) hg' hr hs.2.1, keep2 (by omega) hg' hr hs.2.2⟩)
      (fun s A B row hs hg' hr => by
        obtain ⟨c, hc, hl, hk⟩ := hs
        exact ⟨c, hIx c s A B row hc hg' (fun r e => by have := hr r e; omega), keep2 (by omega) hg' hr hl, keep2 (by omega) hg' hr hk⟩)
      ?_ ⟨hI1, hL1, hK1⟩).mono ?_
    · rintro pre x W ⟨hi, hl, hk⟩ hsz hpre
      rw [hEE] at hsz
      have hlt : w.heap.size + 1 < W.heap.size := (Array.getElem?_eq_some_iff.1 hl).1
      have hy := run_yield (P := P) (args := encs x) hl (by rw [hrec]; exact hps x)
      rw [hrec] at hy
      refine ⟨fn, _, assign, body, hy, roundIn_of_wpIn hfn (wpIn_mono (hround _ pre x W hi hsz hpre) ?_)⟩
      rintro e a₁ W2 hp
      cases e with
      | normal =>
        obtain ⟨hk2, hb2, hbody⟩ := hp
        have hl2 : W2.heap[w.heap.size + 1]? = some (.loop (rec .ready none)) := (hk2.same _ (by omega) (by omega) hlt).trans hl
        have hd2 : W2.heap[w.heap.size]? = some (.deferred (some [])) := (hk2.same _ (by omega) (by omega) (by omega)).trans hk
        have hlt2 : w.heap.size + 1 < W2.heap.size := (Array.getElem?_eq_some_iff.1 hl2).1
        refine ⟨_, run_beginRound hl2 (by rw [hrec]), ?_⟩
        obtain ⟨B2, hB2⟩ : ∃ B2, B2 = W2.putObj (w.heap.size + 1) (.loop { rec .ready none with state := .busy }) := ⟨_, rfl⟩
        have hgB : W2.grownBy B2 (some (w.heap.size + 1)) := by rw [hB2]; exact grownBy_putObj' _ _ _
        have hlB : B2.heap[w.heap.size + 1]? = some (.loop { rec .ready none with state := .busy }) := by rw [hB2]; exact World.putObj_heap_same hlt2
        have hdB : B2.heap[w.heap.size]? = some (.deferred (some [])) := by rw [hB2]; exact (World.putObj_heap_other (by omega)).trans hd2
        rw [← hB2]
        refine wpIn_mono (hbody B2 hgB) ?_
        have fin : ∀ (jump : Option Code) (W3 : World), Keep c E B2 W3 →
            (Instr.endRound (w.heap.size + 1) jump).run P W3 = .ok (.bool jump.isNone) (W3.putObj (w.heap.size + 1) (.loop (rec (if jump.isNone then .ready else .done) jump))) ∧
            (W3.putObj (w.heap.size + 1) (.loop (rec (if jump.isNone then .ready else .done) jump))).heap[w.heap.size + 1]? = some (.loop (rec (if jump.isNone then .ready else .done) jump)) ∧
            (W3.putObj (w.heap.size + 1) (.loop (rec (if jump.isNone then .ready else .done) jump))).heap[w.heap.size]? = some (.deferred (some [])) := fun jump W3 hk3 => by
          have hl3 := (hk3.same (w.heap.size + 1) (by omega) (by omega) (Array.getElem?_eq_some_iff.1 hlB).1).trans hlB
          have hd3 := (hk3.same w.heap.size (by omega) (by omega) (Array.getElem?_eq_some_iff.1 hdB).1).trans hdB
          have := run_endRound (P := P) jump hl3
          rw [hrec] at this ⊢
          exact ⟨this, World.putObj_heap_same (Array.getElem?_eq_some_iff.1 hl3).1, (World.putObj_heap_other (by omega)).trans hd3⟩
        rintro e a3 W3 hp
        cases e with
        | normal =>
          obtain ⟨hk3, hb3, hi3⟩ := hp
          obtain ⟨hr, hl4, hk4⟩ := fin none W3 hk3
          refine ⟨_, _, hr, true, rfl, fun _ => ⟨⟨hI.putObj _ _ hi3 (by omega) (by omega), hl4, hk4⟩, ?_, ?_, ?_⟩, fun h => by cases h⟩
          · exact (((hk2.mono (Nat.le_refl _) (by omega)).trans (Keep.grown hgB (fun r e => by cases e; omega))).trans (hk3.mono (Nat.le_refl _) (by omega))).trans (Keep.grown (grownBy_putObj' _ _ _) (fun r e => by cases e; omega))
          · rw [hEE, hs1]
            exact (((hk2.mono (by omega) (Nat.le_refl _)).trans (Keep.grown hgB (fun r e => by cases e; omega))).trans (hk3.mono (by omega) (Nat.le_refl _))).trans (Keep.grown (grownBy_putObj' _ _ _) (fun r e => by cases e; omega))
          · exact ((hb2.grown hgB (by have := hk2.size; omega) (fun k e => by cases e; omega)).trans hb3).grown (grownBy_putObj' _ _ _) (by have := hk3.size; have := hgB.size; omega) (fun k e => by cases e; omega)
        | ret =>
          obtain ⟨hk3, hi3⟩ := hp
          obtain ⟨hr, hl4, hk4⟩ := fin (some .ret) W3 hk3
          exact ⟨_, _, hr, false, rfl, (fun h => by cases h), fun _ => ⟨.ret, (hIx _).putObj _ _ hi3 (by omega) (by omega), hl4, hk4⟩⟩
        | exit id =>
          obtain ⟨hk3, hi3⟩ := hp
          obtain ⟨hr, hl4, hk4⟩ := fin (some (.exit id)) W3 hk3
          exact ⟨_, _, hr, false, rfl, (fun h => by cases h), fun _ => ⟨.exit id, (hIx _).putObj _ _ hi3 (by omega) (by omega), hl4, hk4⟩⟩
        | goto t =>
          obtain ⟨hk3, hi3⟩ := hp
          obtain ⟨hr, hl4, hk4⟩ := fin (some (.goto t)) W3 hk3
          exact ⟨_, _, hr, false, rfl, (fun h => by cases h), fun _ => ⟨.goto t, (hIx _).putObj _ _ hi3 (by omega) (by omega), hl4, hk4⟩⟩
        | panic ch => exact hp.elim
        | outgrown => exact hp.elim
      | ret => exact hp.elim
      | exit id => exact hp.elim
      | goto t => exact hp.elim
      | panic ch => exact hp.elim
      | outgrown => exact hp.elim
    · rintro e W2 ⟨⟨v, rfl⟩, (⟨hi, hl, hk⟩ | ⟨pre, hSp, c, hi, hl, hk⟩)⟩
      · exact ⟨none, _, by have := run_endLoop (P := P) hl (by rw [hrec]; simp); rw [hrec] at this; exact this, hdone _ (hI.putObj _ _ hi (by omega) (by omega)) ((World.putObj_heap_other (by omega)).trans hk)⟩
      · exact ⟨some c, _, by have := run_endLoop (P := P) hl (by rw [hrec]; simp); rw [hrec] at this; exact this, hstop c pre _ hSp ((hIx c).putObj _ _ hi (by omega) (by omega)) ((World.putObj_heap_other (by omega)).trans hk)⟩
end Go.Proofs.Ytmimgpnogjgliaa

