/- Which echoes are right: the program's areRight, isEpoch, Check. No conditions but on lengths. -/
import Derived.Test.YtcddicaebecneaaEit
namespace Go.Proofs.Ytcddicaebecneaa
set_option maxRecDepth 100000
open Go.RowKit
attribute [local go_sem] Oper.semAt_some

theorem wideC' {P : Program} {m : Nat} {f : FuncId} {args : Array Value} {w : World} {R : Ending → World → Prop} (h : Calls P f args w R) :
    Fence.wide.fn f ∧ CallsIn Fence.wide m P f args w R := ⟨trivial, callsIn_wide.2 h⟩
theorem wideR' {P : Program} {m l : Nat} {f : FuncId} {args : Array Value} {w : World} {R : Ending → World → Prop} (h : Calls P f args w R) :
    (Fence.wide.inRound l).fn f ∧ CallsIn (Fence.wide.inRound l) m P f args w R := ⟨trivial, CallsIn.inRound l (callsIn_wide.2 h)⟩
theorem abK_and {β : Type} {D E : Nat} {I I' : β → World → Prop} (h : AbK D E I) (h' : AbK D E I') : AbK D E (fun s W => I s W ∧ I' s W) :=
  fun s W W' row hs hg hr => ⟨h s W W' row hs.1 hg hr, h' s W W' row hs.2 hg hr⟩
theorem abK_pure {β : Type} {D E : Nat} (p : β → Prop) : AbK D E (fun s (_ : World) => p s) := fun _ _ _ _ hs _ _ => hs
theorem abK_boxed {β : Type} {D E B : Nat} {t : TypeId} (hB : B < D) (f : β → Value) : AbK D E (fun s W => Boxed W B t (f s)) :=
  fun _ _ _ _ hs hg hr => hs.kept hg (fun e => by have := hr B e.symm; omega)
theorem abK_below {β : Type} {D E n : Nat} {w : World} (hn : n ≤ D) (hw : n ≤ w.heap.size) : AbK D E (fun (_ : β) W => Below n w W) :=
  fun _ _ _ _ hs hg hr => hs.grown hg (Nat.le_trans hw hs.size) (fun k e => by have := hr k e; omega)
def PrOk (x : (Int × Int) × (Int × Int)) : Prop := x.1.1 < x.2.1 ∧ x.2.1 < 64 ∧ EpOk x.2.2
theorem prok_iff (ys : List (Int × Int)) : (∀ i, i < ys.length → PrOk (prE ys i)) ↔ ∀ i, i < ys.length → EcAt ys i := by
  constructor
  · intro h i
    induction i with
    | zero => intro hi; have := h 0 hi; have h3 : (-1 : Int) < (ys.getD 0 (0, 0)).1 := this.1; exact ⟨⟨by omega, this.2.1⟩, fun h0 => absurd h0 (by decide), this.2.2⟩
    | succ i ih =>
      intro hi
      have h1 := ih (by omega)
      have h2 := h (i + 1) hi
      unfold PrOk prE prevE at h2
      simp only at h2
      exact ⟨⟨by have := h1.1.1; omega, h2.2.1⟩, fun _ => by rw [Nat.add_sub_cancel]; exact h2.1, h2.2.2⟩
  · intro h i hi
    have h1 := h i hi
    unfold PrOk prE
    cases i with
    | zero => exact ⟨by have h3 : (0 : Int) ≤ (ys.getD 0 (0, 0)).1 := h1.1.1; show (-1 : Int) < (ys.getD 0 (0, 0)).1; omega, h1.1.2, h1.2.2⟩
    | succ i => exact ⟨by have := h1.2.1 (by omega); rw [Nat.add_sub_cancel] at this; exact this, h1.1.2, h1.2.2⟩
theorem isep_fix (n : Int) (q : Bool) (hq : q = true ↔ EpOk n) (w : World) : Calls Try.prog 39 #[.int .i64 n] w fun e w' => e = .returned (.bool q) ∧ w = w' := by
  unfold EpOk at hq
  by_cases h1 : 0 ≤ n
  · by_cases h2 : n ≤ 4294967295
    · obtain rfl : q = true := hq.2 ⟨h1, h2⟩
      clear hq
      go_enter Try.func39, Try.ntmps39
      go_wp2
      go_ret
      exact ⟨rfl, rfl⟩
    · obtain rfl : q = false := by cases q with
        | false => rfl
        | true => exact absurd (hq.1 rfl).2 h2
      clear hq
      go_enter Try.func39, Try.ntmps39
      go_wp2
      go_ret
      exact ⟨rfl, rfl⟩
  · obtain rfl : q = false := by cases q with
      | false => rfl
      | true => exact absurd (hq.1 rfl).1 h1
    clear hq
    go_enter Try.func39, Try.ntmps39
    go_wp2
    go_ret
    exact ⟨rfl, rfl⟩

/-- What a round's assignments have laid: two new echoes; the record has turned. -/
theorem two_new {W W2 : World} {r : Nat} (x1 x2 y1 y2 : Int) (hg : ((W.alloc (.cells #[.int .i64 x1, .int .i64 x2] 51)).alloc (.cells #[.int .i64 y1, .int .i64 y2] 51)).grownBy W2 (some r)) (hr : r < W.heap.size) :
    (W2.cell? ⟨W.heap.size, 0, none⟩ = some (.int .i64 x1) ∧ W2.cell? ⟨W.heap.size, 1, none⟩ = some (.int .i64 x2)) ∧ (W2.cell? ⟨W.heap.size + 1, 0, none⟩ = some (.int .i64 y1) ∧ W2.cell? ⟨W.heap.size + 1, 1, none⟩ = some (.int .i64 y2)) ∧ W.heap.size + 2 ≤ W2.heap.size := by
  have h1 := hg.block W.heap.size (by simp; omega) (by simp; omega)
  have h2 := hg.block (W.heap.size + 1) (by simp) (by simp; omega)
  refine ⟨⟨?_, ?_⟩, ⟨?_, ?_⟩, by simpa using hg.size⟩
  · rw [World.cell?_of_block (a := ⟨W.heap.size, 0, none⟩) h1]; simp
  · rw [World.cell?_of_block (a := ⟨W.heap.size, 1, none⟩) h1]; simp
  · rw [World.cell?_of_block (a := ⟨W.heap.size + 1, 0, none⟩) h2]; simp
  · rw [World.cell?_of_block (a := ⟨W.heap.size + 1, 1, none⟩) h2]; simp
theorem one_new {W W2 : World} {r : Nat} (y1 y2 : Int) (hg : (W.alloc (.cells #[.int .i64 y1, .int .i64 y2] 51)).grownBy W2 (some r)) (hr : r < W.heap.size) :
    (W2.cell? ⟨W.heap.size, 0, none⟩ = some (.int .i64 y1) ∧ W2.cell? ⟨W.heap.size, 1, none⟩ = some (.int .i64 y2)) ∧ W.heap.size + 1 ≤ W2.heap.size := by
  have h1 := hg.block W.heap.size (by simp) (by simp; omega)
  refine ⟨⟨?_, ?_⟩, by simpa using hg.size⟩
  · rw [World.cell?_of_block (a := ⟨W.heap.size, 0, none⟩) h1]; simp
  · rw [World.cell?_of_block (a := ⟨W.heap.size, 1, none⟩) h1]; simp
/-- Between two rounds of areRight; where a round has left. -/
def I29 (w : World) (pre : List ((Int × Int) × (Int × Int))) (W : World) : Prop := Boxed W w.heap.size 4 (.bool false) ∧ (∀ x ∈ pre, PrOk x) ∧ Below w.heap.size w W
def X29 (w : World) (ex : Code) (pre : List ((Int × Int) × (Int × Int))) (W : World) : Prop := Boxed W w.heap.size 4 (.bool false) ∧ (ex = .ret ∧ ∃ x ∈ pre, ¬ PrOk x) ∧ Below w.heap.size w W
theorem postM_cell {P : Program} {n : Nat} {fn : Func} {R : Ending → World → Prop} {D : Nat} {tmps : Array Value} {w : World} {v : Value} (hK : w.heap[D]? = some (.deferred (some []))) (hr : (results fn tmps).run P (w.putObj D (.deferred none)) = .ok v (w.putObj D (.deferred none))) (h : R (.returned v) (w.putObj D (.deferred none))) :
    bodyPostM Fence.wide n P fn R .ret { tmps, defers := [{ target := .collected D, args := #[] }] } w := ⟨by simp, .inl ⟨_, _, rfl, run_takeDeferred hK, _, hr, h⟩⟩
set_option maxHeartbeats 8000000 in
theorem areright_fix (v : Value) (ys : List (Int × Int)) (q : Bool) (hq : q = true ↔ ∀ i, i < ys.length → PrOk (prE ys i)) (w : World) (hE : El w v ys) (hl : ys.length ≤ 3000) :
    Calls Try.prog 40 #[v] w fun e w' => e = .returned (.bool q) ∧ Below w.heap.size w w' := by
  obtain ⟨a, c, rfl⟩ := hE.1.form
  obtain ⟨W1, hW1⟩ : ∃ W1, W1 = w.alloc (.cells #[.bool false] 4) := ⟨_, rfl⟩
  have hb1 : Below w.heap.size w W1 := by rw [hW1]; exact (Below.refl _ w).alloc (Nat.le_refl _) _
  have cT := inturn25 _ ys W1 (hE.below hb1).1
  obtain ⟨W2, hW2⟩ : ∃ W2, W2 = W1.alloc (.cells #[.slice a ys.length c] 32) := ⟨_, rfl⟩
  rw [← hW2] at cT
  have hs1 : W1.heap.size = w.heap.size + 1 := by rw [hW1]; simp
  have hs2 : W2.heap.size = w.heap.size + 2 := by rw [hW2]; simp [hs1]
  have bR : Boxed W2 w.heap.size 4 (.bool false) := by rw [hW2, hW1]; exact (Boxed.new w 4 _).alloc _
  have bL : Boxed W2 (w.heap.size + 1) 32 (.slice a ys.length c) := by rw [hW2, ← hs1]; exact Boxed.new W1 32 _
  have hb2 : Below w.heap.size w W2 := by rw [hW2]; exact hb1.alloc (by omega) _
  have SQ := iter36 4 w W2 (w.heap.size + 1) a c ys hE hb2 hl bL.cell
  refine callsIn_wide.1 (callsIn_of_wp_marks (n := 5) Try.func40 rfl trivial ?_ rfl)
  simp only [Try.ntmps40, List.size_toArray, List.length_cons, List.length_nil, Nat.reduceAdd, Nat.reduceSub, Array.replicate_succ, Array.replicate_zero, List.push_toArray, List.append_toArray, List.nil_append, List.cons_append]
  gi_wp2_with fail
  rw [← hW1]
  rw [hs1] at cT
  refine wideC' (cT.mono ?_)
  rintro e V2 ⟨rfl, rfl⟩
  clear cT hW1 hW2
  gi_wp2_with fail
  refine wpIn_rangeFuncV rfl (by decide) (gf := 45) (lb := #[.pointer (some ⟨w.heap.size + 1, 0, none⟩)]) rfl trivial (enters_of Try.func45 (by kernel_rfl) rfl) SQ (Below.refl _ _) (fun _ => rfl)
    (w.heap.size + 2) (w.heap.size + 2 + 2 + 2) hs2 rfl (by omega) (by omega) (by omega)
    (I29 w) (X29 w)
    (abK_and (abK_boxed (by omega) _) (abK_and (abK_pure _) (abK_below (by omega) (Nat.le_refl _))))
    (fun ex => abK_and (abK_boxed (by omega) _) (abK_and (abK_pure _) (abK_below (by omega) (Nat.le_refl _))))
    ⟨bR, fun x h => (by cases h), hb2⟩ ?round ?done ?stop
  case round =>
    rintro l pre ⟨⟨x1, x2⟩, y1, y2⟩ W hI hsz hpre
    have HQ := Lib.hid (And.intro hI (And.intro hsz hpre))
    clear hE hb1 bR bL hb2 SQ hI hpre
    simp [encE]
    gi_wp2_with fail
    refine ⟨(Keep.alloc _ _ _ _).trans (Keep.alloc _ _ _ _), ((Below.refl _ W).alloc (by omega) _).alloc (by simp; omega) _, fun V hg => ?_⟩
    obtain ⟨⟨a0, a1⟩, ⟨e0, e1⟩, hs⟩ := two_new x1 x2 y1 y2 hg (by omega)
    have hbx : Boxed V w.heap.size 4 (.bool false) := ((HQ.out.1.1.alloc _).alloc _).kept hg (by simp; omega)
    have hbw : Below w.heap.size w V := ((HQ.out.1.2.2.alloc (by omega) _).alloc (by simp; omega) _).grown hg (by simp; omega) (fun k e => by cases e; omega)
    obtain ⟨q2, hq2⟩ : ∃ q2 : Bool, q2 = true ↔ EpOk y2 := ⟨decide (EpOk y2), decide_eq_true_iff⟩
    have cI := isep_fix y2 q2 hq2 V
    have HV := Lib.hid (And.intro hbx (And.intro hbw hg))
    have r0 := hbx.cell
    have rf := hbx.frozen
    clear hbx hbw hg
    generalize W.heap.size = g at *
    have NO : ¬ PrOk ((x1, x2), y1, y2) → Keep (w.heap.size + 1) (w.heap.size + 2 + 2 + 2) V (V.setCell ⟨w.heap.size, 0, none⟩ (.bool false)) ∧ X29 w .ret (pre ++ [((x1, x2), y1, y2)]) (V.setCell ⟨w.heap.size, 0, none⟩ (.bool false)) := fun hn =>
      ⟨Keep.setCell V _ _ _ (.inl (Nat.lt_succ_self _)), HV.out.1.set _, ⟨rfl, _, List.mem_append_right _ (List.mem_singleton.2 rfl), hn⟩, HV.out.2.1.setCell (p := ⟨w.heap.size, 0, none⟩) (Nat.le_refl _) _⟩
    have HNO := Lib.hid NO
    clear NO
    by_cases c1 : y1 ≤ x1
    · have hn : Hid (¬ PrOk ((x1, x2), y1, y2)) := fun h => by have := h.1; simp only at this; omega
      gi_wp2_with (refine ⟨trivial, ?_⟩)
      exact HNO.out hn.out
    · by_cases c2 : 64 ≤ y1
      · have hn : Hid (¬ PrOk ((x1, x2), y1, y2)) := fun h => by have := h.2.1; simp only at this; omega
        gi_wp2_with (refine ⟨trivial, ?_⟩)
        exact HNO.out hn.out
      · have hp : Hid (PrOk ((x1, x2), y1, y2) ↔ EpOk y2) := ⟨fun h => h.2.2, fun h => ⟨by show x1 < y1; omega, by show y1 < 64; omega, h⟩⟩
        have HQ2 := Lib.hid hq2
        clear hq2
        cases q2 with
        | false =>
          gi_wp2_with (refine wideR' (cI.mono ?_); rintro e V' ⟨rfl, rfl⟩)
          exact HNO.out fun h => by cases HQ2.out.2 (hp.out.1 h)
        | true =>
          gi_wp2_with (refine wideR' (cI.mono ?_); rintro e V' ⟨rfl, rfl⟩)
          refine ⟨Keep.refl _ _ _, Below.refl _ _, HV.out.1, fun x hx => ?_, HV.out.2.1⟩
          rcases List.mem_append.1 hx with hx | hx
          · exact HQ.out.1.2.1 x hx
          · rw [List.mem_singleton.1 hx]; exact hp.out.2 (by have := HQ2.out; simpa using this)
  case done =>
    rintro W ⟨hB, hP, hbel⟩ hK
    have hc := hB.cell
    have hf := hB.frozen
    gi_wp2_with fail
    have hK2 := (KeepsOthers.setCell W ⟨w.heap.size, 0, none⟩ (.bool true)).same _ _ hK rfl
    have h2 := ((hB.set (.bool true)).kept (grownBy_putObj' _ (w.heap.size + 2) (.deferred none)) (by simp)).cell
    have h3 : Below w.heap.size w ((W.setCell ⟨w.heap.size, 0, none⟩ (.bool true)).putObj (w.heap.size + 2) (.deferred none)) := (hbel.setCell (p := ⟨w.heap.size, 0, none⟩) (Nat.le_refl _) _).grown (grownBy_putObj' _ _ _) (by simp; exact hbel.size) (fun k e => by cases e; omega)
    obtain rfl : q = true := hq.2 fun i hi => hP _ (List.mem_map.2 ⟨i, List.mem_range.2 hi, rfl⟩)
    refine postM_cell hK2 (v := .bool true) ?_ ⟨rfl, h3⟩
    generalize ((W.setCell ⟨w.heap.size, 0, none⟩ (.bool true)).putObj (w.heap.size + 2) (.deferred none)) = W5 at *
    simp [results, Try.results40, go_sem, h2]
  case stop =>
    rintro ex pre W hpre ⟨hB, ⟨rfl, hP⟩, hbel⟩ hK
    have h2 := (hB.kept (grownBy_putObj' _ (w.heap.size + 2) (.deferred none)) (by simp)).cell
    have h3 : Below w.heap.size w (W.putObj (w.heap.size + 2) (.deferred none)) := hbel.grown (grownBy_putObj' _ _ _) hbel.size (fun k e => by cases e; omega)
    obtain rfl : q = false := by
      cases q with
      | false => rfl
      | true =>
        obtain ⟨x, hx, hn⟩ := hP
        obtain ⟨i, hi, rfl⟩ := List.mem_map.1 (hpre.subset hx)
        exact absurd (hq.1 rfl i (List.mem_range.1 hi)) hn
    gi_wp2_with fail
    refine postM_cell hK (v := .bool false) ?_ ⟨rfl, h3⟩
    generalize (W.putObj (w.heap.size + 2) (.deferred none)) = W5 at *
    simp [results, Try.results40, go_sem, h2]

theorem check_fix6 (M : Int) (v : Value) (ys : List (Int × Int)) (Q : Bool) (hQ : Q = true ↔ BeOk M ys) (w : World) (hE : El w v ys) (hl : ys.length ≤ 3000) :
    Calls Try.prog 25 #[.agg #[.int .i64 M, v]] w fun e w' => e = .returned (.int .i64 (if Q then 0 else 1)) ∧ Below w.heap.size w w' := by
  obtain ⟨a, c, rfl⟩ := hE.1.form
  have hb : Below w.heap.size w (w.alloc (.cells #[.int .i64 M, .slice a ys.length c] 34)) := (Below.refl _ w).alloc (Nat.le_refl _) _
  obtain ⟨q1, hq1⟩ : ∃ q1 : Bool, q1 = true ↔ EpOk M := ⟨decide (EpOk M), decide_eq_true_iff⟩
  obtain ⟨q2, hq2⟩ : ∃ q2 : Bool, q2 = true ↔ ∀ i, i < ys.length → PrOk (prE ys i) := by
    by_cases h : ∀ i, i < ys.length → PrOk (prE ys i)
    · exact ⟨true, ⟨fun _ => h, fun _ => rfl⟩⟩
    · exact ⟨false, ⟨fun h' => (by cases h'), fun h' => absurd h' h⟩⟩
  have CI := Lib.hid (isep_fix M q1 hq1 (w.alloc (.cells #[.int .i64 M, .slice a ys.length c] 34)))
  have CA := Lib.hid (areright_fix _ ys q2 hq2 (w.alloc (.cells #[.int .i64 M, .slice a ys.length c] 34)) (hE.below hb) hl)
  have hQ2 : Q = (q1 && q2) := by
    have h3 : Q = true ↔ (q1 && q2) = true := by
      rw [hQ, Bool.and_eq_true, hq1, hq2, prok_iff]
      exact and_comm
    cases Q <;> cases h : (q1 && q2) <;> simp_all
  have HB := Lib.hid hb
  clear hq1 hq2 hQ hE hb
  subst hQ2
  cases q1 with
  | false =>
    go_enter Try.func25, Try.ntmps25
    go_wp2_with (refine CI.out.mono ?_; rintro e w1 ⟨rfl, rfl⟩)
    go_ret
    exact ⟨rfl, HB.out⟩
  | true =>
    cases q2 with
    | false =>
      go_enter Try.func25, Try.ntmps25
      go_wp2_with fail
      refine CI.out.mono ?_
      rintro e w1 ⟨rfl, rfl⟩
      go_wp2_with fail
      refine CA.out.mono ?_
      rintro e w1 ⟨rfl, hb⟩
      have HB2 := Lib.hid (HB.out.trans (hb.mono HB.out.size))
      clear hb
      go_wp2_with fail
      go_ret
      exact ⟨rfl, HB2.out⟩
    | true =>
      go_enter Try.func25, Try.ntmps25
      go_wp2_with fail
      refine CI.out.mono ?_
      rintro e w1 ⟨rfl, rfl⟩
      go_wp2_with fail
      refine CA.out.mono ?_
      rintro e w1 ⟨rfl, hb⟩
      have HB2 := Lib.hid (HB.out.trans (hb.mono HB.out.size))
      clear hb
      go_wp2_with fail
      go_ret
      exact ⟨rfl, HB2.out⟩
end Go.Proofs.Ytcddicaebecneaa

