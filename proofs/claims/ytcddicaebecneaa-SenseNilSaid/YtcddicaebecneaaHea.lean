/- Who is heard: the program's Heard. No conditions but on lengths. -/
import Derived.Test.YtcddicaebecneaaAre
namespace Go.Proofs.Ytcddicaebecneaa
set_option maxRecDepth 100000
open Go.RowKit
attribute [local go_sem] Oper.semAt_some

theorem abK_ex {β γ : Type} {D E : Nat} {I : γ → β → World → Prop} (h : ∀ c, AbK D E (I c)) : AbK D E (fun s W => ∃ c, I c s W) :=
  fun s W W' row ⟨c, hs⟩ hg hr => ⟨c, h c s W W' row hs hg hr⟩
def I11 (w : World) (id : Int) (pre : List ((Int × Int) × (Int × Int))) (W : World) : Prop :=
  Boxed W (w.heap.size + 1) 3 (.int .i64 id) ∧ Boxed W (w.heap.size + 2) 3 (.int .i64 0) ∧ Boxed W (w.heap.size + 3) 4 (.bool false) ∧ (∀ x ∈ pre, x.2.1 ≠ id) ∧ Below w.heap.size w W
def X11 (w : World) (ys : List (Int × Int)) (id : Int) (ex : Code) (_ : List ((Int × Int) × (Int × Int))) (W : World) : Prop :=
  ∃ e, Boxed W (w.heap.size + 2) 3 (.int .i64 e) ∧ Boxed W (w.heap.size + 3) 4 (.bool true) ∧ (ex = .ret ∧ hear ys id = some e) ∧ Below w.heap.size w W
set_option maxHeartbeats 8000000 in
theorem heard_any (M : Int) (v : Value) (ys : List (Int × Int)) (id : Int) (w : World) (hE : El w v ys) (hl : ys.length ≤ 3000) :
    Calls Try.prog 24 #[.agg #[.int .i64 M, v], .int .i64 id] w fun e w' => e = .returned (.tuple #[.int .i64 ((hear ys id).getD 0), .bool (hear ys id).isSome]) ∧ Below w.heap.size w w' := by
  obtain ⟨a, c, rfl⟩ := hE.1.form
  obtain ⟨W1, hW1⟩ : ∃ W1, W1 = (((w.alloc (.cells #[.int .i64 M, .slice a ys.length c] 34)).alloc (.cells #[.int .i64 id] 3)).alloc (.cells #[.int .i64 0] 3)).alloc (.cells #[.bool false] 4) := ⟨_, rfl⟩
  have hs1 : W1.heap.size = w.heap.size + 4 := by rw [hW1]; simp
  have hb1 : Below w.heap.size w W1 := by rw [hW1]; exact ((((Below.refl w.heap.size w).alloc (Nat.le_refl _) _).alloc (by rw [World.size_alloc]; omega) _).alloc (by rw [World.size_alloc, World.size_alloc]; omega) _).alloc (by rw [World.size_alloc, World.size_alloc, World.size_alloc]; omega) _
  have x1 : W1.cell? ⟨w.heap.size, 1, none⟩ = some (.slice a ys.length c) := by
    have h0 : (w.alloc (.cells #[.int .i64 M, .slice a ys.length c] 34)).cell? ⟨w.heap.size, 1, none⟩ = some (.slice a ys.length c) := by simp
    rw [hW1]
    exact (((((Below.refl (w.heap.size + 1) (w.alloc (.cells #[.int .i64 M, .slice a ys.length c] 34))).alloc (by simp) (.cells #[.int .i64 id] 3)).alloc (by simp) (.cells #[.int .i64 0] 3)).alloc (by simp) (.cells #[.bool false] 4)).cell (p := ⟨w.heap.size, 1, none⟩) (Nat.lt_succ_self _)).trans h0
  have bI : Boxed W1 (w.heap.size + 1) 3 (.int .i64 id) := by
    rw [hW1]
    have := Boxed.new (w.alloc (.cells #[.int .i64 M, .slice a ys.length c] 34)) 3 (.int .i64 id)
    rw [World.size_alloc] at this
    exact (this.alloc _).alloc _
  have bN : Boxed W1 (w.heap.size + 2) 3 (.int .i64 0) := by
    rw [hW1]
    have := Boxed.new ((w.alloc (.cells #[.int .i64 M, .slice a ys.length c] 34)).alloc (.cells #[.int .i64 id] 3)) 3 (.int .i64 0)
    rw [World.size_alloc, World.size_alloc] at this
    exact this.alloc _
  have bB : Boxed W1 (w.heap.size + 3) 4 (.bool false) := by
    rw [hW1]
    have := Boxed.new (((w.alloc (.cells #[.int .i64 M, .slice a ys.length c] 34)).alloc (.cells #[.int .i64 id] 3)).alloc (.cells #[.int .i64 0] 3)) 4 (.bool false)
    rw [World.size_alloc, World.size_alloc, World.size_alloc] at this
    exact this
  have cT := inturn25 _ ys W1 (hE.below hb1).1
  obtain ⟨W2, hW2⟩ : ∃ W2, W2 = W1.alloc (.cells #[.slice a ys.length c] 32) := ⟨_, rfl⟩
  rw [← hW2] at cT
  have hs2 : W2.heap.size = w.heap.size + 5 := by rw [hW2]; simp [hs1]
  have bL : Boxed W2 (w.heap.size + 4) 32 (.slice a ys.length c) := by rw [hW2, ← hs1]; exact Boxed.new W1 32 _
  have hb2 : Below w.heap.size w W2 := by rw [hW2]; exact hb1.alloc (by omega) _
  have h0 : I11 w id [] W2 := by rw [hW2]; exact ⟨bI.alloc _, bN.alloc _, bB.alloc _, fun x h => (by cases h), by rw [← hW2]; exact hb2⟩
  have SQ := iter36 4 w W2 (w.heap.size + 4) a c ys hE hb2 hl bL.cell
  clear bI bN bB bL hb1
  refine callsIn_wide.1 (callsIn_of_wp_marks (n := 5) Try.func24 rfl trivial ?_ rfl)
  simp only [Try.ntmps24, List.size_toArray, List.length_cons, List.length_nil, Nat.reduceAdd, Nat.reduceSub, Array.replicate_succ, Array.replicate_zero, List.push_toArray, List.append_toArray, List.nil_append, List.cons_append]
  gi_wp2_with fail
  rw [← hW1]
  rw [hs1] at cT
  refine wideC' (cT.mono ?_)
  rintro e V2 ⟨rfl, rfl⟩
  clear cT hW1 hW2 x1
  gi_wp2_with fail
  refine wpIn_rangeFuncV rfl (by decide) (gf := 45) (lb := #[.pointer (some ⟨w.heap.size + 4, 0, none⟩)]) rfl trivial (enters_of Try.func45 (by kernel_rfl) rfl) SQ (Below.refl _ _) (fun _ => rfl)
    (w.heap.size + 5) (w.heap.size + 5 + 2 + 2) hs2 rfl (by omega) (by omega) (by omega)
    (I11 w id) (X11 w ys id)
    (abK_and (abK_boxed (by omega) _) (abK_and (abK_boxed (by omega) _) (abK_and (abK_boxed (by omega) _) (abK_and (abK_pure _) (abK_below (by omega) (Nat.le_refl _))))))
    (fun ex => abK_ex fun e => abK_and (abK_boxed (by omega) _) (abK_and (abK_boxed (by omega) _) (abK_and (abK_pure _) (abK_below (by omega) (Nat.le_refl _)))))
    h0 ?round ?done ?stop
  case round =>
    rintro l pre ⟨⟨x1, x2⟩, y1, y2⟩ W hI hsz hpre
    have HQ := Lib.hid (And.intro hI (And.intro hsz (uptoE_at hpre)))
    clear hE hb2 SQ hI hpre h0
    simp [encE]
    gi_wp2_with fail
    refine ⟨Keep.alloc _ _ _ _, (Below.refl _ W).alloc (by omega) _, fun V hg => ?_⟩
    obtain ⟨⟨e0, e1⟩, hs⟩ := one_new y1 y2 hg (by omega)
    have hbi : Boxed V (w.heap.size + 1) 3 (.int .i64 id) := (HQ.out.1.1.alloc _).kept hg (by simp <;> omega)
    have hbn : Boxed V (w.heap.size + 2) 3 (.int .i64 0) := (HQ.out.1.2.1.alloc _).kept hg (by simp <;> omega)
    have hbb : Boxed V (w.heap.size + 3) 4 (.bool false) := (HQ.out.1.2.2.1.alloc _).kept hg (by simp <;> omega)
    have hbw : Below w.heap.size w V := (HQ.out.1.2.2.2.2.alloc (by omega) _).grown hg (by simp; omega) (fun k e => by cases e; omega)
    have HV := Lib.hid (And.intro hbi (And.intro hbn (And.intro hbb (And.intro hbw hg))))
    have r0 := hbi.cell
    have r1 := hbn.cell
    have r2 := hbb.cell
    have f1 := hbn.frozen
    have f2 := hbb.frozen
    clear hbi hbn hbb hbw hg
    generalize W.heap.size = g at *
    obtain ⟨t1, t2, t3⟩ := HQ.out.2.2
    have t4 : ((x1, x2), y1, y2).2 = ys.getD pre.length (0, 0) := by rw [t2]; rfl
    have hlow : ∀ i, i < pre.length → (ys.getD i (0, 0)).1 ≠ id := fun i hi => by
      have := HQ.out.1.2.2.2.1 (prE ys i) (by rw [t3]; exact List.mem_map.2 ⟨i, List.mem_range.2 hi, rfl⟩)
      exact this
    have HT := Lib.hid (And.intro hlow (And.intro t1 t4))
    clear t1 t2 t3 t4 hlow
    by_cases c1 : y1 = id
    · have c1' : (y1 == id) = true := by simpa using c1
      have HH : Hid (hear ys id = some y2) := by
        show _ = _
        have h5 := hear_take HT.out.1 HT.out.2.1
        rw [← HT.out.2.2] at h5
        rw [h5, if_pos c1]
      have HC := Lib.hid c1
      clear c1
      gi_wp2_with fail
      refine ⟨(Keep.setCell V _ _ _ (.inl (by omega))).trans (Keep.setCell _ _ _ _ (.inl (by omega))), y2, (HV.out.2.1.set _).kept (grownBy_setCell' _ _ _) (by simp), ((HV.out.2.2.1.kept (grownBy_setCell' _ _ _) (by simp))).set _, ⟨rfl, HH.out⟩, (HV.out.2.2.2.1.setCell (p := ⟨w.heap.size + 2, 0, none⟩) (by show _ ≤ w.heap.size + 2; omega) _).setCell (p := ⟨w.heap.size + 3, 0, none⟩) (by show _ ≤ w.heap.size + 3; omega) _⟩
    · have c1' : (y1 == id) = false := by simpa using c1
      have HC := Lib.hid c1
      clear c1
      gi_wp2_with fail
      refine ⟨Keep.refl _ _ _, Below.refl _ _, HV.out.1, HV.out.2.1, HV.out.2.2.1, fun x hx => ?_, HV.out.2.2.2.1⟩
      rcases List.mem_append.1 hx with hx | hx
      · exact HQ.out.1.2.2.2.1 x hx
      · rw [List.mem_singleton.1 hx]; exact HC.out
  case done =>
    rintro W ⟨hI, hN, hB, hP, hbel⟩ hK
    have hc := hN.cell
    have hf := hN.frozen
    have hc2 := hB.cell
    have hf2 := hB.frozen
    have hh : hear ys id = none := hear_none fun i hi => hP (prE ys i) (List.mem_map.2 ⟨i, List.mem_range.2 hi, rfl⟩)
    have HH := Lib.hid hh
    clear hh
    gi_wp2_with fail
    have hN2 := (hN.set (.int .i64 0)).kept (grownBy_setCell' (W.setCell ⟨w.heap.size + 2, 0, none⟩ (.int .i64 0)) (w.heap.size + 3) (.bool false)) (by simp)
    have hB2 := (hB.kept (grownBy_setCell' W (w.heap.size + 2) (.int .i64 0)) (by simp)).set (.bool false)
    have hK2 := ((KeepsOthers.setCell W ⟨w.heap.size + 2, 0, none⟩ (.int .i64 0)).trans (KeepsOthers.setCell _ ⟨w.heap.size + 3, 0, none⟩ (.bool false))).same _ _ hK rfl
    have hb3 := (hbel.setCell (p := ⟨w.heap.size + 2, 0, none⟩) (by show _ ≤ w.heap.size + 2; omega) (.int .i64 0)).setCell (p := ⟨w.heap.size + 3, 0, none⟩) (by show _ ≤ w.heap.size + 3; omega) (.bool false)
    generalize (W.setCell ⟨w.heap.size + 2, 0, none⟩ (.int .i64 0)).setCell ⟨w.heap.size + 3, 0, none⟩ (.bool false) = W4 at *
    have h2 := (hN2.kept (grownBy_putObj' _ (w.heap.size + 5) (.deferred none)) (by simp)).cell
    have h3 := (hB2.kept (grownBy_putObj' _ (w.heap.size + 5) (.deferred none)) (by simp)).cell
    have h4 : Below w.heap.size w (W4.putObj (w.heap.size + 5) (.deferred none)) := hb3.grown (grownBy_putObj' _ _ _) hb3.size (fun k e => by cases e; omega)
    refine postM_cell hK2 (v := .tuple #[.int .i64 0, .bool false]) ?_ ⟨by rw [HH.out]; rfl, h4⟩
    generalize (W4.putObj (w.heap.size + 5) (.deferred none)) = W5 at *
    simp [results, Try.results24, go_sem, h2, h3]
  case stop =>
    rintro ex pre W hpre ⟨e, hN, hB, ⟨rfl, hh⟩, hbel⟩ hK
    have h2 := (hN.kept (grownBy_putObj' _ (w.heap.size + 5) (.deferred none)) (by simp)).cell
    have h3 := (hB.kept (grownBy_putObj' _ (w.heap.size + 5) (.deferred none)) (by simp)).cell
    have h4 : Below w.heap.size w (W.putObj (w.heap.size + 5) (.deferred none)) := hbel.grown (grownBy_putObj' _ _ _) hbel.size (fun k e => by cases e; omega)
    have HH := Lib.hid hh
    clear hh
    gi_wp2_with fail
    refine postM_cell hK (v := .tuple #[.int .i64 e, .bool true]) ?_ ⟨by rw [HH.out]; rfl, h4⟩
    generalize (W.putObj (w.heap.size + 5) (.deferred none)) = W5 at *
    simp [results, Try.results24, go_sem, h2, h3]
end Go.Proofs.Ytcddicaebecneaa

