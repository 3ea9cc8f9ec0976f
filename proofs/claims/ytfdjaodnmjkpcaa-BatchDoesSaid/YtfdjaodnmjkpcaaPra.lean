/- A height read out of bytes: what Parse answers. No conditions. -/
import Derived.Test.YtfdjaodnmjkpcaaPr1
import Derived.Test.YtfdjaodnmjkpcaaPr2
import Derived.Test.YtfdjaodnmjkpcaaPr3
namespace Go.Proofs.Ytfdjaodnmjkpcaa
open Go.RowKit Go.Sort

theorem doneP_ok {n : Bool} {t o r d i k e : Int} (h : HtOk n t o r d i) : doneP e true n t o r d i k = parseF n t o r d (i, k, e) := by
  unfold doneP parseF needE
  by_cases he : e = 0
  · subst he; simp [h]
  · simp [he]
theorem doneP_no {n : Bool} {t o r d i k e : Int} (h : ¬ HtOk n t o r d i) : doneP e false n t o r d i k = parseF n t o r d (i, k, e) := by
  unfold doneP parseF needE
  by_cases he : e = 0
  · subst he; simp [h]
  · simp [he]
theorem short_val {xs : List Int} {k x s e : Int} (h : shortS xs (k, 0) = (x, s, e)) (hx : x ≠ 0) : e = 0 := by
  unfold shortS getS at h
  rw [if_pos rfl] at h
  simp only [] at h
  split at h
  · simp only [Prod.mk.injEq] at h; omega
  · split at h
    · simp only [Prod.mk.injEq] at h; omega
    · simp only [Prod.mk.injEq] at h; omega
theorem parse_any (v : Value) (k : Int) (xs : List Int) (w : World) (hv : Bs w v xs) : Calls Try.prog 54 #[v, .int .i64 k] w fun e w' => e = .returned (parseS xs k).v ∧ Below w.heap.size w w' := by
  obtain ⟨a, l, c, rfl⟩ := Bs_form hv
  obtain ⟨k1, s1, e1, h1⟩ : ∃ x y z, shortS xs (k, 0) = (x, y, z) := ⟨_, _, _, rfl⟩
  by_cases c0 : k1 = 0
  · subst c0
    obtain ⟨i, s6, e6, h2⟩ : ∃ x y z, shortS xs (s1, e1) = (x, y, z) := ⟨_, _, _, rfl⟩
    have e : parseS xs k = parseF true 0 0 0 0 (i, s6, e6) := by unfold parseS; rw [h1]; simp only [if_true]; rw [h2]
    rw [e]
    by_cases hq : HtOk true 0 0 0 0 i
    · rw [← doneP_ok hq]
      have D := fun W (hR : Rd W (w.heap.size + 1) s6 e6) => done_any (w.heap.size + 1) true 0 0 0 0 i true s6 e6 W hR
      generalize doneP e6 true true 0 0 0 0 i s6 = P at D ⊢
      exact pn_0 a l c k xs w hv s1 e1 i s6 e6 h1 h2 P.n P.t P.o P.r P.d P.i P.to P.e (fun W => by have hk := check_any true 0 0 0 0 i W; rw [chk_ok hq] at hk; exact hk) D
    · rw [← doneP_no hq]
      have D := fun W (hR : Rd W (w.heap.size + 1) s6 e6) => done_any (w.heap.size + 1) true 0 0 0 0 i false s6 e6 W hR
      generalize doneP e6 false true 0 0 0 0 i s6 = P at D ⊢
      exact pn_1 a l c k xs w hv s1 e1 i s6 e6 h1 h2 P.n P.t P.o P.r P.d P.i P.to P.e (fun W => by have hk := check_any true 0 0 0 0 i W; rw [chk_no hq] at hk; exact hk) D
  · by_cases c1 : k1 = 1
    · subst c1
      obtain ⟨t, s2, e2, h2⟩ : ∃ x y z, longS xs (s1, e1) = (x, y, z) := ⟨_, _, _, rfl⟩
      obtain ⟨o, s3, e3, h3⟩ : ∃ x y z, shortS xs (s2, e2) = (x, y, z) := ⟨_, _, _, rfl⟩
      obtain ⟨r, s4, e4, h4⟩ : ∃ x y z, shortS xs (s3, e3) = (x, y, z) := ⟨_, _, _, rfl⟩
      obtain ⟨d, s5, e5, h5⟩ : ∃ x y z, longS xs (s4, e4) = (x, y, z) := ⟨_, _, _, rfl⟩
      obtain ⟨i, s6, e6, h6⟩ : ∃ x y z, shortS xs (s5, e5) = (x, y, z) := ⟨_, _, _, rfl⟩
      have e : parseS xs k = parseF false t o r d (i, s6, e6) := by unfold parseS; simp only [h1, h2, h3, h4, h5, h6, if_neg c0, if_true]
      rw [e]
      by_cases hq : HtOk false t o r d i
      · rw [← doneP_ok hq]
        have D := fun W (hR : Rd W (w.heap.size + 1) s6 e6) => done_any (w.heap.size + 1) false t o r d i true s6 e6 W hR
        generalize doneP e6 true false t o r d i s6 = P at D ⊢
        exact pr_0 a l c k xs w hv s1 e1 t s2 e2 o s3 e3 r s4 e4 d s5 e5 i s6 e6 h1 h2 h3 h4 h5 h6 P.n P.t P.o P.r P.d P.i P.to P.e (fun W => by have hk := check_any false t o r d i W; rw [chk_ok hq] at hk; exact hk) D
      · rw [← doneP_no hq]
        have D := fun W (hR : Rd W (w.heap.size + 1) s6 e6) => done_any (w.heap.size + 1) false t o r d i false s6 e6 W hR
        generalize doneP e6 false false t o r d i s6 = P at D ⊢
        exact pr_1 a l c k xs w hv s1 e1 t s2 e2 o s3 e3 r s4 e4 d s5 e5 i s6 e6 h1 h2 h3 h4 h5 h6 P.n P.t P.o P.r P.d P.i P.to P.e (fun W => by have hk := check_any false t o r d i W; rw [chk_no hq] at hk; exact hk) D
    · have e : parseS xs k = .no 4 := by unfold parseS; simp only [h1, if_neg c0, if_neg c1]
      have z := short_val h1 c0
      subst z
      have h2 : shortS xs (s1, needE 0 false) = (0, s1, 4) := rfl
      have d4 : ∀ ok, doneP 4 ok false 0 0 0 0 0 s1 = .no 4 := fun ok => by cases ok <;> rfl
      rw [e]
      by_cases hq : HtOk false 0 0 0 0 0
      · rw [← d4 true]
        have D := fun W (hR : Rd W (w.heap.size + 1) s1 4) => done_any (w.heap.size + 1) false 0 0 0 0 0 true s1 4 W hR
        generalize doneP 4 true false 0 0 0 0 0 s1 = P at D ⊢
        exact po_0 a l c k xs w hv k1 s1 0 0 s1 4 h1 c0 c1 h2 P.n P.t P.o P.r P.d P.i P.to P.e (fun W => by have hk := check_any false 0 0 0 0 0 W; rw [chk_ok hq] at hk; exact hk) D
      · exact absurd (by decide) hq
#print axioms parse_any
end Go.Proofs.Ytfdjaodnmjkpcaa
