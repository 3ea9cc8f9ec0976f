/- A height read out of bytes: what Parse answers. No conditions. Objects in memory while they are parsed; what the reader answers at its end, of an object; a height that is read next. No conditions. -/
import Derived.Test.YtjghebcnmoojmaaGreatU13
import Derived.Test.YtjghebcnmoojmaaGreatU15
import Derived.Test.YtjghebcnmoojmaaGreatU16
import Derived.Test.YtjghebcnmoojmaaGreatU17
import Derived.Deep.RegionWith
namespace Go.Proofs.YtjghebcnmoojmaaGreat
set_option maxRecDepth 100000
open Go.RowKit Go.Sort

theorem doneP_ok {n : Bool} {t o r d i k e : Int} (h : HtOk n t o r d i) : doneP e true n t o r d i k = parseF n t o r d (i, k, e) := by
 unfold doneP parseF needE
 by_cases he : e = 0
 ·subst he; simp [h]
 ·simp [he]
theorem doneP_no {n : Bool} {t o r d i k e : Int} (h : ¬ HtOk n t o r d i) : doneP e false n t o r d i k = parseF n t o r d (i, k, e) := by
 unfold doneP parseF needE
 by_cases he : e = 0
 ·subst he; simp [h]
 ·simp [he]
theorem short_val {xs : List Int} {k x s e : Int} (h : shortS xs (k, 0) = (x, s, e)) (hx : x ≠ 0) : e = 0 := by
 unfold shortS getS at h
 rw [if_pos rfl] at h
 simp only [] at h
 split at h
 ·simp only [Prod.mk.injEq] at h; omega
 ·split at h
  ·simp only [Prod.mk.injEq] at h; omega
  ·simp only [Prod.mk.injEq] at h; omega
theorem parse_any (v : Value) (k : Int) (xs : List Int) (w : World) (hv : Bs w v xs) : Calls Tryz.prog 140 #[v, .int .i64 k] w fun e w' => e = .returned (parseS xs k).v ∧ Below w.heap.size w w' := by
 obtain ⟨a, l, c, rfl⟩ := Bs_form hv
 obtain ⟨k1, s1, e1, h1⟩ : ∃ x y z, shortS xs (k, 0) = (x, y, z) := ⟨_, _, _, rfl⟩
 by_cases c0 : k1 = 0
 ·subst c0
  obtain ⟨i, s6, e6, h2⟩ : ∃ x y z, shortS xs (s1, e1) = (x, y, z) := ⟨_, _, _, rfl⟩
  have e : parseS xs k = parseF true 0 0 0 0 (i, s6, e6) := by unfold parseS; rw [h1]; simp only [if_true]; rw [h2]
  rw [e]
  by_cases hq : HtOk true 0 0 0 0 i
  ·rw [← doneP_ok hq]
   have D := fun W (hR : Rd W (w.heap.size + 1) s6 e6) => done_any (w.heap.size + 1) true 0 0 0 0 i true s6 e6 W hR
   generalize doneP e6 true true 0 0 0 0 i s6 = P at D ⊢
   exact pn_0 a l c k xs w hv s1 e1 i s6 e6 h1 h2 P.n P.t P.o P.r P.d P.i P.to P.e (fun W => by have hk := check_any true 0 0 0 0 i W; rw [chk_ok hq] at hk; exact hk) D
  ·rw [← doneP_no hq]
   have D := fun W (hR : Rd W (w.heap.size + 1) s6 e6) => done_any (w.heap.size + 1) true 0 0 0 0 i false s6 e6 W hR
   generalize doneP e6 false true 0 0 0 0 i s6 = P at D ⊢
   exact pn_1 a l c k xs w hv s1 e1 i s6 e6 h1 h2 P.n P.t P.o P.r P.d P.i P.to P.e (fun W => by have hk := check_any true 0 0 0 0 i W; rw [chk_no hq] at hk; exact hk) D
 ·by_cases c1 : k1 = 1
  ·subst c1
   obtain ⟨t, s2, e2, h2⟩ : ∃ x y z, longS xs (s1, e1) = (x, y, z) := ⟨_, _, _, rfl⟩
   obtain ⟨o, s3, e3, h3⟩ : ∃ x y z, shortS xs (s2, e2) = (x, y, z) := ⟨_, _, _, rfl⟩
   obtain ⟨r, s4, e4, h4⟩ : ∃ x y z, shortS xs (s3, e3) = (x, y, z) := ⟨_, _, _, rfl⟩
   obtain ⟨d, s5, e5, h5⟩ : ∃ x y z, longS xs (s4, e4) = (x, y, z) := ⟨_, _, _, rfl⟩
   obtain ⟨i, s6, e6, h6⟩ : ∃ x y z, shortS xs (s5, e5) = (x, y, z) := ⟨_, _, _, rfl⟩
   have e : parseS xs k = parseF false t o r d (i, s6, e6) := by unfold parseS; simp only [h1, h2, h3, h4, h5, h6, if_neg c0, if_true]
   rw [e]
   by_cases hq : HtOk false t o r d i
   ·rw [← doneP_ok hq]
    have D := fun W (hR : Rd W (w.heap.size + 1) s6 e6) => done_any (w.heap.size + 1) false t o r d i true s6 e6 W hR
    generalize doneP e6 true false t o r d i s6 = P at D ⊢
    exact pr_0 a l c k xs w hv s1 e1 t s2 e2 o s3 e3 r s4 e4 d s5 e5 i s6 e6 h1 h2 h3 h4 h5 h6 P.n P.t P.o P.r P.d P.i P.to P.e (fun W => by have hk := check_any false t o r d i W; rw [chk_ok hq] at hk; exact hk) D
   ·rw [← doneP_no hq]
    have D := fun W (hR : Rd W (w.heap.size + 1) s6 e6) => done_any (w.heap.size + 1) false t o r d i false s6 e6 W hR
    generalize doneP e6 false false t o r d i s6 = P at D ⊢
    exact pr_1 a l c k xs w hv s1 e1 t s2 e2 o s3 e3 r s4 e4 d s5 e5 i s6 e6 h1 h2 h3 h4 h5 h6 P.n P.t P.o P.r P.d P.i P.to P.e (fun W => by have hk := check_any false t o r d i W; rw [chk_no hq] at hk; exact hk) D
  ·have e : parseS xs k = .no 4 := by unfold parseS; simp only [h1, if_neg c0, if_neg c1]
   have z := short_val h1 c0
   subst z
   have h2 : shortS xs (s1, needE 0 false) = (0, s1, 4) := rfl
   have d4 : ∀ ok, doneP 4 ok false 0 0 0 0 0 s1 = .no 4 := fun ok => by cases ok <;> rfl
   rw [e]
   by_cases hq : HtOk false 0 0 0 0 0
   ·rw [← d4 true]
    have D := fun W (hR : Rd W (w.heap.size + 1) s1 4) => done_any (w.heap.size + 1) false 0 0 0 0 0 true s1 4 W hR
    generalize doneP 4 true false 0 0 0 0 0 s1 = P at D ⊢
    exact po_0 a l c k xs w hv k1 s1 0 0 s1 4 h1 c0 c1 h2 P.n P.t P.o P.r P.d P.i P.to P.e (fun W => by have hk := check_any false 0 0 0 0 0 W; rw [chk_ok hq] at hk; exact hk) D
   ·exact absurd (by decide) hq
end Go.Proofs.YtjghebcnmoojmaaGreat

namespace Go.Proofs.YtjghebcnmoojmaaGreat
set_option maxRecDepth 100000
open Go.RowKit Go.Sort

def Own12 (w : World) (b : Nat) (k x : Int) (n : Bool) (t o r d i p q s m : Int) : Prop := Cells12 w b k x n t o r d i p q s m ∧ ∀ j, w.frozen? ⟨b, j, none⟩ = false
theorem own12_alloc (w : World) (k x : Int) (n : Bool) (t o r d i p q s m : Int) (T : TypeId) (g : Nat) (hg : g = w.heap.size) : Own12 (w.alloc (.cells #[.int .i64 k, .int .i64 x, .bool n, .int .i64 t, .int .i64 o, .int .i64 r, .int .i64 d, .int .i64 i, .int .i64 p, .int .i64 q, .int .i64 s, .int .i64 m] T)) g k x n t o r d i p q s m := by
 subst hg
 exact ⟨cells12_alloc w k x n t o r d i p q s m T, fun j => by simp⟩
theorem Own12.below {w w' : World} {b : Nat} {k x : Int} {n : Bool} {t o r d i p q s m : Int} (h : Own12 w b k x n t o r d i p q s m) (hb : Below w.heap.size w w') : Own12 w' b k x n t o r d i p q s m :=
 ⟨h.1.below hb, fun j => (hb.frozen (p := ⟨b, j, none⟩) (show b < w.heap.size from World.block_lt_of_cell? w _ h.1.1)).trans (h.2 j)⟩
theorem Own12.onl {w w' : World} {b g : Nat} {k x : Int} {n : Bool} {t o r d i p q s m : Int} (h : Own12 w g k x n t o r d i p q s m) (ho : Onl b w w') (hg : g ≠ b) : Own12 w' g k x n t o r d i p q s m := by
 obtain ⟨⟨h0, h1, h2, h3, h4, h5, h6, h7, h8, h9, h10, h11⟩, hf⟩ := h
 have hl := World.block_lt_of_cell? w _ h0
 have f : ∀ {j : Nat} {v : Value}, w.cell? ⟨g, j, none⟩ = some v → w'.cell? ⟨g, j, none⟩ = some v := fun {j v} h => (ho.cell (p := ⟨g, j, none⟩) hg hl).trans h
 exact ⟨⟨f h0, f h1, f h2, f h3, f h4, f h5, f h6, f h7, f h8, f h9, f h10, f h11⟩, fun j => (ho.frozen (p := ⟨g, j, none⟩) hg hl).trans (hf j)⟩
theorem Own12.lt {w : World} {b : Nat} {k x : Int} {n : Bool} {t o r d i p q s m : Int} (h : Own12 w b k x n t o r d i p q s m) : b < w.heap.size := World.block_lt_of_cell? w _ h.1.1
theorem Cells4.onl {w w' : World} {b g : Nat} {a0 a1 a2 a3 : Bool} (h : Cells4 w g a0 a1 a2 a3) (ho : Onl b w w') (hg : g ≠ b) : Cells4 w' g a0 a1 a2 a3 := by
 obtain ⟨h0, h1, h2, h3⟩ := h
 have hl := World.block_lt_of_cell? w _ h0
 have f : ∀ {j : Nat} {v : Value}, w.cell? ⟨g, j, none⟩ = some v → w'.cell? ⟨g, j, none⟩ = some v := fun {j v} h => (ho.cell (p := ⟨g, j, none⟩) hg hl).trans h
 exact ⟨f h0, f h1, f h2, f h3⟩
theorem cells4_alloc (w : World) (a0 a1 a2 a3 : Bool) (T : TypeId) : Cells4 (w.alloc (.cells #[.bool a0, .bool a1, .bool a2, .bool a3] T)) w.heap.size a0 a1 a2 a3 := by
 refine ⟨?_, ?_, ?_, ?_⟩ <;> simp
theorem Cells4.lt {w : World} {b : Nat} {a0 a1 a2 a3 : Bool} (h : Cells4 w b a0 a1 a2 a3) : b < w.heap.size := World.block_lt_of_cell? w _ h.1
set_option maxHeartbeats 4000000 in
theorem Own12.setx {w : World} {b : Nat} {k x : Int} {n : Bool} {t o r d i p q s m : Int} (h : Own12 w b k x n t o r d i p q s m) (x' : Int) : Own12 (w.setCell ⟨b, 1, none⟩ (.int .i64 x')) b k x' n t o r d i p q s m := by
 obtain ⟨⟨h0, h1, h2, h3, h4, h5, h6, h7, h8, h9, h10, h11⟩, hf⟩ := h
 refine ⟨⟨?_, ?_, ?_, ?_, ?_, ?_, ?_, ?_, ?_, ?_, ?_, ?_⟩, fun j => ?_⟩ <;> simp [go_sem, hf, h0, h1, h2, h3, h4, h5, h6, h7, h8, h9, h10, h11]
theorem onl_setx (w : World) (b : Nat) (x' : Int) : Onl b w (w.setCell ⟨b, 1, none⟩ (.int .i64 x')) := ((Onl.refl _ _).set 1 _)
set_option maxHeartbeats 4000000 in
theorem Own12.setm {w : World} {b : Nat} {k x : Int} {n : Bool} {t o r d i p q s m : Int} (h : Own12 w b k x n t o r d i p q s m) (m' : Int) : Own12 (w.setCell ⟨b, 11, none⟩ (.int .i64 m')) b k x n t o r d i p q s m' := by
 obtain ⟨⟨h0, h1, h2, h3, h4, h5, h6, h7, h8, h9, h10, h11⟩, hf⟩ := h
 refine ⟨⟨?_, ?_, ?_, ?_, ?_, ?_, ?_, ?_, ?_, ?_, ?_, ?_⟩, fun j => ?_⟩ <;> simp [go_sem, hf, h0, h1, h2, h3, h4, h5, h6, h7, h8, h9, h10, h11]
theorem onl_setm (w : World) (b : Nat) (m' : Int) : Onl b w (w.setCell ⟨b, 11, none⟩ (.int .i64 m')) := ((Onl.refl _ _).set 11 _)
set_option maxHeartbeats 4000000 in
theorem Own12.setl {w : World} {b : Nat} {k x : Int} {n : Bool} {t o r d i p q s m : Int} (h : Own12 w b k x n t o r d i p q s m) (p' : Int) (q' : Int) (s' : Int) : Own12 (((w.setCell ⟨b, 8, none⟩ (.int .i64 p')).setCell ⟨b, 9, none⟩ (.int .i64 q')).setCell ⟨b, 10, none⟩ (.int .i64 s')) b k x n t o r d i p' q' s' m := by
 obtain ⟨⟨h0, h1, h2, h3, h4, h5, h6, h7, h8, h9, h10, h11⟩, hf⟩ := h
 refine ⟨⟨?_, ?_, ?_, ?_, ?_, ?_, ?_, ?_, ?_, ?_, ?_, ?_⟩, fun j => ?_⟩ <;> simp [go_sem, hf, h0, h1, h2, h3, h4, h5, h6, h7, h8, h9, h10, h11]
theorem onl_setl (w : World) (b : Nat) (p' : Int) (q' : Int) (s' : Int) : Onl b w (((w.setCell ⟨b, 8, none⟩ (.int .i64 p')).setCell ⟨b, 9, none⟩ (.int .i64 q')).setCell ⟨b, 10, none⟩ (.int .i64 s')) := ((((Onl.refl _ _).set 8 _).set 9 _).set 10 _)
set_option maxHeartbeats 4000000 in
theorem Own12.seth {w : World} {b : Nat} {k x : Int} {n : Bool} {t o r d i p q s m : Int} (h : Own12 w b k x n t o r d i p q s m) (n' : Bool) (t' : Int) (o' : Int) (r' : Int) (d' : Int) (i' : Int) : Own12 ((((((w.setCell ⟨b, 2, none⟩ (.bool n')).setCell ⟨b, 3, none⟩ (.int .i64 t')).setCell ⟨b, 4, none⟩ (.int .i64 o')).setCell ⟨b, 5, none⟩ (.int .i64 r')).setCell ⟨b, 6, none⟩ (.int .i64 d')).setCell ⟨b, 7, none⟩ (.int .i64 i')) b k x n' t' o' r' d' i' p q s m := by
 obtain ⟨⟨h0, h1, h2, h3, h4, h5, h6, h7, h8, h9, h10, h11⟩, hf⟩ := h
 refine ⟨⟨?_, ?_, ?_, ?_, ?_, ?_, ?_, ?_, ?_, ?_, ?_, ?_⟩, fun j => ?_⟩ <;> simp [go_sem, hf, h0, h1, h2, h3, h4, h5, h6, h7, h8, h9, h10, h11]
theorem onl_seth (w : World) (b : Nat) (n' : Bool) (t' : Int) (o' : Int) (r' : Int) (d' : Int) (i' : Int) : Onl b w ((((((w.setCell ⟨b, 2, none⟩ (.bool n')).setCell ⟨b, 3, none⟩ (.int .i64 t')).setCell ⟨b, 4, none⟩ (.int .i64 o')).setCell ⟨b, 5, none⟩ (.int .i64 r')).setCell ⟨b, 6, none⟩ (.int .i64 d')).setCell ⟨b, 7, none⟩ (.int .i64 i')) := (((((((Onl.refl _ _).set 2 _).set 3 _).set 4 _).set 5 _).set 6 _).set 7 _)
set_option maxHeartbeats 4000000 in
theorem Own12.setall {w : World} {b : Nat} {k x : Int} {n : Bool} {t o r d i p q s m : Int} (h : Own12 w b k x n t o r d i p q s m) (k' : Int) (x' : Int) (n' : Bool) (t' : Int) (o' : Int) (r' : Int) (d' : Int) (i' : Int) (p' : Int) (q' : Int) (s' : Int) (m' : Int) : Own12 ((((((((((((w.setCell ⟨b, 0, none⟩ (.int .i64 k')).setCell ⟨b, 1, none⟩ (.int .i64 x')).setCell ⟨b, 2, none⟩ (.bool n')).setCell ⟨b, 3, none⟩ (.int .i64 t')).setCell ⟨b, 4, none⟩ (.int .i64 o')).setCell ⟨b, 5, none⟩ (.int .i64 r')).setCell ⟨b, 6, none⟩ (.int .i64 d')).setCell ⟨b, 7, none⟩ (.int .i64 i')).setCell ⟨b, 8, none⟩ (.int .i64 p')).setCell ⟨b, 9, none⟩ (.int .i64 q')).setCell ⟨b, 10, none⟩ (.int .i64 s')).setCell ⟨b, 11, none⟩ (.int .i64 m')) b k' x' n' t' o' r' d' i' p' q' s' m' := by
 obtain ⟨⟨h0, h1, h2, h3, h4, h5, h6, h7, h8, h9, h10, h11⟩, hf⟩ := h
 refine ⟨⟨?_, ?_, ?_, ?_, ?_, ?_, ?_, ?_, ?_, ?_, ?_, ?_⟩, fun j => ?_⟩ <;> simp [go_sem, hf, h0, h1, h2, h3, h4, h5, h6, h7, h8, h9, h10, h11]
theorem onl_setall (w : World) (b : Nat) (k' : Int) (x' : Int) (n' : Bool) (t' : Int) (o' : Int) (r' : Int) (d' : Int) (i' : Int) (p' : Int) (q' : Int) (s' : Int) (m' : Int) : Onl b w ((((((((((((w.setCell ⟨b, 0, none⟩ (.int .i64 k')).setCell ⟨b, 1, none⟩ (.int .i64 x')).setCell ⟨b, 2, none⟩ (.bool n')).setCell ⟨b, 3, none⟩ (.int .i64 t')).setCell ⟨b, 4, none⟩ (.int .i64 o')).setCell ⟨b, 5, none⟩ (.int .i64 r')).setCell ⟨b, 6, none⟩ (.int .i64 d')).setCell ⟨b, 7, none⟩ (.int .i64 i')).setCell ⟨b, 8, none⟩ (.int .i64 p')).setCell ⟨b, 9, none⟩ (.int .i64 q')).setCell ⟨b, 10, none⟩ (.int .i64 s')).setCell ⟨b, 11, none⟩ (.int .i64 m')) := (((((((((((((Onl.refl _ _).set 0 _).set 1 _).set 2 _).set 3 _).set 4 _).set 5 _).set 6 _).set 7 _).set 8 _).set 9 _).set 10 _).set 11 _)
theorem bel_set12 {B : Nat} {u w : World} {b : Nat} (h : Below B u w) (hB : B ≤ b) (k x : Int) (n : Bool) (t o r d i p q s m : Int) : Below B u ((((((((((((w.setCell ⟨b, 0, none⟩ (.int .i64 k)).setCell ⟨b, 1, none⟩ (.int .i64 x)).setCell ⟨b, 2, none⟩ (.bool n)).setCell ⟨b, 3, none⟩ (.int .i64 t)).setCell ⟨b, 4, none⟩ (.int .i64 o)).setCell ⟨b, 5, none⟩ (.int .i64 r)).setCell ⟨b, 6, none⟩ (.int .i64 d)).setCell ⟨b, 7, none⟩ (.int .i64 i)).setCell ⟨b, 8, none⟩ (.int .i64 p)).setCell ⟨b, 9, none⟩ (.int .i64 q)).setCell ⟨b, 10, none⟩ (.int .i64 s)).setCell ⟨b, 11, none⟩ (.int .i64 m)) := ((((((((((((h.setCell (p := ⟨b, 0, none⟩) hB _).setCell (p := ⟨b, 1, none⟩) hB _).setCell (p := ⟨b, 2, none⟩) hB _).setCell (p := ⟨b, 3, none⟩) hB _).setCell (p := ⟨b, 4, none⟩) hB _).setCell (p := ⟨b, 5, none⟩) hB _).setCell (p := ⟨b, 6, none⟩) hB _).setCell (p := ⟨b, 7, none⟩) hB _).setCell (p := ⟨b, 8, none⟩) hB _).setCell (p := ⟨b, 9, none⟩) hB _).setCell (p := ⟨b, 10, none⟩) hB _).setCell (p := ⟨b, 11, none⟩) hB _)
set_option maxHeartbeats 16000000 in
theorem odone_err (b : Nat) (k x : Int) (n : Bool) (t o r d i p q s m : Int) (ok : Bool) (at' e0 e1 : Int) (w : World) (h : Rd w b at' e0) (hn : needE e0 ok = e1) (he : e1 ≠ 0) :
  Calls Tryz.prog 141 #[.pointer (some ⟨b, 0, none⟩), .agg #[.int .i64 k, .int .i64 x, .bool n, .int .i64 t, .int .i64 o, .int .i64 r, .int .i64 d, .int .i64 i, .int .i64 p, .int .i64 q, .int .i64 s, .int .i64 m], .bool ok] w fun e w' => e = .returned (.tuple #[.agg #[.int .i64 0, .int .i64 0, .bool false, .int .i64 0, .int .i64 0, .int .i64 0, .int .i64 0, .int .i64 0, .int .i64 0, .int .i64 0, .int .i64 0, .int .i64 0], .int .i64 0, .int .i64 e1]) ∧ Onl b w w' := by
 have hne : (e1 == 0) = false := by simpa using he
 have hlt := World.block_lt_of_cell? w _ h.1
 have hb0 : Below w.heap.size w ((w.alloc (.cells #[.int .i64 k, .int .i64 x, .bool n, .int .i64 t, .int .i64 o, .int .i64 r, .int .i64 d, .int .i64 i, .int .i64 p, .int .i64 q, .int .i64 s, .int .i64 m] 63)).alloc (.cells #[.int .i64 0, .int .i64 0, .bool false, .int .i64 0, .int .i64 0, .int .i64 0, .int .i64 0, .int .i64 0, .int .i64 0, .int .i64 0, .int .i64 0, .int .i64 0] 63)) := ((Below.refl _ w).alloc (Nat.le_refl _) _).alloc (by simp) _
 have cN := need_any b ok at' e0 ((w.alloc (.cells #[.int .i64 k, .int .i64 x, .bool n, .int .i64 t, .int .i64 o, .int .i64 r, .int .i64 d, .int .i64 i, .int .i64 p, .int .i64 q, .int .i64 s, .int .i64 m] 63)).alloc (.cells #[.int .i64 0, .int .i64 0, .bool false, .int .i64 0, .int .i64 0, .int .i64 0, .int .i64 0, .int .i64 0, .int .i64 0, .int .i64 0, .int .i64 0, .int .i64 0] 63)) (h.below hb0)
 rw [hn] at cN
 have OB := Lib.hid (own12_alloc (w.alloc (.cells #[.int .i64 k, .int .i64 x, .bool n, .int .i64 t, .int .i64 o, .int .i64 r, .int .i64 d, .int .i64 i, .int .i64 p, .int .i64 q, .int .i64 s, .int .i64 m] 63)) 0 0 false 0 0 0 0 0 0 0 0 0 63 (w.heap.size + 1) (by simp))
 have HB := Lib.hid (Onl.of_below b hb0)
 have HL : Hid (b < w.heap.size) := hlt
 clear h hn he hlt hb0
 go_enter Tryz.func141, Tryz.ntmps141
 go_wp2_with (go_at_call 57; refine cN.mono ?_; rintro e w1 ⟨rfl, hR, hO⟩; replace OB := Lib.hid (OB.out.onl hO (by have := HL.out; omega)); replace HB := Lib.hid (HB.out.trans hO); have R := Lib.hid hR; clear hO hR; obtain ⟨z0, z1, zf⟩ := R.out)
 have OB2 := Lib.hid (OB.out.below ((Below.refl _ _).alloc (Nat.le_refl _) (.cells #[.int .i64 0, .int .i64 0, .bool false, .int .i64 0, .int .i64 0, .int .i64 0, .int .i64 0, .int .i64 0, .int .i64 0, .int .i64 0, .int .i64 0, .int .i64 0] 63)))
 have OZ := Lib.hid (own12_alloc w1 0 0 false 0 0 0 0 0 0 0 0 0 63 w1.heap.size rfl)
 have R2 := Lib.hid (R.out.alloc (.cells #[.int .i64 0, .int .i64 0, .bool false, .int .i64 0, .int .i64 0, .int .i64 0, .int .i64 0, .int .i64 0, .int .i64 0, .int .i64 0, .int .i64 0, .int .i64 0] 63))
 have HB2 := Lib.hid (HB.out.alloc (.cells #[.int .i64 0, .int .i64 0, .bool false, .int .i64 0, .int .i64 0, .int .i64 0, .int .i64 0, .int .i64 0, .int .i64 0, .int .i64 0, .int .i64 0, .int .i64 0] 63))
 have hne2 : Hid (w.heap.size + 1 < w1.heap.size) := OB.out.lt
 clear z0 z1 zf R OB HB
 generalize w1.alloc (.cells #[.int .i64 0, .int .i64 0, .bool false, .int .i64 0, .int .i64 0, .int .i64 0, .int .i64 0, .int .i64 0, .int .i64 0, .int .i64 0, .int .i64 0, .int .i64 0] 63) = V at *
 obtain ⟨z0, z1, zf⟩ := R2.out
 obtain ⟨⟨q0, q1, q2, q3, q4, q5, q6, q7, q8, q9, q10, q11⟩, qf⟩ := OZ.out
 obtain ⟨⟨u0, u1, u2, u3, u4, u5, u6, u7, u8, u9, u10, u11⟩, uf⟩ := OB2.out
 have hd1 : b ≠ w.heap.size + 1 := by have := HL.out; omega
 have hd2 : w.heap.size + 1 ≠ b := by have := HL.out; omega
 go_region
 go_wp2_with fail
 have hs := (OB2.out.setall 0 0 false 0 0 0 0 0 0 0 0 0).1
 have hbs := bel_set12 (B := w.heap.size) (Below.refl _ V) (b := w.heap.size + 1) (by omega) 0 0 false 0 0 0 0 0 0 0 0 0
 generalize ((((((((((((V.setCell ⟨(w.heap.size + 1), 0, none⟩ (.int .i64 0)).setCell ⟨(w.heap.size + 1), 1, none⟩ (.int .i64 0)).setCell ⟨(w.heap.size + 1), 2, none⟩ (.bool false)).setCell ⟨(w.heap.size + 1), 3, none⟩ (.int .i64 0)).setCell ⟨(w.heap.size + 1), 4, none⟩ (.int .i64 0)).setCell ⟨(w.heap.size + 1), 5, none⟩ (.int .i64 0)).setCell ⟨(w.heap.size + 1), 6, none⟩ (.int .i64 0)).setCell ⟨(w.heap.size + 1), 7, none⟩ (.int .i64 0)).setCell ⟨(w.heap.size + 1), 8, none⟩ (.int .i64 0)).setCell ⟨(w.heap.size + 1), 9, none⟩ (.int .i64 0)).setCell ⟨(w.heap.size + 1), 10, none⟩ (.int .i64 0)).setCell ⟨(w.heap.size + 1), 11, none⟩ (.int .i64 0)) = W5 at *
 obtain ⟨s0_, s1_, s2_, s3_, s4_, s5_, s6_, s7_, s8_, s9_, s10_, s11_⟩ := hs
 exact bodyPost_ret (v := .tuple #[.agg #[.int .i64 0, .int .i64 0, .bool false, .int .i64 0, .int .i64 0, .int .i64 0, .int .i64 0, .int .i64 0, .int .i64 0, .int .i64 0, .int .i64 0, .int .i64 0], .int .i64 0, .int .i64 e1]) (by simp [results, Tryz.results141, go_sem, s0_, s1_, s2_, s3_, s4_, s5_, s6_, s7_, s8_, s9_, s10_, s11_]) rfl ⟨rfl, HB2.out.then hbs.drew (Nat.le_refl _)⟩
set_option maxHeartbeats 16000000 in
theorem odone_ok (b : Nat) (k x : Int) (n : Bool) (t o r d i p q s m : Int) (at' : Int) (w : World) (h : Rd w b at' 0) :
  Calls Tryz.prog 141 #[.pointer (some ⟨b, 0, none⟩), .agg #[.int .i64 k, .int .i64 x, .bool n, .int .i64 t, .int .i64 o, .int .i64 r, .int .i64 d, .int .i64 i, .int .i64 p, .int .i64 q, .int .i64 s, .int .i64 m], .bool true] w fun e w' => e = .returned (.tuple #[.agg #[.int .i64 k, .int .i64 x, .bool n, .int .i64 t, .int .i64 o, .int .i64 r, .int .i64 d, .int .i64 i, .int .i64 p, .int .i64 q, .int .i64 s, .int .i64 m], .int .i64 at', .int .i64 0]) ∧ Onl b w w' := by
 have hlt := World.block_lt_of_cell? w _ h.1
 have hb0 : Below w.heap.size w ((w.alloc (.cells #[.int .i64 k, .int .i64 x, .bool n, .int .i64 t, .int .i64 o, .int .i64 r, .int .i64 d, .int .i64 i, .int .i64 p, .int .i64 q, .int .i64 s, .int .i64 m] 63)).alloc (.cells #[.int .i64 0, .int .i64 0, .bool false, .int .i64 0, .int .i64 0, .int .i64 0, .int .i64 0, .int .i64 0, .int .i64 0, .int .i64 0, .int .i64 0, .int .i64 0] 63)) := ((Below.refl _ w).alloc (Nat.le_refl _) _).alloc (by simp) _
 have cN := need_any b true at' 0 ((w.alloc (.cells #[.int .i64 k, .int .i64 x, .bool n, .int .i64 t, .int .i64 o, .int .i64 r, .int .i64 d, .int .i64 i, .int .i64 p, .int .i64 q, .int .i64 s, .int .i64 m] 63)).alloc (.cells #[.int .i64 0, .int .i64 0, .bool false, .int .i64 0, .int .i64 0, .int .i64 0, .int .i64 0, .int .i64 0, .int .i64 0, .int .i64 0, .int .i64 0, .int .i64 0] 63)) (h.below hb0)
 rw [show needE 0 true = 0 from rfl] at cN
 have OA := Lib.hid ((own12_alloc w k x n t o r d i p q s m 63 w.heap.size rfl).below ((Below.refl _ _).alloc (Nat.le_refl _) (.cells #[.int .i64 0, .int .i64 0, .bool false, .int .i64 0, .int .i64 0, .int .i64 0, .int .i64 0, .int .i64 0, .int .i64 0, .int .i64 0, .int .i64 0, .int .i64 0] 63)))
 have OB := Lib.hid (own12_alloc (w.alloc (.cells #[.int .i64 k, .int .i64 x, .bool n, .int .i64 t, .int .i64 o, .int .i64 r, .int .i64 d, .int .i64 i, .int .i64 p, .int .i64 q, .int .i64 s, .int .i64 m] 63)) 0 0 false 0 0 0 0 0 0 0 0 0 63 (w.heap.size + 1) (by simp))
 have HB := Lib.hid (Onl.of_below b hb0)
 have HL : Hid (b < w.heap.size) := hlt
 clear h hlt hb0
 go_enter Tryz.func141, Tryz.ntmps141
 go_wp2_with (go_at_call 57; refine cN.mono ?_; rintro e w1 ⟨rfl, hR, hO⟩; replace OB := Lib.hid (OB.out.onl hO (by have := HL.out; omega)); replace OA := Lib.hid (OA.out.onl hO (by have := HL.out; omega)); replace HB := Lib.hid (HB.out.trans hO); have R := Lib.hid hR; clear hO hR; obtain ⟨z0, z1, zf⟩ := R.out)
 obtain ⟨⟨q0, q1, q2, q3, q4, q5, q6, q7, q8, q9, q10, q11⟩, qf⟩ := OA.out
 obtain ⟨⟨u0, u1, u2, u3, u4, u5, u6, u7, u8, u9, u10, u11⟩, uf⟩ := OB.out
 have hd1 : b ≠ w.heap.size + 1 := by have := HL.out; omega
 have hd2 : w.heap.size + 1 ≠ b := by have := HL.out; omega
 go_region
 go_wp2_with fail
 have hs := (OB.out.setall k x n t o r d i p q s m).1
 have hbs := bel_set12 (B := w.heap.size) (Below.refl _ w1) (b := w.heap.size + 1) (by omega) k x n t o r d i p q s m
 generalize ((((((((((((w1.setCell ⟨(w.heap.size + 1), 0, none⟩ (.int .i64 k)).setCell ⟨(w.heap.size + 1), 1, none⟩ (.int .i64 x)).setCell ⟨(w.heap.size + 1), 2, none⟩ (.bool n)).setCell ⟨(w.heap.size + 1), 3, none⟩ (.int .i64 t)).setCell ⟨(w.heap.size + 1), 4, none⟩ (.int .i64 o)).setCell ⟨(w.heap.size + 1), 5, none⟩ (.int .i64 r)).setCell ⟨(w.heap.size + 1), 6, none⟩ (.int .i64 d)).setCell ⟨(w.heap.size + 1), 7, none⟩ (.int .i64 i)).setCell ⟨(w.heap.size + 1), 8, none⟩ (.int .i64 p)).setCell ⟨(w.heap.size + 1), 9, none⟩ (.int .i64 q)).setCell ⟨(w.heap.size + 1), 10, none⟩ (.int .i64 s)).setCell ⟨(w.heap.size + 1), 11, none⟩ (.int .i64 m)) = W5 at *
 obtain ⟨s0_, s1_, s2_, s3_, s4_, s5_, s6_, s7_, s8_, s9_, s10_, s11_⟩ := hs
 exact bodyPost_ret (v := .tuple #[.agg #[.int .i64 k, .int .i64 x, .bool n, .int .i64 t, .int .i64 o, .int .i64 r, .int .i64 d, .int .i64 i, .int .i64 p, .int .i64 q, .int .i64 s, .int .i64 m], .int .i64 at', .int .i64 0]) (by simp [results, Tryz.results141, go_sem, s0_, s1_, s2_, s3_, s4_, s5_, s6_, s7_, s8_, s9_, s10_, s11_]) rfl ⟨rfl, HB.out.then hbs.drew (Nat.le_refl _)⟩
structure OP where
 k : Int
 x : Int
 n : Bool
 t : Int
 o : Int
 r : Int
 d : Int
 i : Int
 p : Int
 q : Int
 s : Int
 m : Int
 to : Int
 e : Int
def OP.v (b : OP) : Value := .tuple #[.agg #[.int .i64 b.k, .int .i64 b.x, .bool b.n, .int .i64 b.t, .int .i64 b.o, .int .i64 b.r, .int .i64 b.d, .int .i64 b.i, .int .i64 b.p, .int .i64 b.q, .int .i64 b.s, .int .i64 b.m], .int .i64 b.to, .int .i64 b.e]
def OP.no (e : Int) : OP := ⟨0, 0, false, 0, 0, 0, 0, 0, 0, 0, 0, 0, 0, e⟩
def odoneP (e0 : Int) (ok : Bool) (k x : Int) (n : Bool) (t o r d i p q s m : Int) (at' : Int) : OP := if needE e0 ok = 0 then ⟨k, x, n, t, o, r, d, i, p, q, s, m, at', 0⟩ else .no (needE e0 ok)
theorem odone_any (b : Nat) (k x : Int) (n : Bool) (t o r d i p q s m : Int) (ok : Bool) (at' e0 : Int) (w : World) (h : Rd w b at' e0) :
  Calls Tryz.prog 141 #[.pointer (some ⟨b, 0, none⟩), .agg #[.int .i64 k, .int .i64 x, .bool n, .int .i64 t, .int .i64 o, .int .i64 r, .int .i64 d, .int .i64 i, .int .i64 p, .int .i64 q, .int .i64 s, .int .i64 m], .bool ok] w fun e w' => e = .returned (odoneP e0 ok k x n t o r d i p q s m at').v ∧ Onl b w w' := by
 unfold odoneP
 by_cases he : needE e0 ok = 0
 ·rw [if_pos he]
  have h0 : e0 = 0 := by unfold needE at he; split at he <;> omega
  subst h0
  have h1 : ok = true := by cases ok with
   | true => rfl
   | false => simp [needE] at he
  subst h1
  exact odone_ok b k x n t o r d i p q s m at' w h
 ·rw [if_neg he]
  exact odone_err b k x n t o r d i p q s m ok at' e0 _ w h rfl he
def nextP (xs : List Int) (u : Int × Int) : PR := if u.2 = 0 then parseS xs u.1 else ⟨false, 0, 0, 0, 0, 0, u.1, u.2⟩
set_option maxHeartbeats 8000000 in
theorem nexth_any (b : Nat) (v : Value) (xs : List Int) (at' e0 : Int) (n : Bool) (t o r d i s3 e3 : Int) (w : World) (h : Rd w b at' e0) (hv : Bs w v xs) (hp : nextP xs (at', e0) = ⟨n, t, o, r, d, i, s3, e3⟩) :
  Calls Tryz.prog 139 #[.pointer (some ⟨b, 0, none⟩), v, .func (Fn.func 140) #[] #[]] w fun e w' => e = .returned (.agg #[.bool n, .int .i64 t, .int .i64 o, .int .i64 r, .int .i64 d, .int .i64 i]) ∧ Rd w' b s3 e3 ∧ Onl b w w' := by
 have hlt : b < w.heap.size := World.block_lt_of_cell? w _ h.1
 have HL := Lib.hid hlt
 have hb0 : Below w.heap.size w ((w.alloc (.cells #[.bool false, .int .i64 0, .int .i64 0, .int .i64 0, .int .i64 0, .int .i64 0] 59)).alloc (.cells #[.bool false, .int .i64 0, .int .i64 0, .int .i64 0, .int .i64 0, .int .i64 0] 59)) := ((Below.refl _ w).alloc (Nat.le_refl _) _).alloc (by simp) _
 have OA := Lib.hid ((own6_alloc w false 0 0 0 0 0 59 w.heap.size rfl).below ((Below.refl _ _).alloc (Nat.le_refl _) (.cells #[.bool false, .int .i64 0, .int .i64 0, .int .i64 0, .int .i64 0, .int .i64 0] 59)))
 have OB := Lib.hid (own6_alloc (w.alloc (.cells #[.bool false, .int .i64 0, .int .i64 0, .int .i64 0, .int .i64 0, .int .i64 0] 59)) false 0 0 0 0 0 59 (w.heap.size + 1) (by simp))
 have HB := Lib.hid (Onl.of_below b hb0)
 have R := Lib.hid (h.below hb0)
 have RV := Lib.hid (Bs_below hv hb0)
 obtain ⟨a, l, c, rfl⟩ := Bs_form hv
 have hd1 : b ≠ w.heap.size + 1 := by omega
 have hd2 : w.heap.size + 1 ≠ b := by omega
 have hd3 : b ≠ w.heap.size := by omega
 have hd4 : w.heap.size ≠ b := by omega
 clear h hv hb0 hlt
 by_cases he : e0 = 0
 ·subst he
  rw [nextP, if_pos rfl] at hp
  simp only [] at hp
  have cP := parse_any (.slice a l c) at' xs ((w.alloc (.cells #[.bool false, .int .i64 0, .int .i64 0, .int .i64 0, .int .i64 0, .int .i64 0] 59)).alloc (.cells #[.bool false, .int .i64 0, .int .i64 0, .int .i64 0, .int .i64 0, .int .i64 0] 59)) RV.out
  rw [hp] at cP
  unfold PR.v at cP
  clear hp
  go_enter Tryz.func139, Tryz.ntmps139
  have W0 : ∃ V0, (w.alloc (.cells #[.bool false, .int .i64 0, .int .i64 0, .int .i64 0, .int .i64 0, .int .i64 0] 59)).alloc (.cells #[.bool false, .int .i64 0, .int .i64 0, .int .i64 0, .int .i64 0, .int .i64 0] 59) = V0 := ⟨_, rfl⟩
  obtain ⟨V0, hV0⟩ := W0
  rw [hV0] at cP OA OB HB R RV
  obtain ⟨z0, z1, zf⟩ := R.out
  obtain ⟨⟨q0, q1, q2, q3, q4, q5⟩, qf⟩ := OA.out
  obtain ⟨⟨u0, u1, u2, u3, u4, u5⟩, uf⟩ := OB.out
  go_wp2_with fail
  refine cP.mono ?_
  rintro e V1 ⟨rfl, hb⟩
  clear z0 z1 zf q0 q1 q2 q3 q4 q5 qf u0 u1 u2 u3 u4 u5 uf
  replace OA := Lib.hid (OA.out.below hb)
  replace OB := Lib.hid (OB.out.below hb)
  replace R := Lib.hid (R.out.below hb)
  replace HB := Lib.hid (HB.out.trans (Onl.of_below b hb))
  clear hb hV0 RV
  obtain ⟨V2, hV2⟩ : ∃ V2, ((((((V1.setCell ⟨(w.heap.size + 1), 0, none⟩ (.bool n)).setCell ⟨(w.heap.size + 1), 1, none⟩ (.int .i64 t)).setCell ⟨(w.heap.size + 1), 2, none⟩ (.int .i64 o)).setCell ⟨(w.heap.size + 1), 3, none⟩ (.int .i64 r)).setCell ⟨(w.heap.size + 1), 4, none⟩ (.int .i64 d)).setCell ⟨(w.heap.size + 1), 5, none⟩ (.int .i64 i)) = V2 := ⟨_, rfl⟩
  have OB2 := Lib.hid (OB.out.set n t o r d i)
  have O2 : Onl (w.heap.size + 1) V1 ((((((V1.setCell ⟨(w.heap.size + 1), 0, none⟩ (.bool n)).setCell ⟨(w.heap.size + 1), 1, none⟩ (.int .i64 t)).setCell ⟨(w.heap.size + 1), 2, none⟩ (.int .i64 o)).setCell ⟨(w.heap.size + 1), 3, none⟩ (.int .i64 r)).setCell ⟨(w.heap.size + 1), 4, none⟩ (.int .i64 d)).setCell ⟨(w.heap.size + 1), 5, none⟩ (.int .i64 i)) := (((((((Onl.refl _ _).set 0 _).set 1 _).set 2 _).set 3 _).set 4 _).set 5 _)
  have hbel : Below w.heap.size V1 ((((((V1.setCell ⟨(w.heap.size + 1), 0, none⟩ (.bool n)).setCell ⟨(w.heap.size + 1), 1, none⟩ (.int .i64 t)).setCell ⟨(w.heap.size + 1), 2, none⟩ (.int .i64 o)).setCell ⟨(w.heap.size + 1), 3, none⟩ (.int .i64 r)).setCell ⟨(w.heap.size + 1), 4, none⟩ (.int .i64 d)).setCell ⟨(w.heap.size + 1), 5, none⟩ (.int .i64 i)) := bel_set6 (Below.refl _ _) (by omega) n t o r d i
  rw [hV2] at OB2 O2 hbel
  have OA2 := Lib.hid (OA.out.onl O2 (by omega))
  have R2 := Lib.hid (R.out.onl O2 (by omega))
  have HB2 := Lib.hid (HB.out.then hbel (Nat.le_refl _))
  clear O2 hbel
  obtain ⟨⟨u0, u1, u2, u3, u4, u5⟩, uf⟩ := OB.out
  obtain ⟨z0, z1, zf⟩ := R2.out
  obtain ⟨V3, hV3⟩ : ∃ V3, (V2.setCell ⟨b, 0, none⟩ (.int .i64 s3)).setCell ⟨b, 1, none⟩ (.int .i64 e3) = V3 := ⟨_, rfl⟩
  have R3 := Lib.hid (R2.out.set s3 e3)
  have O3 : Onl b V2 ((V2.setCell ⟨b, 0, none⟩ (.int .i64 s3)).setCell ⟨b, 1, none⟩ (.int .i64 e3)) := ((Onl.refl _ _).set 0 _).set 1 _
  rw [hV3] at R3 O3
  have OA3 := Lib.hid (OA2.out.onl O3 hd4)
  have OB3 := Lib.hid (OB2.out.onl O3 hd2)
  have HB3 := Lib.hid (HB2.out.trans O3)
  clear O3
  obtain ⟨⟨m0, m1, m2, m3, m4, m5⟩, mf⟩ := OB3.out
  obtain ⟨⟨q0, q1, q2, q3, q4, q5⟩, qf⟩ := OA3.out
  go_wp2_with fail
  have hs := set6 OA3.out.1 n t o r d i
  have hbs := bel_set6 (B := w.heap.size) (Below.refl _ V3) (b := w.heap.size) (Nat.le_refl _) n t o r d i
  have hO4 : Onl w.heap.size V3 ((((((V3.setCell ⟨w.heap.size, 0, none⟩ (.bool n)).setCell ⟨w.heap.size, 1, none⟩ (.int .i64 t)).setCell ⟨w.heap.size, 2, none⟩ (.int .i64 o)).setCell ⟨w.heap.size, 3, none⟩ (.int .i64 r)).setCell ⟨w.heap.size, 4, none⟩ (.int .i64 d)).setCell ⟨w.heap.size, 5, none⟩ (.int .i64 i)) := (((((((Onl.refl _ _).set 0 _).set 1 _).set 2 _).set 3 _).set 4 _).set 5 _)
  generalize ((((((V3.setCell ⟨w.heap.size, 0, none⟩ (.bool n)).setCell ⟨w.heap.size, 1, none⟩ (.int .i64 t)).setCell ⟨w.heap.size, 2, none⟩ (.int .i64 o)).setCell ⟨w.heap.size, 3, none⟩ (.int .i64 r)).setCell ⟨w.heap.size, 4, none⟩ (.int .i64 d)).setCell ⟨w.heap.size, 5, none⟩ (.int .i64 i)) = W5 at *
  obtain ⟨s0_, s1_, s2_, s3_, s4_, s5_⟩ := hs
  exact bodyPost_ret (v := .agg #[.bool n, .int .i64 t, .int .i64 o, .int .i64 r, .int .i64 d, .int .i64 i]) (by simp [results, Tryz.results139, go_sem, s0_, s1_, s2_, s3_, s4_, s5_]) rfl ⟨rfl, R3.out.onl hO4 hd3, HB3.out.then hbs (Nat.le_refl _)⟩
 ·have hne : (e0 == 0) = false := by simpa using he
  rw [nextP, if_neg he] at hp
  simp only [PR.mk.injEq] at hp
  obtain ⟨rfl, rfl, rfl, rfl, rfl, rfl, rfl, rfl⟩ := hp
  have HE := Lib.hid he
  clear he
  go_enter Tryz.func139, Tryz.ntmps139
  have W0 : ∃ V0, (w.alloc (.cells #[.bool false, .int .i64 0, .int .i64 0, .int .i64 0, .int .i64 0, .int .i64 0] 59)).alloc (.cells #[.bool false, .int .i64 0, .int .i64 0, .int .i64 0, .int .i64 0, .int .i64 0] 59) = V0 := ⟨_, rfl⟩
  obtain ⟨V0, hV0⟩ := W0
  rw [hV0] at OA OB HB R RV
  obtain ⟨z0, z1, zf⟩ := R.out
  obtain ⟨⟨q0, q1, q2, q3, q4, q5⟩, qf⟩ := OA.out
  obtain ⟨⟨u0, u1, u2, u3, u4, u5⟩, uf⟩ := OB.out
  go_wp2_with fail
  have hs := set6 OA.out.1 false 0 0 0 0 0
  have hbs := bel_set6 (B := w.heap.size) (Below.refl _ V0) (b := w.heap.size) (Nat.le_refl _) false 0 0 0 0 0
  have hO4 : Onl w.heap.size V0 ((((((V0.setCell ⟨w.heap.size, 0, none⟩ (.bool false)).setCell ⟨w.heap.size, 1, none⟩ (.int .i64 0)).setCell ⟨w.heap.size, 2, none⟩ (.int .i64 0)).setCell ⟨w.heap.size, 3, none⟩ (.int .i64 0)).setCell ⟨w.heap.size, 4, none⟩ (.int .i64 0)).setCell ⟨w.heap.size, 5, none⟩ (.int .i64 0)) := (((((((Onl.refl _ _).set 0 _).set 1 _).set 2 _).set 3 _).set 4 _).set 5 _)
  generalize ((((((V0.setCell ⟨w.heap.size, 0, none⟩ (.bool false)).setCell ⟨w.heap.size, 1, none⟩ (.int .i64 0)).setCell ⟨w.heap.size, 2, none⟩ (.int .i64 0)).setCell ⟨w.heap.size, 3, none⟩ (.int .i64 0)).setCell ⟨w.heap.size, 4, none⟩ (.int .i64 0)).setCell ⟨w.heap.size, 5, none⟩ (.int .i64 0)) = W5 at *
  obtain ⟨s0_, s1_, s2_, s3_, s4_, s5_⟩ := hs
  exact bodyPost_ret (v := .agg #[.bool false, .int .i64 0, .int .i64 0, .int .i64 0, .int .i64 0, .int .i64 0]) (by simp [results, Tryz.results139, go_sem, s0_, s1_, s2_, s3_, s4_, s5_]) rfl ⟨rfl, R.out.onl hO4 hd3, HB.out.then hbs (Nat.le_refl _)⟩
end Go.Proofs.YtjghebcnmoojmaaGreat
