/- An object read out of bytes: what Parse answers. No conditions. What is parsed has the same bytes, what has bytes is parsed, of objects: by the reading's own words. No conditions. Batches: the reference's Right and Bytes; a batch as an argument. No conditions but on lengths. Rows of batches in memory of their own; part of a row of objects. No conditions but on lengths. Objects as batches: the reference's Pack. No conditions but on lengths. Objects as batches: the reference's Pack whole; rows of batches that are compared. No conditions but on lengths. Objects as batches, the plain mathematics: what is cut, whole, in order, as full as may be. No conditions. A row of batches of the call's own whose last one is being filled. No conditions but on lengths. Rows of batches: the reference's Same. No conditions but on lengths. -/
import Derived.Test.YtjghebcnmoojmaaGreatU19
import Derived.Test.YtjghebcnmoojmaaGreatU20
import Derived.Test.YtjghebcnmoojmaaGreatU21
import Derived.Test.YtjghebcnmoojmaaGreatU22
import Derived.Test.YtjghebcnmoojmaaGreatU23
import Derived.Maps.AppendAt
import Derived.Laws.OwnMore
import Derived.ArgAppend
namespace Go.Proofs.YtjghebcnmoojmaaGreat
set_option maxRecDepth 100000
open Go.RowKit Go.Sort

def oparseF (k x : Int) (n : Bool) (t o r d i p q s m : Int) (u : Int × Int) : OP := if u.2 = 0 then (if ObOk k x n t o r d i p q s m then ⟨k, x, n, t, o, r, d, i, p, q, s, m, u.1, 0⟩ else .no 4) else .no u.2
def oparse2 (x : Int) (P : PR) : OP := oparseF 2 x P.n P.t P.o P.r P.d P.i 0 0 0 0 (P.to, P.e)
def oparse3 (x : Int) (p q s : Int × Int × Int) : OP := oparseF 3 x false 0 0 0 0 0 p.1 q.1 s.1 0 s.2
def oparse4 (xs : List Int) (x : Int) (P : PR) : OP := oparseF 4 x P.n P.t P.o P.r P.d P.i 0 0 0 (numS xs 2 (P.to, P.e)).1 (numS xs 2 (P.to, P.e)).2
def oparseD (xs : List Int) (k : Int) (d : Int × Int × Int) : OP :=
 if k = 1 then oparseF 1 d.1 false 0 0 0 0 0 0 0 0 0 d.2
 else if k = 2 then oparse2 d.1 (nextP xs d.2)
 else if k = 3 then oparse3 d.1 (longS xs d.2) (shortS xs (longS xs d.2).2) (shortS xs (shortS xs (longS xs d.2).2).2)
 else oparse4 xs d.1 (nextP xs d.2)
def oparseS (xs : List Int) (k : Int) : OP :=
 if kn (shortS xs (k, 0)).1 = true then oparseD xs (shortS xs (k, 0)).1 (shortS xs (shortS xs (k, 0)).2)
 else .no (needE (shortS xs (k, 0)).2.2 false)
theorem odoneP_ok {k x : Int} {n : Bool} {t o r d i p q s m : Int} {at' e : Int} (h : ObOk k x n t o r d i p q s m) : odoneP e true k x n t o r d i p q s m at' = oparseF k x n t o r d i p q s m (at', e) := by
 unfold odoneP oparseF needE
 by_cases he : e = 0
 ·subst he; simp [h]
 ·simp [he]
theorem odoneP_no {k x : Int} {n : Bool} {t o r d i p q s m : Int} {at' e : Int} (h : ¬ ObOk k x n t o r d i p q s m) : odoneP e false k x n t o r d i p q s m at' = oparseF k x n t o r d i p q s m (at', e) := by
 unfold odoneP oparseF needE
 by_cases he : e = 0
 ·subst he; simp [h]
 ·simp [he]
theorem ok_no' {k x : Int} {n : Bool} {t o r d i p q s m : Int} (h1 : k ≠ 1) (h2 : k ≠ 2) (h3 : k ≠ 3) (h4 : k ≠ 4) : ¬ ObOk k x n t o r d i p q s m := fun h => by
 rcases kind_of h with h | h | h | h
 ·exact h1 h
 ·exact h2 h
 ·exact h3 h
 ·exact h4 h
set_option maxHeartbeats 4000000 in
theorem oparse_any (v : Value) (k : Int) (xs : List Int) (w : World) (hv : Bs w v xs) : Calls Tryz.prog 114 #[v, .int .i64 k] w fun e w' => e = .returned (oparseS xs k).v ∧ Below w.heap.size w w' := by
 obtain ⟨a, l, c, rfl⟩ := Bs_form hv
 obtain ⟨k1, s1, e1, h1⟩ : ∃ x y z, shortS xs (k, 0) = (x, y, z) := ⟨_, _, _, rfl⟩
 by_cases c1 : k1 = 1
 ·subst c1
  obtain ⟨x, s2, e2, h2⟩ : ∃ x y z, shortS xs (s1, e1) = (x, y, z) := ⟨_, _, _, rfl⟩
  have e : oparseS xs k = oparseF 1 x false 0 0 0 0 0 0 0 0 0 (s2, e2) := by unfold oparseS; simp only [h1]; rw [if_pos (show kn 1 = true from rfl)]; unfold oparseD; rw [if_pos rfl, h2]
  rw [e]
  by_cases hq : ObOk 1 x false 0 0 0 0 0 0 0 0 0
  ·rw [← odoneP_ok hq]
   have D := fun W (hR : Rd W (w.heap.size + 1) s2 e2) => odone_any (w.heap.size + 1) 1 x false 0 0 0 0 0 0 0 0 0 true s2 e2 W hR
   generalize odoneP e2 true 1 x false 0 0 0 0 0 0 0 0 0 s2 = O at D ⊢
   exact po1_0 a l c k xs w hv s1 e1 x s2 e2 h1 h2 O.k O.x O.t O.o O.r O.d O.i O.p O.q O.s O.m O.to O.e O.n (fun W => by have hk := ocheck_any 1 x false 0 0 0 0 0 0 0 0 0 W; rw [obc_ok hq] at hk; exact hk) D
  ·rw [← odoneP_no hq]
   have D := fun W (hR : Rd W (w.heap.size + 1) s2 e2) => odone_any (w.heap.size + 1) 1 x false 0 0 0 0 0 0 0 0 0 false s2 e2 W hR
   generalize odoneP e2 false 1 x false 0 0 0 0 0 0 0 0 0 s2 = O at D ⊢
   exact po1_1 a l c k xs w hv s1 e1 x s2 e2 h1 h2 O.k O.x O.t O.o O.r O.d O.i O.p O.q O.s O.m O.to O.e O.n (fun W => by have hk := ocheck_any 1 x false 0 0 0 0 0 0 0 0 0 W; rw [obc_no hq] at hk; exact hk) D
 by_cases c2 : k1 = 2
 ·subst c2
  obtain ⟨x, s2, e2, h2⟩ : ∃ x y z, shortS xs (s1, e1) = (x, y, z) := ⟨_, _, _, rfl⟩
  obtain ⟨n, t, o, r, d, i, s3, e3, h3⟩ : ∃ n t o r d i s3 e3, nextP xs (s2, e2) = ⟨n, t, o, r, d, i, s3, e3⟩ := ⟨_, _, _, _, _, _, _, _, rfl⟩
  have e : oparseS xs k = oparseF 2 x n t o r d i 0 0 0 0 (s3, e3) := by unfold oparseS; simp only [h1]; rw [if_pos (show kn 2 = true from rfl)]; unfold oparseD; rw [if_neg (by decide), if_pos rfl, h2]; simp only [h3]; rfl
  rw [e]
  by_cases hq : ObOk 2 x n t o r d i 0 0 0 0
  ·rw [← odoneP_ok hq]
   have D := fun W (hR : Rd W (w.heap.size + 1) s3 e3) => odone_any (w.heap.size + 1) 2 x n t o r d i 0 0 0 0 true s3 e3 W hR
   generalize odoneP e3 true 2 x n t o r d i 0 0 0 0 s3 = O at D ⊢
   exact po2_0 a l c k xs w hv n s1 e1 x s2 e2 t o r d i s3 e3 h1 h2 h3 O.k O.x O.t O.o O.r O.d O.i O.p O.q O.s O.m O.to O.e O.n (fun W => by have hk := ocheck_any 2 x n t o r d i 0 0 0 0 W; rw [obc_ok hq] at hk; exact hk) D
  ·rw [← odoneP_no hq]
   have D := fun W (hR : Rd W (w.heap.size + 1) s3 e3) => odone_any (w.heap.size + 1) 2 x n t o r d i 0 0 0 0 false s3 e3 W hR
   generalize odoneP e3 false 2 x n t o r d i 0 0 0 0 s3 = O at D ⊢
   exact po2_1 a l c k xs w hv n s1 e1 x s2 e2 t o r d i s3 e3 h1 h2 h3 O.k O.x O.t O.o O.r O.d O.i O.p O.q O.s O.m O.to O.e O.n (fun W => by have hk := ocheck_any 2 x n t o r d i 0 0 0 0 W; rw [obc_no hq] at hk; exact hk) D
 by_cases c3 : k1 = 3
 ·subst c3
  obtain ⟨x, s2, e2, h2⟩ : ∃ x y z, shortS xs (s1, e1) = (x, y, z) := ⟨_, _, _, rfl⟩
  obtain ⟨p, s3, e3, h3⟩ : ∃ x y z, longS xs (s2, e2) = (x, y, z) := ⟨_, _, _, rfl⟩
  obtain ⟨q, s4, e4, h4⟩ : ∃ x y z, shortS xs (s3, e3) = (x, y, z) := ⟨_, _, _, rfl⟩
  obtain ⟨s, s5, e5, h5⟩ : ∃ x y z, shortS xs (s4, e4) = (x, y, z) := ⟨_, _, _, rfl⟩
  have e : oparseS xs k = oparseF 3 x false 0 0 0 0 0 p q s 0 (s5, e5) := by unfold oparseS; simp only [h1]; rw [if_pos (show kn 3 = true from rfl)]; unfold oparseD; rw [if_neg (by decide), if_neg (by decide), if_pos rfl, h2]; simp only [h3, h4, h5]; rfl
  rw [e]
  by_cases hq : ObOk 3 x false 0 0 0 0 0 p q s 0
  ·rw [← odoneP_ok hq]
   have D := fun W (hR : Rd W (w.heap.size + 1) s5 e5) => odone_any (w.heap.size + 1) 3 x false 0 0 0 0 0 p q s 0 true s5 e5 W hR
   generalize odoneP e5 true 3 x false 0 0 0 0 0 p q s 0 s5 = O at D ⊢
   exact po3_0 a l c k xs w hv s1 e1 x s2 e2 p s3 e3 q s4 e4 s s5 e5 h1 h2 h3 h4 h5 O.k O.x O.t O.o O.r O.d O.i O.p O.q O.s O.m O.to O.e O.n (fun W => by have hk := ocheck_any 3 x false 0 0 0 0 0 p q s 0 W; rw [obc_ok hq] at hk; exact hk) D
  ·rw [← odoneP_no hq]
   have D := fun W (hR : Rd W (w.heap.size + 1) s5 e5) => odone_any (w.heap.size + 1) 3 x false 0 0 0 0 0 p q s 0 false s5 e5 W hR
   generalize odoneP e5 false 3 x false 0 0 0 0 0 p q s 0 s5 = O at D ⊢
   exact po3_1 a l c k xs w hv s1 e1 x s2 e2 p s3 e3 q s4 e4 s s5 e5 h1 h2 h3 h4 h5 O.k O.x O.t O.o O.r O.d O.i O.p O.q O.s O.m O.to O.e O.n (fun W => by have hk := ocheck_any 3 x false 0 0 0 0 0 p q s 0 W; rw [obc_no hq] at hk; exact hk) D
 by_cases c4 : k1 = 4
 ·subst c4
  obtain ⟨x, s2, e2, h2⟩ : ∃ x y z, shortS xs (s1, e1) = (x, y, z) := ⟨_, _, _, rfl⟩
  obtain ⟨n, t, o, r, d, i, s3, e3, h3⟩ : ∃ n t o r d i s3 e3, nextP xs (s2, e2) = ⟨n, t, o, r, d, i, s3, e3⟩ := ⟨_, _, _, _, _, _, _, _, rfl⟩
  obtain ⟨m, s4, e4, h4⟩ : ∃ x y z, numS xs 2 (s3, e3) = (x, y, z) := ⟨_, _, _, rfl⟩
  have e : oparseS xs k = oparseF 4 x n t o r d i 0 0 0 m (s4, e4) := by unfold oparseS; simp only [h1]; rw [if_pos (show kn 4 = true from rfl)]; unfold oparseD; rw [if_neg (by decide), if_neg (by decide), if_neg (by decide), h2]; simp only [h3]; unfold oparse4; simp only [h4]
  rw [e]
  by_cases hq : ObOk 4 x n t o r d i 0 0 0 m
  ·rw [← odoneP_ok hq]
   have D := fun W (hR : Rd W (w.heap.size + 1) s4 e4) => odone_any (w.heap.size + 1) 4 x n t o r d i 0 0 0 m true s4 e4 W hR
   generalize odoneP e4 true 4 x n t o r d i 0 0 0 m s4 = O at D ⊢
   exact po4_0 a l c k xs w hv n s1 e1 x s2 e2 t o r d i s3 e3 m s4 e4 h1 h2 h3 h4 O.k O.x O.t O.o O.r O.d O.i O.p O.q O.s O.m O.to O.e O.n (fun W => by have hk := ocheck_any 4 x n t o r d i 0 0 0 m W; rw [obc_ok hq] at hk; exact hk) D
  ·rw [← odoneP_no hq]
   have D := fun W (hR : Rd W (w.heap.size + 1) s4 e4) => odone_any (w.heap.size + 1) 4 x n t o r d i 0 0 0 m false s4 e4 W hR
   generalize odoneP e4 false 4 x n t o r d i 0 0 0 m s4 = O at D ⊢
   exact po4_1 a l c k xs w hv n s1 e1 x s2 e2 t o r d i s3 e3 m s4 e4 h1 h2 h3 h4 O.k O.x O.t O.o O.r O.d O.i O.p O.q O.s O.m O.to O.e O.n (fun W => by have hk := ocheck_any 4 x n t o r d i 0 0 0 m W; rw [obc_no hq] at hk; exact hk) D
 have hk : kn k1 = false := by simp [kn, c1, c2, c3, c4]
 have e : oparseS xs k = .no (needE e1 false) := by unfold oparseS; simp only [h1]; rw [if_neg (by rw [hk]; decide)]
 have hne : needE e1 false ≠ 0 := by unfold needE; by_cases h : e1 = 0 <;> simp [h]
 obtain ⟨E, hE⟩ : ∃ E, needE e1 false = E := ⟨_, rfl⟩
 rw [hE] at hne
 have h2 : shortS xs (s1, needE e1 false) = (0, s1, E) := by rw [hE]; simp [shortS, hne]
 have hq : ¬ ObOk k1 0 false 0 0 0 0 0 0 0 0 0 := ok_no' c1 c2 c3 c4
 have hd : odoneP E false k1 0 false 0 0 0 0 0 0 0 0 0 s1 = .no E := by
  unfold odoneP
  rw [show needE E false = E by simp [needE, hne], if_neg hne]
 rw [e, hE, ← hd]
 have D := fun W (hR : Rd W (w.heap.size + 1) s1 E) => odone_any (w.heap.size + 1) k1 0 false 0 0 0 0 0 0 0 0 0 false s1 E W hR
 generalize odoneP E false k1 0 false 0 0 0 0 0 0 0 0 0 s1 = O at D ⊢
 exact po0_1 a l c k xs w hv k1 s1 e1 0 s1 E h1 h2 c1 c2 c3 c4 O.k O.x O.t O.o O.r O.d O.i O.p O.q O.s O.m O.to O.e O.n (fun W => by have hk := ocheck_any k1 0 false 0 0 0 0 0 0 0 0 0 W; rw [obc_no hq] at hk; exact hk) D
end Go.Proofs.YtjghebcnmoojmaaGreat

namespace Go.Proofs.YtjghebcnmoojmaaGreat
set_option maxRecDepth 100000
open Go.RowKit Go.Sort

theorem num2_inv {xs : List Int} {K : Nat} {e x s : Int} (h : numS xs 2 ((K : Int), e) = (x, s, 0)) : e = 0 ∧ K + 2 ≤ xs.length ∧ x = segN xs K 2 ∧ s = (K : Int) + 2 := by
 by_cases he : e = 0
 ·subst he
  unfold numS getS at h
  rw [if_pos rfl] at h
  simp only [] at h
  by_cases h1 : (xs.length : Int) < (K : Int)
  ·rw [if_pos (by omega)] at h; simp at h
  ·rw [if_neg (by omega)] at h
   by_cases h2 : (xs.length : Int) - (K : Int) < 2
   ·rw [if_pos h2] at h; simp at h
   ·rw [if_neg h2] at h
    simp only [Prod.mk.injEq, Int.toNat_natCast] at h
    exact ⟨rfl, by omega, h.1.symm, h.2.1.symm⟩
 ·simp [numS, he] at h
theorem seg_two {xs : List Int} {K : Nat} (hx : ∀ x ∈ xs, 0 ≤ x ∧ x < 256) (h : K + 2 ≤ xs.length) : (0 ≤ segN xs K 2 ∧ segN xs K 2 ≤ 65535) ∧ (xs.drop K).take 2 = [segN xs K 2 / 256, segN xs K 2 % 256] := by
 have h1 := be_bd _ (seg_bytes hx K 2)
 have h2 := lo_be ((xs.drop K).take 2) (seg_bytes hx K 2)
 rw [show ((xs.drop K).take 2).length = 2 by simp; omega] at h1 h2
 rw [show pow256 2 = 65536 by decide] at h1
 have h3 : 0 ≤ segN xs K 2 ∧ segN xs K 2 ≤ 65535 := by unfold segN; omega
 refine ⟨h3, ?_⟩
 rw [← lo_two h3]
 exact h2.symm
theorem short_pos {xs : List Int} {u : Int × Int} {x s : Int} (h : shortS xs u = (x, s, 0)) : u.2 = 0 := by
 by_cases he : u.2 = 0
 ·exact he
 ·simp [shortS, he] at h; exact absurd (by rw [h.2]) he
theorem long_pos {xs : List Int} {u : Int × Int} {x s : Int} (h : longS xs u = (x, s, 0)) : u.2 = 0 := by
 by_cases he : u.2 = 0
 ·exact he
 ·simp [longS, he] at h; exact absurd (by rw [h.2]) he
theorem parse_inv_at (xs : List Int) (hx : ∀ x ∈ xs, 0 ≤ x ∧ x < 256) (K : Nat) (P : PR) (hP : parseS xs (K : Int) = P) (he : P.e = 0) :
  HtOk P.n P.t P.o P.r P.d P.i ∧ ∃ T : Nat, P.to = ((K + T : Nat) : Int) ∧ K + T ≤ xs.length ∧ (xs.drop K).take T = htB P.n P.t P.o P.r P.d P.i := by
 obtain ⟨k1, s1, e1, h1⟩ : ∃ x y z, shortS xs ((K : Int), 0) = (x, y, z) := ⟨_, _, _, rfl⟩
 by_cases c0 : k1 = 0
 ·subst c0
  obtain ⟨i, s6, e6, h2⟩ : ∃ x y z, shortS xs (s1, e1) = (x, y, z) := ⟨_, _, _, rfl⟩
  have e : P = parseF true 0 0 0 0 (i, s6, e6) := by rw [← hP]; unfold parseS; rw [h1]; simp only [if_true]; rw [h2]
  subst e
  unfold parseF at he ⊢
  simp only [] at he ⊢
  by_cases he6 : e6 = 0
  ·subst he6
   rw [if_pos rfl] at he ⊢
   by_cases hq : HtOk true 0 0 0 0 i
   ·rw [if_pos hq]
    have z1 : e1 = 0 := short_pos h2
    subst z1
    obtain ⟨-, l1, v1, rfl⟩ := short_inv h1
    rw [show ((K : Int) + 1) = ((K + 1 : Nat) : Int) by omega] at h2
    obtain ⟨-, l2, v2, rfl⟩ := short_inv h2
    refine ⟨hq, 2, by simp only []; omega, by omega, ?_⟩
    rw [take_two xs K (by omega), ← v1, ← v2]
    rfl
   ·rw [if_neg hq] at he; cases he
  ·rw [if_neg he6] at he; exact (he6 he).elim
 ·by_cases c1 : k1 = 1
  ·subst c1
   obtain ⟨t, s2, e2, h2⟩ : ∃ x y z, longS xs (s1, e1) = (x, y, z) := ⟨_, _, _, rfl⟩
   obtain ⟨o, s3, e3, h3⟩ : ∃ x y z, shortS xs (s2, e2) = (x, y, z) := ⟨_, _, _, rfl⟩
   obtain ⟨r, s4, e4, h4⟩ : ∃ x y z, shortS xs (s3, e3) = (x, y, z) := ⟨_, _, _, rfl⟩
   obtain ⟨d, s5, e5, h5⟩ : ∃ x y z, longS xs (s4, e4) = (x, y, z) := ⟨_, _, _, rfl⟩
   obtain ⟨i, s6, e6, h6⟩ : ∃ x y z, shortS xs (s5, e5) = (x, y, z) := ⟨_, _, _, rfl⟩
   have e : P = parseF false t o r d (i, s6, e6) := by rw [← hP]; unfold parseS; simp only [h1, h2, h3, h4, h5, h6, if_neg c0, if_true]
   subst e
   unfold parseF at he ⊢
   simp only [] at he ⊢
   by_cases he6 : e6 = 0
   ·subst he6
    rw [if_pos rfl] at he ⊢
    by_cases hq : HtOk false t o r d i
    ·rw [if_pos hq]
     have z5 : e5 = 0 := short_pos h6
     subst z5
     have z4 : e4 = 0 := long_pos h5
     subst z4
     have z3 : e3 = 0 := short_pos h4
     subst z3
     have z2 : e2 = 0 := short_pos h3
     subst z2
     have z1 : e1 = 0 := long_pos h2
     subst z1
     obtain ⟨-, l1, v1, rfl⟩ := short_inv h1
     rw [show ((K : Int) + 1) = ((K + 1 : Nat) : Int) by omega] at h2
     obtain ⟨-, l2, v2, rfl⟩ := long_inv h2
     rw [show (((K + 1 : Nat) : Int) + 8) = ((K + 9 : Nat) : Int) by omega] at h3
     obtain ⟨-, l3, v3, rfl⟩ := short_inv h3
     rw [show (((K + 9 : Nat) : Int) + 1) = ((K + 10 : Nat) : Int) by omega] at h4
     obtain ⟨-, l4, v4, rfl⟩ := short_inv h4
     rw [show (((K + 10 : Nat) : Int) + 1) = ((K + 11 : Nat) : Int) by omega] at h5
     obtain ⟨-, l5, v5, rfl⟩ := long_inv h5
     rw [show (((K + 11 : Nat) : Int) + 8) = ((K + 19 : Nat) : Int) by omega] at h6
     obtain ⟨-, l6, v6, rfl⟩ := short_inv h6
     refine ⟨hq, 20, by simp only []; omega, by omega, ?_⟩
     have b1 := take_one xs K (by omega)
     have b2 := seg_eight hx l2
     have b3 := take_two xs (K + 9) (by omega)
     have b5 := seg_eight hx l5
     have b6 := take_one xs (K + 19) (by omega)
     have s : (xs.drop K).take 20 = (xs.drop K).take 1 ++ ((xs.drop (K + 1)).take 8 ++ ((xs.drop (K + 9)).take 2 ++ ((xs.drop (K + 11)).take 8 ++ (xs.drop (K + 19)).take 1))) := by
      rw [show 20 = 1 + (8 + (2 + (8 + 1))) from rfl, List.take_add, List.take_add, List.take_add, List.take_add]
      simp only [List.drop_drop, Nat.add_assoc]
     rw [s, b1, b3, b6, ← b2, ← b5, ← v1, ← v2, ← v3, ← v4, ← v5, ← v6]
     simp [htB]
    ·rw [if_neg hq] at he; cases he
   ·rw [if_neg he6] at he; exact (he6 he).elim
  ·have e : P = .no 4 := by rw [← hP]; unfold parseS; simp only [h1, if_neg c0, if_neg c1]
   subst e
   cases he
theorem oparseF_inv {k x : Int} {n : Bool} {t o r d i p q s m : Int} {u : Int × Int} {O : OP} (h : O = oparseF k x n t o r d i p q s m u) (he : O.e = 0) : u.2 = 0 ∧ ObOk k x n t o r d i p q s m ∧ O = ⟨k, x, n, t, o, r, d, i, p, q, s, m, u.1, 0⟩ := by
 subst h
 unfold oparseF at he ⊢
 by_cases h0 : u.2 = 0
 ·rw [if_pos h0] at he ⊢
  by_cases hq : ObOk k x n t o r d i p q s m
  ·rw [if_pos hq]; exact ⟨h0, hq, rfl⟩
  ·rw [if_neg hq] at he; cases he
 ·rw [if_neg h0] at he; exact (h0 he).elim
theorem obB_1 (x : Int) (n : Bool) (t o r d i p q s m : Int) : obB 1 x n t o r d i p q s m = [1, x] := rfl
theorem obB_2 (x : Int) (n : Bool) (t o r d i p q s m : Int) : obB 2 x n t o r d i p q s m = [2, x] ++ htB n t o r d i := rfl
theorem obB_3 (x : Int) (n : Bool) (t o r d i p q s m : Int) : obB 3 x n t o r d i p q s m = [3, x] ++ i8 p ++ [q, s] := rfl
theorem obB_4 (x : Int) (n : Bool) (t o r d i p q s m : Int) : obB 4 x n t o r d i p q s m = [4, x] ++ htB n t o r d i ++ [m / 256, m % 256] := rfl
theorem ht_i64' {n : Bool} {t o r d i : Int} (h : HtOk n t o r d i) : -9223372036854775808 ≤ t ∧ t < 9223372036854775808 := by
 rcases h.2 with ⟨_, h⟩ | ⟨_, h⟩
 ·unfold NullOk at h; omega
 ·unfold RowOk at h; omega
theorem oparse_fwd (f M : List Int) {k x : Int} {n : Bool} {t o r d i p q s m : Int} (h : ObOk k x n t o r d i p q s m) :
  oparseS (f ++ (obB k x n t o r d i p q s m ++ M)) f.length = ⟨k, x, n, t, o, r, d, i, p, q, s, m, (f.length : Int) + ((obB k x n t o r d i p q s m).length : Int), 0⟩ := by
 have hk := h.1
 have fin : ∀ u : Int, oparseF k x n t o r d i p q s m (u, 0) = ⟨k, x, n, t, o, r, d, i, p, q, s, m, u, 0⟩ := fun u => by unfold oparseF; rw [if_pos rfl, if_pos h]
 have start : ∀ (k' : Int) (R : List Int), shortS (f ++ (k' :: (x :: R))) (f.length, 0) = (k', (f.length : Int) + 1, 0) ∧ shortS (f ++ (k' :: (x :: R))) ((f.length : Int) + 1, 0) = (x, ((f.length + 2 : Nat) : Int), 0) := fun k' R => by
  refine ⟨short_mid f (x :: R) k' f.length rfl, ?_⟩
  have h2 := short_mid (f ++ [k']) R x (f.length + 1) (by simp)
  rw [List.append_assoc, List.singleton_append] at h2
  rw [show ((f.length : Int) + 1) = ((f.length + 1 : Nat) : Int) by omega, h2]
  congr 2
 rcases kind_of h with rfl | rfl | rfl | rfl
 ·have z : n = false ∧ t = 0 ∧ o = 0 ∧ r = 0 ∧ d = 0 ∧ i = 0 := by have := h.2.2.2.2.1; simpa [HgOk, hgB] using this
  have z' : p = 0 ∧ q = 0 ∧ s = 0 := by have := h.2.2.2.1; simpa [LvOk, lvB] using this
  have z'' : m = 0 := by have := h.2.2.2.2.2; simpa [NumOk, nuB] using this
  obtain ⟨rfl, rfl, rfl, rfl, rfl, rfl⟩ := z
  obtain ⟨rfl, rfl, rfl⟩ := z'
  subst z''
  rw [obB_1]
  have e : f ++ ([1, x] ++ M) = f ++ (1 :: (x :: M)) := rfl
  rw [e]
  obtain ⟨g1, g2⟩ := start 1 M
  unfold oparseS
  rw [g1]
  simp only []
  rw [if_pos hk, g2]
  unfold oparseD
  rw [if_pos rfl]
  simp only []
  rw [fin]
  congr 1
 ·have z' : p = 0 ∧ q = 0 ∧ s = 0 := by have := h.2.2.2.1; simpa [LvOk, lvB] using this
  have z'' : m = 0 := by have := h.2.2.2.2.2; simpa [NumOk, nuB] using this
  have hh : HtOk n t o r d i := by have := h.2.2.2.2.1; simpa [HgOk, hgB] using this
  obtain ⟨rfl, rfl, rfl⟩ := z'
  subst z''
  rw [obB_2]
  have e : f ++ ([2, x] ++ htB n t o r d i ++ M) = f ++ (2 :: (x :: (htB n t o r d i ++ M))) := by simp
  have e' : f ++ (2 :: (x :: (htB n t o r d i ++ M))) = (f ++ [2, x]) ++ (htB n t o r d i ++ M) := by simp
  obtain ⟨g1, g2⟩ := start 2 (htB n t o r d i ++ M)
  have g3 := parse_fwd (f ++ [2, x]) M hh
  rw [← e', show (((f ++ [2, x]).length : Nat) : Int) = ((f.length + 2 : Nat) : Int) by simp] at g3
  rw [e]
  unfold oparseS
  rw [g1]
  simp only []
  rw [if_pos hk, g2]
  unfold oparseD
  rw [if_neg (by decide), if_pos rfl]
  unfold oparse2 nextP
  simp only [if_true]
  rw [g3]
  simp only []
  rw [fin]
  congr 1
  simp; omega
 ·have z : n = false ∧ t = 0 ∧ o = 0 ∧ r = 0 ∧ d = 0 ∧ i = 0 := by have := h.2.2.2.2.1; simpa [HgOk, hgB] using this
  have z'' : m = 0 := by have := h.2.2.2.2.2; simpa [NumOk, nuB] using this
  have hl : HtOk false p q s 0 0 := by have := h.2.2.2.1; simpa [LvOk, lvB] using this
  have hp := (ht_i64' hl)
  obtain ⟨rfl, rfl, rfl, rfl, rfl, rfl⟩ := z
  subst z''
  rw [obB_3]
  have e : f ++ ([3, x] ++ i8 p ++ [q, s] ++ M) = f ++ (3 :: (x :: (i8 p ++ (q :: (s :: M))))) := by simp
  obtain ⟨g1, g2⟩ := start 3 (i8 p ++ (q :: (s :: M)))
  have g3 := long_mid (f ++ [3, x]) (q :: (s :: M)) (v := p) hp.1 hp.2 (f.length + 2) (by simp)
  have g4 := short_mid (f ++ [3, x] ++ i8 p) (s :: M) q (f.length + 10) (by simp [i8_len])
  have g5 := short_mid (f ++ [3, x] ++ i8 p ++ [q]) M s (f.length + 11) (by simp [i8_len])
  simp only [List.append_assoc, List.nil_append, List.cons_append] at g3 g4 g5
  rw [e]
  unfold oparseS
  rw [g1]
  simp only []
  rw [if_pos hk, g2]
  unfold oparseD
  rw [if_neg (by decide), if_neg (by decide), if_pos rfl]
  simp only []
  rw [g3]
  simp only []
  rw [show (((f.length + 2 : Nat) : Int) + 8) = ((f.length + 10 : Nat) : Int) by omega, g4]
  simp only []
  rw [show (((f.length + 10 : Nat) : Int) + 1) = ((f.length + 11 : Nat) : Int) by omega, g5]
  unfold oparse3
  simp only []
  rw [fin]
  congr 1
 ·have z' : p = 0 ∧ q = 0 ∧ s = 0 := by have := h.2.2.2.1; simpa [LvOk, lvB] using this
  have hm : 0 ≤ m ∧ m ≤ 65535 := by have := h.2.2.2.2.2; simpa [NumOk, nuB] using this
  have hh : HtOk n t o r d i := by have := h.2.2.2.2.1; simpa [HgOk, hgB] using this
  obtain ⟨rfl, rfl, rfl⟩ := z'
  rw [obB_4]
  have e : f ++ ([4, x] ++ htB n t o r d i ++ [m / 256, m % 256] ++ M) = f ++ (4 :: (x :: (htB n t o r d i ++ ([m / 256, m % 256] ++ M)))) := by simp
  have e' : f ++ (4 :: (x :: (htB n t o r d i ++ ([m / 256, m % 256] ++ M)))) = (f ++ [4, x]) ++ (htB n t o r d i ++ ([m / 256, m % 256] ++ M)) := by simp
  have e'' : f ++ (4 :: (x :: (htB n t o r d i ++ ([m / 256, m % 256] ++ M)))) = (f ++ [4, x] ++ htB n t o r d i) ++ ([m / 256, m % 256] ++ M) := by simp
  obtain ⟨g1, g2⟩ := start 4 (htB n t o r d i ++ ([m / 256, m % 256] ++ M))
  have g3 := parse_fwd (f ++ [4, x]) ([m / 256, m % 256] ++ M) hh
  rw [← e', show (((f ++ [4, x]).length : Nat) : Int) = ((f.length + 2 : Nat) : Int) by simp] at g3
  have ok : PutOk m 2 := ⟨by decide, by decide, hm.1, by rw [show pow256 (2 : Int).toNat = 65536 by decide]; omega⟩
  have g4 := back_get (f ++ [4, x] ++ htB n t o r d i) M ok
  rw [putB, if_pos ok, show (2 : Int).toNat = 2 from rfl, lo_two hm, ← e'', show (((f ++ [4, x] ++ htB n t o r d i).length : Nat) : Int) = ((f.length + 2 : Nat) : Int) + ((htB n t o r d i).length : Int) by simp; omega] at g4
  rw [e]
  unfold oparseS
  rw [g1]
  simp only []
  rw [if_pos hk, g2]
  unfold oparseD
  rw [if_neg (by decide), if_neg (by decide), if_neg (by decide)]
  unfold oparse4 nextP numS
  simp only [if_true]
  rw [g3]
  simp only [if_true]
  rw [g4]
  simp only []
  rw [fin]
  congr 1
  simp; omega
end Go.Proofs.YtjghebcnmoojmaaGreat

namespace Go.Proofs.YtjghebcnmoojmaaGreat
set_option maxRecDepth 100000
open Go.RowKit Go.Sort Go.WideShapes Go.ChangeShapes

def BtOk (N : Int) (ys : List Ob) : Prop := (0 ≤ N ∧ N ≤ 65535) ∧ (1 ≤ ys.length ∧ ys.length ≤ 32) ∧ AllOk ys ∧ 3 + osz ys ≤ 512
instance (N : Int) (ys : List Ob) : Decidable (BtOk N ys) := by unfold BtOk; infer_instance
theorem Os.alloc {w : World} {v : Value} {ys : List Ob} (h : Os w v ys) (O : Obj) : Os (w.alloc O) v ys := h.below ((Below.refl _ _).alloc (Nat.le_refl _) O)
def btB (N : Int) (ys : List Ob) : List Int := [N / 256, N % 256, (ys.length : Int)] ++ (ys.map Ob.bs).flatten
def btc (N : Int) (ys : List Ob) : Int := if BtOk N ys then 0 else 1
def btBs (N : Int) (ys : List Ob) : List Int := if BtOk N ys then btB N ys else []
theorem flat_bs (ys : List Ob) (k : Nat) (h : k < ys.length) : ((ys.take (k + 1)).map Ob.bs).flatten = ((ys.take k).map Ob.bs).flatten ++ (ys.getD k z12).bs := by
 rw [List.take_succ_eq_append_getElem h, List.map_append, List.flatten_append]
 simp [List.getD, h]
theorem bs_flat_len (ys : List Ob) : ((ys.map Ob.bs).flatten).length = osz ys := by
 simp [osz, List.length_flatten, List.map_map]
 rfl
theorem osz_take_le (ys : List Ob) (k : Nat) : osz (ys.take k) ≤ osz ys := by
 have h : osz ys = osz (ys.take k) + osz (ys.drop k) := by
  unfold osz
  rw [← List.sum_append, ← List.map_append, List.take_append_drop]
 omega
theorem obB_byt {k x : Int} {n : Bool} {t o r d i p q s m : Int} (h : ObOk k x n t o r d i p q s m) : Byt (obB k x n t o r d i p q s m) := by
  have hx : 0 ≤ x ∧ x < 64 := h.2.1
  have two : ∀ y z : Int, 0 ≤ y ∧ y < 256 → 0 ≤ z ∧ z < 256 → Byt [y, z] := fun y z hy hz u hu => by
    simp at hu; rcases hu with rfl | rfl <;> assumption
  rcases kind_of h with rfl | rfl | rfl | rfl
  · rw [obB_1]; exact two _ _ (by omega) (by omega)
  · have hh : HtOk n t o r d i := by have := h.2.2.2.2.1; simpa [HgOk, hgB] using this
    rw [obB_2]; exact byt_app (two _ _ (by omega) (by omega)) (htB_byt hh)
  · have hl : HtOk false p q s 0 0 := by have := h.2.2.2.1; simpa [LvOk, lvB] using this
    have hr : RowOk p q s 0 := by rcases hl.2 with h | h; · cases h.1
                                  exact h.2
    have hq : 0 ≤ q ∧ q < 64 := hr.2.2.1
    have hs : 0 ≤ s ∧ s < 256 := by have := hr.2.2.2.1; omega
    rw [obB_3]; exact byt_app (byt_app (two _ _ (by omega) (by omega)) (i8_byt p)) (two _ _ (by omega) hs)
  · have hh : HtOk n t o r d i := by have := h.2.2.2.2.1; simpa [HgOk, hgB] using this
    have hm : 0 ≤ m ∧ m ≤ 65535 := by have := h.2.2.2.2.2; simpa [NumOk, nuB] using this
    rw [obB_4]; exact byt_app (byt_app (two _ _ (by omega) (by omega)) (htB_byt hh)) (two _ _ (by omega) (by omega))
theorem ob_byt {y : Ob} (h : y.Ok) : Byt y.bs := by
 rw [show y.bs = obB y.k y.x y.n y.t y.o y.r y.d y.i y.p y.q y.s y.m from if_pos h]
 exact obB_byt h
end Go.Proofs.YtjghebcnmoojmaaGreat

namespace Go.Proofs.YtjghebcnmoojmaaGreat
set_option maxRecDepth 100000
open Go.RowKit Go.Sort

theorem add_spot (b off k : Nat) : (⟨b, off, none⟩ : Addr).add k = ⟨b, off + k, none⟩ := by unfold Addr.add; split <;> simp_all
def c2 (p : Int × Value) : List Value := [.int .i64 p.1, p.2]
def flat2 (vs : List (Int × Value)) : List Value := vs.flatMap c2
theorem flat2_len (vs : List (Int × Value)) : (flat2 vs).length = vs.length * 2 := by
 induction vs with
 | nil => rfl
 | cons y ys ih => simp only [flat2, List.flatMap_cons, List.length_append, List.length_cons, c2, List.length_nil] at *; omega
theorem flat2_app (xs ys : List (Int × Value)) : flat2 (xs ++ ys) = flat2 xs ++ flat2 ys := by simp [flat2]
def zb : Int × List Ob := (0, [])
def zv : Int × Value := (0, .slice none 0 0)
def RowB (w : World) (base : Nat) (v : Value) (bs : List (Int × List Ob)) : Prop :=
 ∃ vs : List (Int × Value), vs.length = bs.length ∧ w.ownsRow base 45 2 v bs.length (flat2 vs) ∧
  ∀ i, i < bs.length → (vs.getD i zv).1 = (bs.getD i zb).1 ∧ w.ownsRow base 63 12 (vs.getD i zv).2 (bs.getD i zb).2.length (flat (bs.getD i zb).2)
theorem RowB.below {w w' : World} {base : Nat} {v : Value} {bs : List (Int × List Ob)} (h : RowB w base v bs) (hb : Below w.heap.size w w') : RowB w' base v bs := by
 obtain ⟨vs, h1, h2, h3⟩ := h
 exact ⟨vs, h1, own_below h2 hb, fun i hi => ⟨(h3 i hi).1, own_below (h3 i hi).2 hb⟩⟩
end Go.Proofs.YtjghebcnmoojmaaGreat

namespace Go.Proofs.YtjghebcnmoojmaaGreat
set_option maxRecDepth 100000
open Go.RowKit Go.Sort

def lft (n : Int) : Int := n % 65536
theorem own_mono {w : World} {base B size n : Nat} {e : TypeId} {v : Value} {xs : List Value} (h : w.ownsRow base e size v n xs) (hB : B ≤ base) : w.ownsRow B e size v n xs := by
 rcases h.2 with h2 | ⟨g, cap, cur, h2, h3, h4⟩
 ·exact ⟨h.1, .inl h2⟩
 ·exact ⟨h.1, .inr ⟨g, cap, cur, h2, Nat.le_trans hB h3, h4⟩⟩
theorem own_form {w : World} {base size n : Nat} {e : TypeId} {v : Value} {xs : List Value} (h : w.ownsRow base e size v n xs) : ∃ a c, v = .slice a n c := by
 rcases h.2 with ⟨rfl, rfl⟩ | ⟨g, cap, cur, rfl, _⟩
 ·exact ⟨none, 0, rfl⟩
 ·exact ⟨_, _, rfl⟩
theorem own_one {w : World} {base size n : Nat} {e : TypeId} {v : Value} {xs : List Value} (h : w.ownsRow base e size v n xs) : v.oneCell' = true := by
 rcases h.2 with ⟨rfl, _⟩ | ⟨g, cap, cur, rfl, _⟩ <;> rfl
def Fit1 (most : Int) (ys : List Ob) (A t : Nat) : Prop := t < ys.length ∧ t - A < 32 ∧ 3 + (osz ((ys.drop A).take (t + 1 - A)) : Int) ≤ most
instance (most : Int) (ys : List Ob) (A t : Nat) : Decidable (Fit1 most ys A t) := by unfold Fit1; infer_instance
end Go.Proofs.YtjghebcnmoojmaaGreat

namespace Go.Proofs.YtjghebcnmoojmaaGreat
set_option maxRecDepth 100000
open Go.RowKit Go.Sort

def Bts (w : World) (v : Value) (bs : List (Int × List Ob)) : Prop :=
 (∃ a cap, v = .slice a 0 cap ∧ bs = []) ∨
 ∃ b off cap, v = .slice (some ⟨b, off, none⟩) bs.length cap ∧ ∀ i, i < bs.length → w.cell? ⟨b, off + i * 2, none⟩ = some (.int .i64 (bs.getD i zb).1) ∧ ∃ s, w.cell? ⟨b, off + i * 2 + 1, none⟩ = some s ∧ Os w s (bs.getD i zb).2
theorem Bts.below {w w' : World} {v : Value} {bs : List (Int × List Ob)} (h : Bts w v bs) (hb : Below w.heap.size w w') : Bts w' v bs := by
 rcases h with h | ⟨b, off, cap, h1, h2⟩
 ·exact .inl h
 ·refine .inr ⟨b, off, cap, h1, fun i hi => ?_⟩
  obtain ⟨k1, s, k2, k3⟩ := h2 i hi
  exact ⟨by rw [hb.cell (World.block_lt_of_cell? w _ k1)]; exact k1, s, by rw [hb.cell (World.block_lt_of_cell? w _ k2)]; exact k2, k3.below hb⟩
theorem Bts.form {w : World} {v : Value} {bs : List (Int × List Ob)} (h : Bts w v bs) : ∃ a c, v = .slice a bs.length c := by
 rcases h with ⟨a, cap, h1, rfl⟩ | ⟨b, off, cap, h1, _⟩
 ·exact ⟨a, cap, h1⟩
 ·exact ⟨_, _, h1⟩
theorem brow_ext {xs zs : List (Int × List Ob)} (hl : xs.length = zs.length) (h : ∀ i, i < xs.length → xs.getD i zb = zs.getD i zb) : xs = zs := by
 refine List.ext_getElem hl fun i h1 h2 => ?_
 have := h i h1
 simpa [List.getD, h1, h2] using this
theorem Bts.at {w : World} {a : Option Addr} {c : Nat} {bs : List (Int × List Ob)} (h : Bts w (.slice a bs.length c) bs) {i : Nat} (hi : i < bs.length) : ∃ b off, a = some ⟨b, off, none⟩ ∧ w.cell? ⟨b, off + i * 2, none⟩ = some (.int .i64 (bs.getD i zb).1) ∧ ∃ s, w.cell? ⟨b, off + i * 2 + 1, none⟩ = some s ∧ Os w s (bs.getD i zb).2 := by
 rcases h with ⟨a', cap, hv, rfl⟩ | ⟨b, off, cap, hv, h2⟩
 ·simp at hi
 ·simp only [Value.slice.injEq] at hv
  exact ⟨b, off, hv.1, h2 i hi⟩
end Go.Proofs.YtjghebcnmoojmaaGreat

namespace Go.Proofs.YtjghebcnmoojmaaGreat
set_option maxRecDepth 100000
open Go.RowKit Go.Sort

theorem osz_app (xs ys : List Ob) : osz (xs ++ ys) = osz xs + osz ys := by
 unfold osz; rw [List.map_append, List.sum_append]
theorem lft_rng (n : Int) : 0 ≤ lft n ∧ lft n ≤ 65535 := by unfold lft; omega
end Go.Proofs.YtjghebcnmoojmaaGreat

namespace Go.Proofs.YtjghebcnmoojmaaGreat
set_option maxRecDepth 100000
open Go.RowKit Go.Sort

theorem RowB.form {w : World} {base : Nat} {v : Value} {bs : List (Int × List Ob)} (h : RowB w base v bs) : ∃ a c, v = .slice a bs.length c := by
 obtain ⟨vs, h1, h2, h3⟩ := h
 exact own_form h2
def RowX (w : World) (base S g cap : Nat) (bs : List (Int × List Ob)) (M : Int) (v : Value) (xs : List Ob) : Prop :=
 ∃ vs : List (Int × Value), vs.length = bs.length ∧ (g < S ∧ base ≤ g ∧ S ≤ w.heap.size) ∧
  w.ownsRow base 45 2 (.slice (some ⟨g, 0, none⟩) (bs.length + 1) cap) (bs.length + 1) (flat2 (vs ++ [(M, v)])) ∧
  (∀ i, i < bs.length → (vs.getD i zv).1 = (bs.getD i zb).1 ∧ w.ownsRow base 63 12 (vs.getD i zv).2 (bs.getD i zb).2.length (flat (bs.getD i zb).2) ∧ ∀ b, (vs.getD i zv).2.ownBlock = some b → b < S) ∧
  w.ownsRow S 63 12 v xs.length (flat xs)
theorem RowX.below {w w' : World} {base S g cap : Nat} {bs : List (Int × List Ob)} {M : Int} {v : Value} {xs : List Ob} (h : RowX w base S g cap bs M v xs) (hb : Below w.heap.size w w') : RowX w' base S g cap bs M v xs := by
 obtain ⟨vs, h1, ⟨h2, h3, h4⟩, h5, h6, h7⟩ := h
 exact ⟨vs, h1, ⟨h2, h3, Nat.le_trans h4 hb.size⟩, own_below h5 hb, fun i hi => ⟨(h6 i hi).1, own_below (h6 i hi).2.1 hb, (h6 i hi).2.2⟩, own_below h7 hb⟩
theorem RowX.cells {w : World} {base S g cap : Nat} {bs : List (Int × List Ob)} {M : Int} {v : Value} {xs : List Ob} (h : RowX w base S g cap bs M v xs) :
  w.cell? ⟨g, bs.length * 2 + 1, none⟩ = some v ∧ (∀ k, w.frozen? ⟨g, k, none⟩ = false) ∧ g < S ∧ S ≤ w.heap.size ∧ v.oneCell' = true ∧ ∃ a c, v = .slice a xs.length c := by
 obtain ⟨vs, h1, ⟨h2, h3, h4⟩, h5, h6, h7⟩ := h
 refine ⟨?_, fun k => h5.frozenAt k, h2, h4, own_one h7, own_form h7⟩
 rw [own_cell h5 (bs.length * 2 + 1) (by omega), flat2_app, ← h1, List.getElem?_append_right (by rw [flat2_len]; omega), flat2_len]
 simp [flat2, c2]
theorem C12.low {w w' : World} {b o B : Nat} {y : Ob} (h : C12 w b o y) (hb : b < B) (hB : Below B w w') : C12 w' b o y := fun j hj => by
 rw [hB.cell (p := ⟨b, o + j, none⟩) hb]; exact h j hj
theorem own_prefix {w : World} {S size n m g cap : Nat} {e : TypeId} {xs ys : List Value} (h : w.ownsRow S e size (.slice (some ⟨g, 0, none⟩) (n + m) cap) (n + m) (xs ++ ys)) (hx : xs.length = n * size) : w.ownsRow S e size (.slice (some ⟨g, 0, none⟩) n cap) n xs := by
 refine ⟨hx, ?_⟩
 rcases h.2 with ⟨h1, _⟩ | ⟨g', cap', cur, hv, hb, hg, hnc, hcm, hcs, htake⟩
 ·cases h1
 ·simp only [Value.slice.injEq, Option.some.injEq, Addr.mk.injEq, and_true, true_and] at hv
  obtain ⟨rfl, rfl⟩ := hv
  refine .inr ⟨g, cap, cur, rfl, hb, hg, by omega, hcm, hcs, ?_⟩
  have h3 : (cur.toList.take ((n + m) * size)).take (n * size) = (xs ++ ys).take (n * size) := by rw [htake]
  rw [List.take_take, Nat.min_eq_left (Nat.mul_le_mul_right _ (Nat.le_add_right _ _)), ← hx, List.take_left] at h3
  rw [← hx]; exact h3
theorem run_oapp (w : World) (ty : TypeId) (S : Nat) (v : Value) (xs : List Ob) (hown : w.ownsRow S 63 12 v xs.length (flat xs)) (b : Nat) (y : Ob) (hy : C12 w b 0 y) (hl : xs.length ≤ 3000) (hS : S ≤ w.heap.size) :
  ∃ g cap w', (Builtin.append_ #[43, 43] ty #[v, .slice (some ⟨b, 0, none⟩) 1 1]).run Tryz.prog w = .ok (.slice (some ⟨g, 0, none⟩) (xs.length + 1) cap) w' ∧ w'.ownsRow S 63 12 (.slice (some ⟨g, 0, none⟩) (xs.length + 1) cap) (xs ++ [y]).length (flat (xs ++ [y])) ∧ w.grownBy w' v.ownBlock ∧ w'.ownsRow S 63 12 v xs.length (flat xs) := by
 obtain ⟨i0, hi, hz0, hz1, hz2⟩ := info_parts infoOB
 have hzs : ((.agg #[.int .i64 0, .int .i64 0, .bool false, .int .i64 0, .int .i64 0, .int .i64 0, .int .i64 0, .int .i64 0, .int .i64 0, .int .i64 0, .int .i64 0, .int .i64 0] : Value).cells).size = 12 := rfl
 have e : flat (xs ++ [y]) = flat xs ++ y.cl := by rw [flat_app]; simp [flat]
 have e2 : (xs ++ [y]).length = xs.length + 1 := by simp
 have hnews : ∀ j u, y.cl[j]? = some u → w.cell? ((⟨b, 0, none⟩ : Addr).add j) = some u := fun j u hj => by
  rw [add_spot, hy j (List.getElem?_eq_some_iff.1 hj).1]; exact hj
 have hone : ∀ u ∈ y.cl, u.oneCell' = true := fun u hu => flat_ones [y] u (by simpa [flat] using hu)
 have hfl := flat_len xs
 rw [e, e2]
 rcases hown.2 with ⟨rfl, h0⟩ | ⟨g, cap, cur, rfl, hg1, hg2, _⟩
 ·obtain ⟨v', w', hr, h2, h3, _, _⟩ := run_append_own_at (P := Tryz.prog) w S 43 ty 63 i0 (.agg #[.int .i64 0, .int .i64 0, .bool false, .int .i64 0, .int .i64 0, .int .i64 0, .int .i64 0, .int .i64 0, .int .i64 0, .int .i64 0, .int .i64 0, .int .i64 0]) 12 96 underSL hi hz0 hz1 hz2 hzs (by decide) (.slice none 0 0) xs.length (flat xs) hown ⟨b, 0, none⟩ 1 1 y.cl rfl hnews hone (by unfold maxLen; omega) (by omega) hS
  obtain ⟨g, cap, rfl⟩ : ∃ g cap, v' = .slice (some ⟨g, 0, none⟩) (xs.length + 1) cap := by
   rcases h2.2 with ⟨_, h0⟩ | ⟨g, cap, _, rfl, _⟩
   ·omega
   ·exact ⟨g, cap, rfl⟩
  exact ⟨g, cap, w', hr, h2, h3, ⟨hown.1, .inl ⟨rfl, h0⟩⟩⟩
 ·by_cases hroom : xs.length + 1 ≤ cap
  ·obtain ⟨w', hr, h2, h3⟩ := run_append_fits (P := Tryz.prog) w S 43 ty 63 i0 12 underSL hi hz1 g xs.length cap (flat xs) hown ⟨b, 0, none⟩ 1 1 y.cl rfl hnews hone hroom
   exact ⟨g, cap, w', hr, h2, h3, own_prefix h2 hfl⟩
  ·obtain ⟨v', w', hr, h2, h3⟩ := run_append_arg_grows (P := Tryz.prog) w 43 ty 63 i0 (.agg #[.int .i64 0, .int .i64 0, .bool false, .int .i64 0, .int .i64 0, .int .i64 0, .int .i64 0, .int .i64 0, .int .i64 0, .int .i64 0, .int .i64 0, .int .i64 0]) 12 96 underSL hi hz0 hz1 hz2 hzs (by decide) ⟨g, 0, none⟩ xs.length cap (flat xs) hfl (hown.cells rfl) ⟨b, 0, none⟩ 1 1 y.cl rfl hnews (by omega) (by unfold maxLen; omega) (by omega)
   obtain ⟨g', cap', rfl⟩ : ∃ g cap, v' = .slice (some ⟨g, 0, none⟩) (xs.length + 1) cap := by
    rcases h2.2 with ⟨_, h0⟩ | ⟨g, cap, _, rfl, _⟩
    ·omega
    ·exact ⟨g, cap, rfl⟩
   exact ⟨g', cap', w', hr, own_mono h2 hS, ⟨h3.os, h3.tape, h3.output, h3.size, fun k hk _ => h3.block k hk (by simp)⟩, hown.kept h3 (.inr (by simp [Value.ownBlock]))⟩
theorem exec_append {ρ : Operand → Value} {o : Oper} {s x : Operand} {T : TypeId} {v u r : Value} {w w' : World} (ho : o.op = .call { callee := .builtin .append, args := #[s, x], argTypes := #[T, T] }) (hs : ρ s = v) (hx : ρ x = u)
  (hr : (Builtin.append_ #[T, T] o.type #[v, u]).run Tryz.prog w = .ok r w') : (execOp ρ o).run Tryz.prog w = .ok (.value r) w' := by
 unfold execOp
 simp only [ho, resolve, invoke, builtin, Sem.run_bind, Sem.run_pure, Result.andThen_ok, List.map_toArray, List.map_cons, List.map_nil, hs, hx, hr]
theorem c12_alloc (w : World) (y : Ob) (g : Nat) (hg : g = w.heap.size) : C12 (w.alloc (.cells #[.int .i64 y.k, .int .i64 y.x, .bool y.n, .int .i64 y.t, .int .i64 y.o, .int .i64 y.r, .int .i64 y.d, .int .i64 y.i, .int .i64 y.p, .int .i64 y.q, .int .i64 y.s, .int .i64 y.m] 63)) g 0 y := fun j hj => by
 subst hg
 rw [Nat.zero_add, cell_of_row _ _ _ _ _ _ (heap_alloc_new w _)]
 simp [Ob.cl]
end Go.Proofs.YtjghebcnmoojmaaGreat

namespace Go.Proofs.YtjghebcnmoojmaaGreat
set_option maxRecDepth 100000
open Go.RowKit Go.Sort

theorem same_fix (v u : Value) (ys zs : List Ob) (q : Bool) (hq : q = true ↔ ys = zs) (w : World) (hy : Os w v ys) (hz : Os w u zs) (hl : ys.length ≤ 3000) :
  Calls Tryz.prog 66 #[v, u] w fun e w' => e = .returned (.bool q) ∧ Below w.heap.size w w' :=
 (same_any v u ys zs w hy hz hl).mono fun e w' ⟨⟨b, h1, h2⟩, h3⟩ => ⟨by rw [h1, show b = q by rw [Bool.eq_iff_iff]; exact h2.trans hq.symm], h3⟩
set_option maxHeartbeats 16000000 in
theorem bsame_any (v u : Value) (xs zs : List (Int × List Ob)) (w : World) (hx : Bts w v xs) (hz : Bts w u zs) (hl : xs.length ≤ 3000) (hin : ∀ i, i < xs.length → (xs.getD i zb).2.length ≤ 3000) :
  Calls Tryz.prog 44 #[v, u] w fun e w' => (∃ b : Bool, e = .returned (.bool b) ∧ (b = true ↔ xs = zs)) ∧ Below w.heap.size w w' := by
 obtain ⟨a, c, rfl⟩ := hx.form
 obtain ⟨a', c', rfl⟩ := hz.form
 have HX := Lib.hid hx
 have HZ := Lib.hid hz
 have HI := Lib.hid hin
 clear hx hz hin
 by_cases hne : xs.length = zs.length
 ·have hne' : ((xs.length : Int) == (zs.length : Int)) = true := by rw [beq_iff_eq]; omega
  have HN := Lib.hid hne
  clear hne
  go_enter Tryz.func44, Tryz.ntmps44
  go_wp2_with fail
  go_loopw [5] (fun i wr => ∃ k : Nat, k ≤ xs.length ∧ i = .int .i64 k ∧ (∀ i, i < k → xs.getD i zb = zs.getD i zb) ∧ Below w.heap.size w wr) (fun i _ => xs.length - (intOf i).toNat)
  case atStart => exact ⟨0, Nat.zero_le _, rfl, fun i h => absurd h (Nat.not_lt_zero _), Below.refl _ _⟩
  case round =>
   obtain ⟨k, hk, rfl, hsame, hbel⟩ := hrel
   have HS := Lib.hid hsame
   have HB := Lib.hid hbel
   clear hsame hbel
   obtain ⟨wo, hwo⟩ : ∃ wo, wo = wr := ⟨_, rfl⟩
   subst hwo
   by_cases hlt : k < xs.length
   ·obtain ⟨b, off, rfl, n1, s1, t1, o1⟩ := (HX.out.below HB.out).at hlt
    have hlt2 : k < zs.length := by have := HN.out; omega
    obtain ⟨b2, off2, rfl, n2, s2, t2, o2⟩ := (HZ.out.below HB.out).at hlt2
    have HL := Lib.hid (HI.out k hlt)
    obtain ⟨⟨M1, ys⟩, hyk⟩ : ∃ y, xs.getD k zb = y := ⟨_, rfl⟩
    obtain ⟨⟨M2, ws⟩, hzk⟩ : ∃ z, zs.getD k zb = z := ⟨_, rfl⟩
    rw [hyk] at n1 o1 HL
    rw [hzk] at n2 o2
    simp only at n1 o1 n2 o2
    obtain ⟨a1, c1, rfl⟩ := o1.form
    obtain ⟨a2, c2', rfl⟩ := o2.form
    have HK := Lib.hid hyk
    have HK2 := Lib.hid hzk
    obtain ⟨q, hq⟩ : ∃ q : Bool, (q = true ↔ ys = ws) := by
     by_cases h : ys = ws
     ·exact ⟨true, by simp [h]⟩
     ·exact ⟨false, by simp [h]⟩
    have cS : ∀ w', Below wo.heap.size wo w' → Calls Tryz.prog 66 #[.slice a1 ys.length c1, .slice a2 ws.length c2'] w' fun e w'' => e = .returned (.bool q) ∧ Below w'.heap.size w' w'' := fun w' h => same_fix _ _ ys ws q hq w' (o1.below h) (o2.below h) HL.out
    have kc : ∀ w', Below wo.heap.size wo w' → w'.cell? ⟨b, off + k * 2, none⟩ = some (.int .i64 M1) ∧ w'.cell? ⟨b, off + k * 2 + 1, none⟩ = some (.slice a1 ys.length c1) ∧ w'.cell? ⟨b2, off2 + k * 2, none⟩ = some (.int .i64 M2) ∧ w'.cell? ⟨b2, off2 + k * 2 + 1, none⟩ = some (.slice a2 ws.length c2') := fun w' h =>
     ⟨by rw [h.cell (World.block_lt_of_cell? wo _ n1)]; exact n1, by rw [h.cell (World.block_lt_of_cell? wo _ t1)]; exact t1, by rw [h.cell (World.block_lt_of_cell? wo _ n2)]; exact n2, by rw [h.cell (World.block_lt_of_cell? wo _ t2)]; exact t2⟩
    have HQ := Lib.hid hq
    have hk0 : (0 : Int) ≤ (k : Int) := by omega
    have hk1 : (k : Int) < (xs.length : Int) := by omega
    have hk2 : (k : Int) < (zs.length : Int) := by omega
    have hkn : ((k : Int)).toNat = k := Int.toNat_natCast k
    clear o1 o2 hyk hzk hq
    go_wp2_with fail
    by_cases hMM : M1 = M2
    ·have hNM : (M1 != M2) = false := by simpa using hMM
     have HM := Lib.hid hMM
     clear hMM
     refine wp_region_typed (C := fun w' => Below wo.heap.size wo w') (X := fun w w' => Below w.heap.size w w') (n := 42) (by kernel_rfl) (by kernel_rfl) rfl (fun w => Below.refl _ w) (Below.refl _ _).drew ?_
     refine w_is (fun w => Below.refl _ w) _ (.inl rfl) (fun ρ w hC hc hfn hf => by have e0 : ρ (.tmp 0) = _ := hf 0 (by decide); (conv => lhs; simp [execOp, go_sem, hc, e0])) ?_
     refine w_is (fun w => Below.refl _ w) _ (.inl rfl) (fun ρ w hC hc hfn hf => by have e5 : ρ (.tmp 5) = _ := hf 5 (by decide); (conv => lhs; simp [execOp, go_sem, hc, e5])) ?_
     refine w_is (fun w => Below.refl _ w) _ (.inl rfl) (fun ρ w hC hc hfn hf => by have e17 : ρ (.tmp 17) = _ := hf 17 (by decide); have e18 : ρ (.tmp 18) = _ := hf 18 (by decide); (conv => lhs; simp [execOp, go_sem, hc, e17, e18, hk0, hk1, hk2, hkn])) ?_
     refine w_is (fun w => Below.refl _ w) _ (.inl rfl) (fun ρ w hC hc hfn hf => by have e19 : ρ (.tmp 19) = _ := hf 19 (by decide); (conv => lhs; simp [execOp, go_sem, hc, e19])) ?_
     refine w_is (fun w => Below.refl _ w) _ (.inl rfl) (fun ρ w hC hc hfn hf => by have e20 : ρ (.tmp 20) = _ := hf 20 (by decide); (conv => lhs; simp [execOp, go_sem, hc, e20, kc w hC])) ?_
     refine w_is (fun w => Below.refl _ w) _ (.inl rfl) (fun ρ w hC hc hfn hf => by have e1 : ρ (.tmp 1) = _ := hf 1 (by decide); (conv => lhs; simp [execOp, go_sem, hc, e1])) ?_
     refine w_is (fun w => Below.refl _ w) _ (.inl rfl) (fun ρ w hC hc hfn hf => by have e5 : ρ (.tmp 5) = _ := hf 5 (by decide); (conv => lhs; simp [execOp, go_sem, hc, e5])) ?_
     refine w_is (fun w => Below.refl _ w) _ (.inl rfl) (fun ρ w hC hc hfn hf => by have e22 : ρ (.tmp 22) = _ := hf 22 (by decide); have e23 : ρ (.tmp 23) = _ := hf 23 (by decide); (conv => lhs; simp [execOp, go_sem, hc, e22, e23, hk0, hk1, hk2, hkn])) ?_
     refine w_is (fun w => Below.refl _ w) _ (.inl rfl) (fun ρ w hC hc hfn hf => by have e24 : ρ (.tmp 24) = _ := hf 24 (by decide); (conv => lhs; simp [execOp, go_sem, hc, e24])) ?_
     refine w_is (fun w => Below.refl _ w) _ (.inl rfl) (fun ρ w hC hc hfn hf => by have e25 : ρ (.tmp 25) = _ := hf 25 (by decide); (conv => lhs; simp [execOp, go_sem, hc, e25, kc w hC])) ?_
     refine w_is (fun w => Below.refl _ w) _ (.inl rfl) (fun ρ w hC hc hfn hf => by have e21 : ρ (.tmp 21) = _ := hf 21 (by decide); have e26 : ρ (.tmp 26) = _ := hf 26 (by decide); (conv => lhs; simp [execOp, go_sem, hc, e21, e26, hNM])) ?_
     refine w_is (fun w => Below.refl _ w) _ (.inl rfl) (fun ρ w hC hc hfn hf => by have e27 : ρ (.tmp 27) = _ := hf 27 (by decide); (conv => lhs; simp [execOp, go_sem, hc, e27])) ?_
     refine w_is (fun w => Below.refl _ w) _ (.inr ⟨11, 28, false, rfl, rfl, known_is rfl⟩) (fun ρ w hC hc hfn hf => by have e0 : ρ (.tmp 0) = _ := hf 0 (by decide); (conv => lhs; simp [execOp, go_sem, hc, e0])) ?_
     refine w_is (fun w => Below.refl _ w) _ (.inr ⟨11, 28, false, rfl, rfl, known_is rfl⟩) (fun ρ w hC hc hfn hf => by have e5 : ρ (.tmp 5) = _ := hf 5 (by decide); (conv => lhs; simp [execOp, go_sem, hc, e5])) ?_
     refine w_is (fun w => Below.refl _ w) _ (.inr ⟨11, 28, false, rfl, rfl, known_is rfl⟩) (fun ρ w hC hc hfn hf => by have e29 : ρ (.tmp 29) = _ := hf 29 (by decide); have e30 : ρ (.tmp 30) = _ := hf 30 (by decide); (conv => lhs; simp [execOp, go_sem, hc, e29, e30, hk0, hk1, hk2, hkn])) ?_
     refine w_is (fun w => Below.refl _ w) _ (.inr ⟨11, 28, false, rfl, rfl, known_is rfl⟩) (fun ρ w hC hc hfn hf => by have e31 : ρ (.tmp 31) = _ := hf 31 (by decide); (conv => lhs; simp [execOp, go_sem, hc, e31])) ?_
     refine w_is (fun w => Below.refl _ w) _ (.inr ⟨11, 28, false, rfl, rfl, known_is rfl⟩) (fun ρ w hC hc hfn hf => by have e32 : ρ (.tmp 32) = _ := hf 32 (by decide); (conv => lhs; simp [execOp, go_sem, hc, e32, kc w hC])) ?_
     refine w_is (fun w => Below.refl _ w) _ (.inr ⟨11, 28, false, rfl, rfl, known_is rfl⟩) (fun ρ w hC hc hfn hf => by have e1 : ρ (.tmp 1) = _ := hf 1 (by decide); (conv => lhs; simp [execOp, go_sem, hc, e1])) ?_
     refine w_is (fun w => Below.refl _ w) _ (.inr ⟨11, 28, false, rfl, rfl, known_is rfl⟩) (fun ρ w hC hc hfn hf => by have e5 : ρ (.tmp 5) = _ := hf 5 (by decide); (conv => lhs; simp [execOp, go_sem, hc, e5])) ?_
     refine w_is (fun w => Below.refl _ w) _ (.inr ⟨11, 28, false, rfl, rfl, known_is rfl⟩) (fun ρ w hC hc hfn hf => by have e34 : ρ (.tmp 34) = _ := hf 34 (by decide); have e35 : ρ (.tmp 35) = _ := hf 35 (by decide); (conv => lhs; simp [execOp, go_sem, hc, e34, e35, hk0, hk1, hk2, hkn])) ?_
     refine w_is (fun w => Below.refl _ w) _ (.inr ⟨11, 28, false, rfl, rfl, known_is rfl⟩) (fun ρ w hC hc hfn hf => by have e36 : ρ (.tmp 36) = _ := hf 36 (by decide); (conv => lhs; simp [execOp, go_sem, hc, e36])) ?_
     refine w_is (fun w => Below.refl _ w) _ (.inr ⟨11, 28, false, rfl, rfl, known_is rfl⟩) (fun ρ w hC hc hfn hf => by have e37 : ρ (.tmp 37) = _ := hf 37 (by decide); (conv => lhs; simp [execOp, go_sem, hc, e37, kc w hC])) ?_
     refine w_call (Is _) (fun _ _ _ h _ => h) 66 (.inr ⟨11, 28, false, rfl, rfl, known_is rfl⟩) (fun ρ w hC hc hfn hf => by have e33 : ρ (.tmp 33) = _ := hf 33 (by decide); have e38 : ρ (.tmp 38) = _ := hf 38 (by decide); exact ⟨_, by (conv => lhs; simp [execOp, resolve, invoke, go_sem, hc, hfn, e33, e38]), tc_below hC (cS w hC)⟩) ?_
     refine w_is (fun w => Below.refl _ w) _ (.inr ⟨11, 28, false, rfl, rfl, known_is rfl⟩) (fun ρ w hC hc hfn hf => by have e39 : ρ (.tmp 39) = _ := hf 39 (by decide); (conv => lhs; simp [execOp, go_sem, hc, e39])) ?_
     refine w_is (fun w => Below.refl _ w) _ (.inl rfl) (fun ρ w hC hc hfn hf => by have e28 : ρ (.tmp 28) = _ := hf 28 (by decide); have e40 : ρ (.tmp 40) = _ := hf 40 (by decide); (conv => lhs; simp [execOp, go_sem, hc, e28, e40])) ?_
     intro A V5 hC hn hd hf
     have y0 : A.eval (.tmp 0) = _ := Eq.trans (hf 0) (by conv => lhs; simp [go_sem])
     have y1 : A.eval (.tmp 1) = _ := Eq.trans (hf 1) (by conv => lhs; simp [go_sem])
     have y2 : A.eval (.tmp 2) = _ := Eq.trans (hf 2) (by conv => lhs; simp [go_sem])
     have y3 : A.eval (.tmp 3) = _ := Eq.trans (hf 3) (by conv => lhs; simp [go_sem])
     have y4 : A.eval (.tmp 4) = _ := Eq.trans (hf 4) (by conv => lhs; simp [go_sem])
     have y5 : A.eval (.tmp 5) = _ := Eq.trans (hf 5) (by conv => lhs; simp [go_sem])
     have y6 : A.eval (.tmp 6) = _ := Eq.trans (hf 6) (by conv => lhs; simp [go_sem])
     have y7 : A.eval (.tmp 7) = _ := Eq.trans (hf 7) (by conv => lhs; simp [go_sem])
     have y8 : A.eval (.tmp 8) = _ := Eq.trans (hf 8) (by conv => lhs; simp [go_sem])
     have y9 : A.eval (.tmp 9) = _ := Eq.trans (hf 9) (by conv => lhs; simp [go_sem])
     have y10 : A.eval (.tmp 10) = _ := Eq.trans (hf 10) (by conv => lhs; simp [go_sem])
     have y11 : A.eval (.tmp 11) = _ := Eq.trans (hf 11) (by conv => lhs; simp [go_sem])
     have y12 : A.eval (.tmp 12) = _ := Eq.trans (hf 12) (by conv => lhs; simp [go_sem])
     have y13 : A.eval (.tmp 13) = _ := Eq.trans (hf 13) (by conv => lhs; simp [go_sem])
     have y14 : A.eval (.tmp 14) = _ := Eq.trans (hf 14) (by conv => lhs; simp [go_sem])
     have y15 : A.eval (.tmp 15) = _ := Eq.trans (hf 15) (by conv => lhs; simp [go_sem])
     have y16 : A.eval (.tmp 16) = _ := Eq.trans (hf 16) (by conv => lhs; simp [go_sem])
     have y17 : A.eval (.tmp 17) = _ := hf 17
     have y18 : A.eval (.tmp 18) = _ := hf 18
     have y19 : A.eval (.tmp 19) = _ := hf 19
     have y20 : A.eval (.tmp 20) = _ := hf 20
     have y21 : A.eval (.tmp 21) = _ := hf 21
     have y22 : A.eval (.tmp 22) = _ := hf 22
     have y23 : A.eval (.tmp 23) = _ := hf 23
     have y24 : A.eval (.tmp 24) = _ := hf 24
     have y25 : A.eval (.tmp 25) = _ := hf 25
     have y26 : A.eval (.tmp 26) = _ := hf 26
     have y27 : A.eval (.tmp 27) = _ := hf 27
     have y28 : A.eval (.tmp 28) = _ := hf 28
     have y29 : A.eval (.tmp 29) = _ := hf 29
     have y30 : A.eval (.tmp 30) = _ := hf 30
     have y31 : A.eval (.tmp 31) = _ := hf 31
     have y32 : A.eval (.tmp 32) = _ := hf 32
     have y33 : A.eval (.tmp 33) = _ := hf 33
     have y34 : A.eval (.tmp 34) = _ := hf 34
     have y35 : A.eval (.tmp 35) = _ := hf 35
     have y36 : A.eval (.tmp 36) = _ := hf 36
     have y37 : A.eval (.tmp 37) = _ := hf 37
     have y38 : A.eval (.tmp 38) = _ := hf 38
     have y39 : A.eval (.tmp 39) = _ := hf 39
     have y40 : A.eval (.tmp 40) = _ := hf 40
     have y41 : A.eval (.tmp 41) = _ := hf 41
     clear hf
     have hA := frame_eq hn
     rw [show List.range 42 = [0, 1, 2, 3, 4, 5, 6, 7, 8, 9, 10, 11, 12, 13, 14, 15, 16, 17, 18, 19, 20, 21, 22, 23, 24, 25, 26, 27, 28, 29, 30, 31, 32, 33, 34, 35, 36, 37, 38, 39, 40, 41] from rfl, hd] at hA
     simp only [List.map_cons, List.map_nil, y0, y1, y2, y3, y4, y5, y6, y7, y8, y9, y10, y11, y12, y13, y14, y15, y16, y17, y18, y19, y20, y21, y22, y23, y24, y25, y26, y27, y28, y29, y30, y31, y32, y33, y34, y35, y36, y37, y38, y39, y40, y41] at hA
     clear y0 y1 y2 y3 y4 y5 y6 y7 y8 y9 y10 y11 y12 y13 y14 y15 y16 y17 y18 y19 y20 y21 y22 y23 y24 y25 y26 y27 y28 y29 y30 y31 y32 y33 y34 y35 y36 y37 y38 y39 y40 y41
     clear hn hd
     subst hA
     cases q with
     | true =>
      go_wp2_with fail
      go_roundw
      case rel =>
       refine ⟨k + 1, by omega, by go_num, ?_, HB.out.trans (hC.mono HB.out.size)⟩
       intro j hj
       by_cases h : j < k
       ·exact HS.out j h
       ·obtain rfl : j = k := by omega
        exact (HK.out.trans (by rw [HM.out, HQ.out.1 (by simp)])).trans HK2.out.symm
      case measure => simp [intOf]; omega
     | false =>
      go_wp2_with fail
      go_ret
      refine ⟨⟨false, rfl, ⟨(fun h => by cases h), fun h => ?_⟩⟩, HB.out.trans (hC.mono HB.out.size)⟩
      subst h
      have h := HK.out.symm.trans HK2.out
      exact absurd (HQ.out.2 (congrArg Prod.snd h)) (by decide)
    ·have hNM : (M1 != M2) = true := by simpa using hMM
     have HM := Lib.hid hMM
     clear hMM
     refine wp_region_typed (C := fun w' => Below wo.heap.size wo w') (X := fun w w' => Below w.heap.size w w') (n := 42) (by kernel_rfl) (by kernel_rfl) rfl (fun w => Below.refl _ w) (Below.refl _ _).drew ?_
     refine w_is (fun w => Below.refl _ w) _ (.inl rfl) (fun ρ w hC hc hfn hf => by have e0 : ρ (.tmp 0) = _ := hf 0 (by decide); (conv => lhs; simp [execOp, go_sem, hc, e0])) ?_
     refine w_is (fun w => Below.refl _ w) _ (.inl rfl) (fun ρ w hC hc hfn hf => by have e5 : ρ (.tmp 5) = _ := hf 5 (by decide); (conv => lhs; simp [execOp, go_sem, hc, e5])) ?_
     refine w_is (fun w => Below.refl _ w) _ (.inl rfl) (fun ρ w hC hc hfn hf => by have e17 : ρ (.tmp 17) = _ := hf 17 (by decide); have e18 : ρ (.tmp 18) = _ := hf 18 (by decide); (conv => lhs; simp [execOp, go_sem, hc, e17, e18, hk0, hk1, hk2, hkn])) ?_
     refine w_is (fun w => Below.refl _ w) _ (.inl rfl) (fun ρ w hC hc hfn hf => by have e19 : ρ (.tmp 19) = _ := hf 19 (by decide); (conv => lhs; simp [execOp, go_sem, hc, e19])) ?_
     refine w_is (fun w => Below.refl _ w) _ (.inl rfl) (fun ρ w hC hc hfn hf => by have e20 : ρ (.tmp 20) = _ := hf 20 (by decide); (conv => lhs; simp [execOp, go_sem, hc, e20, kc w hC])) ?_
     refine w_is (fun w => Below.refl _ w) _ (.inl rfl) (fun ρ w hC hc hfn hf => by have e1 : ρ (.tmp 1) = _ := hf 1 (by decide); (conv => lhs; simp [execOp, go_sem, hc, e1])) ?_
     refine w_is (fun w => Below.refl _ w) _ (.inl rfl) (fun ρ w hC hc hfn hf => by have e5 : ρ (.tmp 5) = _ := hf 5 (by decide); (conv => lhs; simp [execOp, go_sem, hc, e5])) ?_
     refine w_is (fun w => Below.refl _ w) _ (.inl rfl) (fun ρ w hC hc hfn hf => by have e22 : ρ (.tmp 22) = _ := hf 22 (by decide); have e23 : ρ (.tmp 23) = _ := hf 23 (by decide); (conv => lhs; simp [execOp, go_sem, hc, e22, e23, hk0, hk1, hk2, hkn])) ?_
     refine w_is (fun w => Below.refl _ w) _ (.inl rfl) (fun ρ w hC hc hfn hf => by have e24 : ρ (.tmp 24) = _ := hf 24 (by decide); (conv => lhs; simp [execOp, go_sem, hc, e24])) ?_
     refine w_is (fun w => Below.refl _ w) _ (.inl rfl) (fun ρ w hC hc hfn hf => by have e25 : ρ (.tmp 25) = _ := hf 25 (by decide); (conv => lhs; simp [execOp, go_sem, hc, e25, kc w hC])) ?_
     refine w_is (fun w => Below.refl _ w) _ (.inl rfl) (fun ρ w hC hc hfn hf => by have e21 : ρ (.tmp 21) = _ := hf 21 (by decide); have e26 : ρ (.tmp 26) = _ := hf 26 (by decide); (conv => lhs; simp [execOp, go_sem, hc, e21, e26, hNM])) ?_
     refine w_is (fun w => Below.refl _ w) _ (.inl rfl) (fun ρ w hC hc hfn hf => by have e27 : ρ (.tmp 27) = _ := hf 27 (by decide); (conv => lhs; simp [execOp, go_sem, hc, e27])) ?_
     refine w_skip rfl rfl (known_is rfl) ?_
     refine w_skip rfl rfl (known_is rfl) ?_
     refine w_skip rfl rfl (known_is rfl) ?_
     refine w_skip rfl rfl (known_is rfl) ?_
     refine w_skip rfl rfl (known_is rfl) ?_
     refine w_skip rfl rfl (known_is rfl) ?_
     refine w_skip rfl rfl (known_is rfl) ?_
     refine w_skip rfl rfl (known_is rfl) ?_
     refine w_skip rfl rfl (known_is rfl) ?_
     refine w_skip rfl rfl (known_is rfl) ?_
     refine w_skip rfl rfl (known_is rfl) ?_
     refine w_skip rfl rfl (known_is rfl) ?_
     refine w_is (fun w => Below.refl _ w) _ (.inl rfl) (fun ρ w hC hc hfn hf => by have e28 : ρ (.tmp 28) = _ := hf 28 (by decide); have e40 : ρ (.tmp 40) = _ := hf 40 (by decide); (conv => lhs; simp [execOp, go_sem, hc, e28, e40])) ?_
     intro A V5 hC hn hd hf
     have y0 : A.eval (.tmp 0) = _ := Eq.trans (hf 0) (by conv => lhs; simp [go_sem])
     have y1 : A.eval (.tmp 1) = _ := Eq.trans (hf 1) (by conv => lhs; simp [go_sem])
     have y2 : A.eval (.tmp 2) = _ := Eq.trans (hf 2) (by conv => lhs; simp [go_sem])
     have y3 : A.eval (.tmp 3) = _ := Eq.trans (hf 3) (by conv => lhs; simp [go_sem])
     have y4 : A.eval (.tmp 4) = _ := Eq.trans (hf 4) (by conv => lhs; simp [go_sem])
     have y5 : A.eval (.tmp 5) = _ := Eq.trans (hf 5) (by conv => lhs; simp [go_sem])
     have y6 : A.eval (.tmp 6) = _ := Eq.trans (hf 6) (by conv => lhs; simp [go_sem])
     have y7 : A.eval (.tmp 7) = _ := Eq.trans (hf 7) (by conv => lhs; simp [go_sem])
     have y8 : A.eval (.tmp 8) = _ := Eq.trans (hf 8) (by conv => lhs; simp [go_sem])
     have y9 : A.eval (.tmp 9) = _ := Eq.trans (hf 9) (by conv => lhs; simp [go_sem])
     have y10 : A.eval (.tmp 10) = _ := Eq.trans (hf 10) (by conv => lhs; simp [go_sem])
     have y11 : A.eval (.tmp 11) = _ := Eq.trans (hf 11) (by conv => lhs; simp [go_sem])
     have y12 : A.eval (.tmp 12) = _ := Eq.trans (hf 12) (by conv => lhs; simp [go_sem])
     have y13 : A.eval (.tmp 13) = _ := Eq.trans (hf 13) (by conv => lhs; simp [go_sem])
     have y14 : A.eval (.tmp 14) = _ := Eq.trans (hf 14) (by conv => lhs; simp [go_sem])
     have y15 : A.eval (.tmp 15) = _ := Eq.trans (hf 15) (by conv => lhs; simp [go_sem])
     have y16 : A.eval (.tmp 16) = _ := Eq.trans (hf 16) (by conv => lhs; simp [go_sem])
     have y17 : A.eval (.tmp 17) = _ := hf 17
     have y18 : A.eval (.tmp 18) = _ := hf 18
     have y19 : A.eval (.tmp 19) = _ := hf 19
     have y20 : A.eval (.tmp 20) = _ := hf 20
     have y21 : A.eval (.tmp 21) = _ := hf 21
     have y22 : A.eval (.tmp 22) = _ := hf 22
     have y23 : A.eval (.tmp 23) = _ := hf 23
     have y24 : A.eval (.tmp 24) = _ := hf 24
     have y25 : A.eval (.tmp 25) = _ := hf 25
     have y26 : A.eval (.tmp 26) = _ := hf 26
     have y27 : A.eval (.tmp 27) = _ := hf 27
     have y28 : A.eval (.tmp 28) = _ := hf 28
     have y29 : A.eval (.tmp 29) = _ := hf 29
     have y30 : A.eval (.tmp 30) = _ := hf 30
     have y31 : A.eval (.tmp 31) = _ := hf 31
     have y32 : A.eval (.tmp 32) = _ := hf 32
     have y33 : A.eval (.tmp 33) = _ := hf 33
     have y34 : A.eval (.tmp 34) = _ := hf 34
     have y35 : A.eval (.tmp 35) = _ := hf 35
     have y36 : A.eval (.tmp 36) = _ := hf 36
     have y37 : A.eval (.tmp 37) = _ := hf 37
     have y38 : A.eval (.tmp 38) = _ := hf 38
     have y39 : A.eval (.tmp 39) = _ := hf 39
     have y40 : A.eval (.tmp 40) = _ := hf 40
     have y41 : A.eval (.tmp 41) = _ := hf 41
     clear hf
     have hA := frame_eq hn
     rw [show List.range 42 = [0, 1, 2, 3, 4, 5, 6, 7, 8, 9, 10, 11, 12, 13, 14, 15, 16, 17, 18, 19, 20, 21, 22, 23, 24, 25, 26, 27, 28, 29, 30, 31, 32, 33, 34, 35, 36, 37, 38, 39, 40, 41] from rfl, hd] at hA
     simp only [List.map_cons, List.map_nil, y0, y1, y2, y3, y4, y5, y6, y7, y8, y9, y10, y11, y12, y13, y14, y15, y16, y17, y18, y19, y20, y21, y22, y23, y24, y25, y26, y27, y28, y29, y30, y31, y32, y33, y34, y35, y36, y37, y38, y39, y40, y41] at hA
     clear y0 y1 y2 y3 y4 y5 y6 y7 y8 y9 y10 y11 y12 y13 y14 y15 y16 y17 y18 y19 y20 y21 y22 y23 y24 y25 y26 y27 y28 y29 y30 y31 y32 y33 y34 y35 y36 y37 y38 y39 y40 y41
     clear hn hd
     subst hA
     go_wp2_with fail
     go_ret
     refine ⟨⟨false, rfl, ⟨(fun h => by cases h), fun h => ?_⟩⟩, HB.out.trans (hC.mono HB.out.size)⟩
     subst h
     have h := HK.out.symm.trans HK2.out
     exact absurd (congrArg Prod.fst h) HM.out
   ·obtain rfl : k = xs.length := by omega
    go_wp2_with fail
    go_ret
    exact ⟨⟨true, rfl, ⟨fun _ => brow_ext HN.out HS.out, fun _ => rfl⟩⟩, HB.out⟩
 ·have hne' : ((xs.length : Int) == (zs.length : Int)) = false := by rw [beq_eq_false_iff_ne]; omega
  have HN := Lib.hid hne
  clear hne
  go_enter Tryz.func44, Tryz.ntmps44
  go_wp2_with fail
  go_ret
  exact ⟨⟨false, rfl, ⟨(fun h => by cases h), fun h => absurd (congrArg List.length h) HN.out⟩⟩, Below.refl _ _⟩
end Go.Proofs.YtjghebcnmoojmaaGreat
