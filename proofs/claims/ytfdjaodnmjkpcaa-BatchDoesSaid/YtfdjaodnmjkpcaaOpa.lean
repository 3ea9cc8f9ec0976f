/- An object read out of bytes: what Parse answers. No conditions. -/
import Derived.Test.YtfdjaodnmjkpcaaOp0
import Derived.Test.YtfdjaodnmjkpcaaOp1
import Derived.Test.YtfdjaodnmjkpcaaOp2
import Derived.Test.YtfdjaodnmjkpcaaOp3
import Derived.Test.YtfdjaodnmjkpcaaOp4
namespace Go.Proofs.Ytfdjaodnmjkpcaa
open Go.RowKit Go.Sort

def oparseF (k x : Int) (n : Bool) (t o r d i p q s m : Int) (u : Int × Int) : OP := if u.2 = 0 then (if ObOk k x n t o r d i p q s m then ⟨k, x, n, t, o, r, d, i, p, q, s, m, u.1, 0⟩ else .no 4) else .no u.2
/-- What Parse answers of an object. -/
def oparse2 (x : Int) (P : PR) : OP := oparseF 2 x P.n P.t P.o P.r P.d P.i 0 0 0 0 (P.to, P.e)
def oparse3 (x : Int) (p q s : Int × Int × Int) : OP := oparseF 3 x false 0 0 0 0 0 p.1 q.1 s.1 0 s.2
def oparse4 (xs : List Int) (x : Int) (P : PR) : OP := oparseF 4 x P.n P.t P.o P.r P.d P.i 0 0 0 (numS xs 2 (P.to, P.e)).1 (numS xs 2 (P.to, P.e)).2
def oparseD (xs : List Int) (k : Int) (d : Int × Int × Int) : OP :=
  if k = 1 then oparseF 1 d.1 false 0 0 0 0 0 0 0 0 0 d.2
  else if k = 2 then oparse2 d.1 (nextP xs d.2)
  else if k = 3 then oparse3 d.1 (longS xs d.2) (shortS xs (longS xs d.2).2) (shortS xs (shortS xs (longS xs d.2).2).2)
  else oparse4 xs d.1 (nextP xs d.2)
def oparseS (xs : List Int) (k : Int) : OP :=
  if kn (shortS xs (k, 0)).1 = true then oparseD xs (shortS xs (k, 0)).1 (shortS xs (shortS xs (k, 0)).2)
  else .no (needE (shortS xs (k, 0)).2.2 false)

theorem odoneP_ok {k x : Int} {n : Bool} {t o r d i p q s m : Int} {at' e : Int} (h : ObOk k x n t o r d i p q s m) : odoneP e true k x n t o r d i p q s m at' = oparseF k x n t o r d i p q s m (at', e) := by
  unfold odoneP oparseF needE
  by_cases he : e = 0
  · subst he; simp [h]
  · simp [he]
theorem odoneP_no {k x : Int} {n : Bool} {t o r d i p q s m : Int} {at' e : Int} (h : ¬ ObOk k x n t o r d i p q s m) : odoneP e false k x n t o r d i p q s m at' = oparseF k x n t o r d i p q s m (at', e) := by
  unfold odoneP oparseF needE
  by_cases he : e = 0
  · subst he; simp [h]
  · simp [he]
theorem ok_no' {k x : Int} {n : Bool} {t o r d i p q s m : Int} (h1 : k ≠ 1) (h2 : k ≠ 2) (h3 : k ≠ 3) (h4 : k ≠ 4) : ¬ ObOk k x n t o r d i p q s m := fun h => by
  rcases kind_of h with h | h | h | h
  · exact h1 h
  · exact h2 h
  · exact h3 h
  · exact h4 h
set_option maxHeartbeats 4000000 in
theorem oparse_any (v : Value) (k : Int) (xs : List Int) (w : World) (hv : Bs w v xs) : Calls Try.prog 38 #[v, .int .i64 k] w fun e w' => e = .returned (oparseS xs k).v ∧ Below w.heap.size w w' := by
  obtain ⟨a, l, c, rfl⟩ := Bs_form hv
  obtain ⟨k1, s1, e1, h1⟩ : ∃ x y z, shortS xs (k, 0) = (x, y, z) := ⟨_, _, _, rfl⟩
  by_cases c1 : k1 = 1
  · subst c1
    obtain ⟨x, s2, e2, h2⟩ : ∃ x y z, shortS xs (s1, e1) = (x, y, z) := ⟨_, _, _, rfl⟩
    have e : oparseS xs k = oparseF 1 x false 0 0 0 0 0 0 0 0 0 (s2, e2) := by unfold oparseS; simp only [h1]; rw [if_pos (show kn 1 = true from rfl)]; unfold oparseD; rw [if_pos rfl, h2]
    rw [e]
    by_cases hq : ObOk 1 x false 0 0 0 0 0 0 0 0 0
    · rw [← odoneP_ok hq]
      have D := fun W (hR : Rd W (w.heap.size + 1) s2 e2) => odone_any (w.heap.size + 1) 1 x false 0 0 0 0 0 0 0 0 0 true s2 e2 W hR
      generalize odoneP e2 true 1 x false 0 0 0 0 0 0 0 0 0 s2 = O at D ⊢
      exact po1_0 a l c k xs w hv s1 e1 x s2 e2 h1 h2 O.k O.x O.t O.o O.r O.d O.i O.p O.q O.s O.m O.to O.e O.n (fun W => by have hk := ocheck_any 1 x false 0 0 0 0 0 0 0 0 0 W; rw [obc_ok hq] at hk; exact hk) D
    · rw [← odoneP_no hq]
      have D := fun W (hR : Rd W (w.heap.size + 1) s2 e2) => odone_any (w.heap.size + 1) 1 x false 0 0 0 0 0 0 0 0 0 false s2 e2 W hR
      generalize odoneP e2 false 1 x false 0 0 0 0 0 0 0 0 0 s2 = O at D ⊢
      exact po1_1 a l c k xs w hv s1 e1 x s2 e2 h1 h2 O.k O.x O.t O.o O.r O.d O.i O.p O.q O.s O.m O.to O.e O.n (fun W => by have hk := ocheck_any 1 x false 0 0 0 0 0 0 0 0 0 W; rw [obc_no hq] at hk; exact hk) D
  by_cases c2 : k1 = 2
  · subst c2
    obtain ⟨x, s2, e2, h2⟩ : ∃ x y z, shortS xs (s1, e1) = (x, y, z) := ⟨_, _, _, rfl⟩
    obtain ⟨n, t, o, r, d, i, s3, e3, h3⟩ : ∃ n t o r d i s3 e3, nextP xs (s2, e2) = ⟨n, t, o, r, d, i, s3, e3⟩ := ⟨_, _, _, _, _, _, _, _, rfl⟩
    have e : oparseS xs k = oparseF 2 x n t o r d i 0 0 0 0 (s3, e3) := by unfold oparseS; simp only [h1]; rw [if_pos (show kn 2 = true from rfl)]; unfold oparseD; rw [if_neg (by decide), if_pos rfl, h2]; simp only [h3]; rfl
    rw [e]
    by_cases hq : ObOk 2 x n t o r d i 0 0 0 0
    · rw [← odoneP_ok hq]
      have D := fun W (hR : Rd W (w.heap.size + 1) s3 e3) => odone_any (w.heap.size + 1) 2 x n t o r d i 0 0 0 0 true s3 e3 W hR
      generalize odoneP e3 true 2 x n t o r d i 0 0 0 0 s3 = O at D ⊢
      exact po2_0 a l c k xs w hv n s1 e1 x s2 e2 t o r d i s3 e3 h1 h2 h3 O.k O.x O.t O.o O.r O.d O.i O.p O.q O.s O.m O.to O.e O.n (fun W => by have hk := ocheck_any 2 x n t o r d i 0 0 0 0 W; rw [obc_ok hq] at hk; exact hk) D
    · rw [← odoneP_no hq]
      have D := fun W (hR : Rd W (w.heap.size + 1) s3 e3) => odone_any (w.heap.size + 1) 2 x n t o r d i 0 0 0 0 false s3 e3 W hR
      generalize odoneP e3 false 2 x n t o r d i 0 0 0 0 s3 = O at D ⊢
      exact po2_1 a l c k xs w hv n s1 e1 x s2 e2 t o r d i s3 e3 h1 h2 h3 O.k O.x O.t O.o O.r O.d O.i O.p O.q O.s O.m O.to O.e O.n (fun W => by have hk := ocheck_any 2 x n t o r d i 0 0 0 0 W; rw [obc_no hq] at hk; exact hk) D
  by_cases c3 : k1 = 3
  · subst c3
    obtain ⟨x, s2, e2, h2⟩ : ∃ x y z, shortS xs (s1, e1) = (x, y, z) := ⟨_, _, _, rfl⟩
    obtain ⟨p, s3, e3, h3⟩ : ∃ x y z, longS xs (s2, e2) = (x, y, z) := ⟨_, _, _, rfl⟩
    obtain ⟨q, s4, e4, h4⟩ : ∃ x y z, shortS xs (s3, e3) = (x, y, z) := ⟨_, _, _, rfl⟩
    obtain ⟨s, s5, e5, h5⟩ : ∃ x y z, shortS xs (s4, e4) = (x, y, z) := ⟨_, _, _, rfl⟩
    have e : oparseS xs k = oparseF 3 x false 0 0 0 0 0 p q s 0 (s5, e5) := by unfold oparseS; simp only [h1]; rw [if_pos (show kn 3 = true from rfl)]; unfold oparseD; rw [if_neg (by decide), if_neg (by decide), if_pos rfl, h2]; simp only [h3, h4, h5]; rfl
    rw [e]
    by_cases hq : ObOk 3 x false 0 0 0 0 0 p q s 0
    · rw [← odoneP_ok hq]
      have D := fun W (hR : Rd W (w.heap.size + 1) s5 e5) => odone_any (w.heap.size + 1) 3 x false 0 0 0 0 0 p q s 0 true s5 e5 W hR
      generalize odoneP e5 true 3 x false 0 0 0 0 0 p q s 0 s5 = O at D ⊢
      exact po3_0 a l c k xs w hv s1 e1 x s2 e2 p s3 e3 q s4 e4 s s5 e5 h1 h2 h3 h4 h5 O.k O.x O.t O.o O.r O.d O.i O.p O.q O.s O.m O.to O.e O.n (fun W => by have hk := ocheck_any 3 x false 0 0 0 0 0 p q s 0 W; rw [obc_ok hq] at hk; exact hk) D
    · rw [← odoneP_no hq]
      have D := fun W (hR : Rd W (w.heap.size + 1) s5 e5) => odone_any (w.heap.size + 1) 3 x false 0 0 0 0 0 p q s 0 false s5 e5 W hR
      generalize odoneP e5 false 3 x false 0 0 0 0 0 p q s 0 s5 = O at D ⊢
      exact po3_1 a l c k xs w hv s1 e1 x s2 e2 p s3 e3 q s4 e4 s s5 e5 h1 h2 h3 h4 h5 O.k O.x O.t O.o O.r O.d O.i O.p O.q O.s O.m O.to O.e O.n (fun W => by have hk := ocheck_any 3 x false 0 0 0 0 0 p q s 0 W; rw [obc_no hq] at hk; exact hk) D
  by_cases c4 : k1 = 4
  · subst c4
    obtain ⟨x, s2, e2, h2⟩ : ∃ x y z, shortS xs (s1, e1) = (x, y, z) := ⟨_, _, _, rfl⟩
    obtain ⟨n, t, o, r, d, i, s3, e3, h3⟩ : ∃ n t o r d i s3 e3, nextP xs (s2, e2) = ⟨n, t, o, r, d, i, s3, e3⟩ := ⟨_, _, _, _, _, _, _, _, rfl⟩
    obtain ⟨m, s4, e4, h4⟩ : ∃ x y z, numS xs 2 (s3, e3) = (x, y, z) := ⟨_, _, _, rfl⟩
    have e : oparseS xs k = oparseF 4 x n t o r d i 0 0 0 m (s4, e4) := by unfold oparseS; simp only [h1]; rw [if_pos (show kn 4 = true from rfl)]; unfold oparseD; rw [if_neg (by decide), if_neg (by decide), if_neg (by decide), h2]; simp only [h3]; unfold oparse4; simp only [h4]
    rw [e]
    by_cases hq : ObOk 4 x n t o r d i 0 0 0 m
    · rw [← odoneP_ok hq]
      have D := fun W (hR : Rd W (w.heap.size + 1) s4 e4) => odone_any (w.heap.size + 1) 4 x n t o r d i 0 0 0 m true s4 e4 W hR
      generalize odoneP e4 true 4 x n t o r d i 0 0 0 m s4 = O at D ⊢
      exact po4_0 a l c k xs w hv n s1 e1 x s2 e2 t o r d i s3 e3 m s4 e4 h1 h2 h3 h4 O.k O.x O.t O.o O.r O.d O.i O.p O.q O.s O.m O.to O.e O.n (fun W => by have hk := ocheck_any 4 x n t o r d i 0 0 0 m W; rw [obc_ok hq] at hk; exact hk) D
    · rw [← odoneP_no hq]
      have D := fun W (hR : Rd W (w.heap.size + 1) s4 e4) => odone_any (w.heap.size + 1) 4 x n t o r d i 0 0 0 m false s4 e4 W hR
      generalize odoneP e4 false 4 x n t o r d i 0 0 0 m s4 = O at D ⊢
      exact po4_1 a l c k xs w hv n s1 e1 x s2 e2 t o r d i s3 e3 m s4 e4 h1 h2 h3 h4 O.k O.x O.t O.o O.r O.d O.i O.p O.q O.s O.m O.to O.e O.n (fun W => by have hk := ocheck_any 4 x n t o r d i 0 0 0 m W; rw [obc_no hq] at hk; exact hk) D
  have hk : kn k1 = false := by simp [kn, c1, c2, c3, c4]
  have e : oparseS xs k = .no (needE e1 false) := by unfold oparseS; simp only [h1]; rw [if_neg (by rw [hk]; decide)]
  have hne : needE e1 false ≠ 0 := by unfold needE; by_cases h : e1 = 0 <;> simp [h]
  obtain ⟨E, hE⟩ : ∃ E, needE e1 false = E := ⟨_, rfl⟩
  rw [hE] at hne
  have h2 : shortS xs (s1, needE e1 false) = (0, s1, E) := by rw [hE]; simp [shortS, hne]
  have hq : ¬ ObOk k1 0 false 0 0 0 0 0 0 0 0 0 := ok_no' c1 c2 c3 c4
  have hd : odoneP E false k1 0 false 0 0 0 0 0 0 0 0 0 s1 = .no E := by
    unfold odoneP
    rw [show needE E false = E by simp [needE, hne], if_neg hne]
  rw [e, hE, ← hd]
  have D := fun W (hR : Rd W (w.heap.size + 1) s1 E) => odone_any (w.heap.size + 1) k1 0 false 0 0 0 0 0 0 0 0 0 false s1 E W hR
  generalize odoneP E false k1 0 false 0 0 0 0 0 0 0 0 0 s1 = O at D ⊢
  exact po0_1 a l c k xs w hv k1 s1 e1 0 s1 E h1 h2 c1 c2 c3 c4 O.k O.x O.t O.o O.r O.d O.i O.p O.q O.s O.m O.to O.e O.n (fun W => by have hk := ocheck_any k1 0 false 0 0 0 0 0 0 0 0 0 W; rw [obc_no hq] at hk; exact hk) D
#print axioms oparse_any
end Go.Proofs.Ytfdjaodnmjkpcaa
