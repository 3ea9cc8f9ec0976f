/- Steps of a region that draws its order: a call by its contract, an object behind those in a row. No conditions beyond those of the theorems. What is parsed of a batch has the same bytes, what has bytes is parsed: by the reading's own words. No conditions. A batch out of bytes, as the document says it: the walk. No conditions. -/
import Derived.Test.YtjghebcnmoojmaaGreatU10
import Derived.Test.YtjghebcnmoojmaaGreatU26
import Derived.Test.YtjghebcnmoojmaaGreatU28
import Derived.Deep.RegionLaw
namespace Go.Proofs.YtjghebcnmoojmaaGreat
set_option maxRecDepth 100000
open Go.RowKit Go.Sort

theorem step_enter {P : Program} {ops : Array Oper} {o : Oper} {a : Act} {w : World} {K : Act → World → Prop} {Q : Exit → Act → World → Prop} {E : Prop} (hg : o.guard = none) (f : FuncId) (args : Array Value) (R : Value → World → Prop)
  (hrun : (execOp a.eval o).run P w = .ok (.enter f args) w) (hc : Calls P f args w fun e w' => ∃ v, e = .returned v ∧ R v w') (hK : ∀ v w', R v w' → K (a.put o.dst v) w') :
  if Region.wanted o (yielded ops a.tmps) = true then Oper.wp P o a w K Q else E := by
 have hw : Region.wanted o (yielded ops a.tmps) = true := by simp [Region.wanted, hg]
 rw [if_pos hw]
 unfold Oper.wp
 rw [hrun]
 exact hc.mono fun e w' ⟨v, he, hr⟩ => by subst he; exact hK v w' hr
theorem exec_call3 {P : Program} {ρ : Operand → Value} {o : Oper} {f : FuncId} {s1 s2 s3 : Operand} {T : Array TypeId} {v1 v2 v3 : Value} {w : World} (ho : o.op = .call { callee := .value (.func f), args := #[s1, s2, s3], argTypes := T }) (hfn : ρ (.func f) = .func (.func f) #[] #[]) (h1 : ρ s1 = v1) (h2 : ρ s2 = v2) (h3 : ρ s3 = v3)
  (hcall : (callFunc f #[v1, v2, v3]).run P w = .ok (.enter f #[v1, v2, v3]) w) :
  (execOp ρ o).run P w = .ok (.enter f #[v1, v2, v3]) w := by
 unfold execOp
 simp [ho, resolve, invoke, hfn, h1, h2, h3, go_sem, hcall]
theorem call37 (args : Array Value) (w : World) : (callFunc 113 args).run Tryz.prog w = .ok (.enter 113 args) w := by simp [go_sem]
theorem step_oapp {ops : Array Oper} {o : Oper} {a : Act} {W : World} {K : Act → World → Prop} {Q : Exit → Act → World → Prop} {E : Prop} (hg : o.guard = none) (s x : Operand)
  (ho : o.op = .call { callee := .builtin .append, args := #[s, x], argTypes := #[43, 43] }) (w1 : World) (y : Ob) (hW : W = w1.alloc (.cells #[.int .i64 y.k, .int .i64 y.x, .bool y.n, .int .i64 y.t, .int .i64 y.o, .int .i64 y.r, .int .i64 y.d, .int .i64 y.i, .int .i64 y.p, .int .i64 y.q, .int .i64 y.s, .int .i64 y.m] 63)) (S : Nat) (v : Value) (xs : List Ob)
  (hs : a.eval s = v) (hx : a.eval x = .slice (some ⟨w1.heap.size, 0, none⟩) 1 1) (hown : w1.ownsRow S 63 12 v xs.length (flat xs)) (hl : xs.length ≤ 3000) (hS : S ≤ w1.heap.size)
  (hK : ∀ g cap w', w'.ownsRow S 63 12 (.slice (some ⟨g, 0, none⟩) (xs.length + 1) cap) (xs ++ [y]).length (flat (xs ++ [y])) → Below S w1 w' → K (a.put o.dst (.slice (some ⟨g, 0, none⟩) (xs.length + 1) cap)) w') :
  if Region.wanted o (yielded ops a.tmps) = true then Oper.wp Tryz.prog o a W K Q else E := by
 have hw : Region.wanted o (yielded ops a.tmps) = true := by simp [Region.wanted, hg]
 rw [if_pos hw]
 subst hW
 have hb : Below S w1 (w1.alloc (.cells #[.int .i64 y.k, .int .i64 y.x, .bool y.n, .int .i64 y.t, .int .i64 y.o, .int .i64 y.r, .int .i64 y.d, .int .i64 y.i, .int .i64 y.p, .int .i64 y.q, .int .i64 y.s, .int .i64 y.m] 63)) := (Below.refl S w1).alloc hS _
 obtain ⟨g, cap, w', hr, h2, h3, _⟩ := run_oapp (w1.alloc (.cells #[.int .i64 y.k, .int .i64 y.x, .bool y.n, .int .i64 y.t, .int .i64 y.o, .int .i64 y.r, .int .i64 y.d, .int .i64 y.i, .int .i64 y.p, .int .i64 y.q, .int .i64 y.s, .int .i64 y.m] 63)) o.type S v xs (hown.alloc _) w1.heap.size y (c12_alloc w1 y _ rfl) hl (by simp; omega)
 unfold Oper.wp
 rw [exec_append ho hs hx hr]
 exact hK g cap w' h2 (hb.grown h3 (by simp; omega) (fun k hk => (hown.lt k hk).1))
def OP.ob (O : OP) : Ob := ⟨O.k, O.x, O.n, O.t, O.o, O.r, O.d, O.i, O.p, O.q, O.s, O.m⟩
def readsO (xs : List Int) : Nat → (Int × Int) → List Ob × (Int × Int)
 | 0, u => ([], u)
 | n + 1, u => ((readsO xs n u).1 ++ [(nextO xs (readsO xs n u).2).ob], ((nextO xs (readsO xs n u).2).to, (nextO xs (readsO xs n u).2).e))
theorem readsO_len (xs : List Int) (u : Int × Int) : ∀ n, (readsO xs n u).1.length = n
 | 0 => rfl
 | n + 1 => by rw [readsO]; simp [readsO_len xs u n]
structure BP where
 M : Int
 ys : List Ob
 to : Int
 e : Int
def BP.no (e : Int) : BP := ⟨0, [], 0, e⟩
def bparseF (M : Int) (r : List Ob × (Int × Int)) : BP := if r.2.2 = 0 then (if BtOk M r.1 then ⟨M, r.1, r.2.1, 0⟩ else .no 4) else .no r.2.2
def cntOk (c : Int) : Bool := decide (1 ≤ c ∧ c ≤ 32)
def bparseS (xs : List Int) (k : Int) : BP :=
 bparseF (numS xs 2 (k, 0)).1 (readsO xs (numS xs 1 (numS xs 2 (k, 0)).2).1.toNat ((numS xs 1 (numS xs 2 (k, 0)).2).2.1, needE (numS xs 1 (numS xs 2 (k, 0)).2).2.2 (cntOk (numS xs 1 (numS xs 2 (k, 0)).2).1)))
theorem num1_bd {xs : List Int} (hx : ∀ x ∈ xs, 0 ≤ x ∧ x < 256) (u : Int × Int) : 0 ≤ (numS xs 1 u).1 ∧ (numS xs 1 u).1 ≤ 255 := by
 unfold numS
 split
 ·unfold getS
  split
  ·simp
  ·split
   ·simp
   ·have h1 := be_bd _ (seg_bytes hx u.1.toNat 1)
    have h2 : pow256 ((xs.drop u.1.toNat).take 1).length ≤ 256 := by
     have : ((xs.drop u.1.toNat).take 1).length ≤ 1 := by simp; omega
     have h3 : ((xs.drop u.1.toNat).take 1).length = 0 ∨ ((xs.drop u.1.toNat).take 1).length = 1 := by omega
     rcases h3 with h3 | h3 <;> rw [h3] <;> decide
    show 0 ≤ segN xs u.1.toNat (1 : Int).toNat ∧ segN xs u.1.toNat (1 : Int).toNat ≤ 255
    unfold segN
    show 0 ≤ be ((xs.drop u.1.toNat).take 1) ∧ be ((xs.drop u.1.toNat).take 1) ≤ 255
    omega
 ·simp
end Go.Proofs.YtjghebcnmoojmaaGreat

namespace Go.Proofs.YtjghebcnmoojmaaGreat
set_option maxRecDepth 100000
open Go.RowKit Go.Sort

theorem oparse_inv_at (xs : List Int) (hx : ∀ x ∈ xs, 0 ≤ x ∧ x < 256) (K : Nat) (O : OP) (hO : oparseS xs (K : Int) = O) (he : O.e = 0) :
  ObOk O.k O.x O.n O.t O.o O.r O.d O.i O.p O.q O.s O.m ∧ ∃ T : Nat, O.to = ((K + T : Nat) : Int) ∧ 2 ≤ T ∧ K + T ≤ xs.length ∧ (xs.drop K).take T = obB O.k O.x O.n O.t O.o O.r O.d O.i O.p O.q O.s O.m := by
 obtain ⟨k1, s1, e1, h1⟩ : ∃ x y z, shortS xs ((K : Int), 0) = (x, y, z) := ⟨_, _, _, rfl⟩
 obtain ⟨x, s2, e2, h2⟩ : ∃ x y z, shortS xs (s1, e1) = (x, y, z) := ⟨_, _, _, rfl⟩
 by_cases hk : kn k1 = true
 ·have e : O = oparseD xs k1 (x, s2, e2) := by rw [← hO]; unfold oparseS; simp only [h1]; rw [if_pos hk, h2]
  have pos : e2 = 0 → e1 = 0 ∧ K + 1 < xs.length ∧ k1 = xs.getD K 0 ∧ x = xs.getD (K + 1) 0 ∧ s2 = ((K + 2 : Nat) : Int) := by
   intro z2
   subst z2
   have z1 := short_pos h2
   simp only [] at z1
   subst z1
   obtain ⟨-, l1, v1, rfl⟩ := short_inv h1
   rw [show ((K : Int) + 1) = ((K + 1 : Nat) : Int) by omega] at h2
   obtain ⟨-, l2, v2, rfl⟩ := short_inv h2
   exact ⟨rfl, l2, v1, v2, by omega⟩
  have two : K + 1 < xs.length → (xs.drop K).take 2 = [xs.getD K 0, xs.getD (K + 1) 0] := fun h => take_two xs K h
  have hk4 : k1 = 1 ∨ k1 = 2 ∨ k1 = 3 ∨ k1 = 4 := by
   simp only [kn, Bool.or_eq_true, beq_iff_eq] at hk; exact hk
  clear hk hO
  rcases hk4 with rfl | rfl | rfl | rfl
  ·have e' : O = oparseF 1 x false 0 0 0 0 0 0 0 0 0 (s2, e2) := by rw [e]; unfold oparseD; rw [if_pos rfl]
   obtain ⟨z2, hq, rfl⟩ := oparseF_inv e' he
   simp only [] at z2
   obtain ⟨-, l1, v1, v2, rfl⟩ := pos z2
   refine ⟨hq, 2, rfl, by omega, by omega, ?_⟩
   rw [obB_1, two l1, ← v1, ← v2]
  ·obtain ⟨P, hP⟩ : ∃ P, nextP xs (s2, e2) = P := ⟨_, rfl⟩
   have e' : O = oparseF 2 x P.n P.t P.o P.r P.d P.i 0 0 0 0 (P.to, P.e) := by rw [e]; unfold oparseD; rw [if_neg (by decide), if_pos rfl]; simp only [hP]; rfl
   obtain ⟨zp, hq, rfl⟩ := oparseF_inv e' he
   simp only [] at zp
   have z2 : e2 = 0 := by
    by_cases z : e2 = 0
    ·exact z
    ·rw [nextP, if_neg z] at hP; rw [← hP] at zp; exact zp
   obtain ⟨-, l1, v1, v2, rfl⟩ := pos z2
   subst z2
   rw [nextP, if_pos rfl] at hP
   obtain ⟨-, T, hT, hl, hb⟩ := parse_inv_at xs hx (K + 2) P hP zp
   refine ⟨hq, 2 + T, by simp only []; rw [hT]; omega, by omega, by omega, ?_⟩
   rw [obB_2, List.take_add, List.drop_drop, two l1, hb, ← v1, ← v2]
  ·obtain ⟨p, s3, e3, h3⟩ : ∃ x y z, longS xs (s2, e2) = (x, y, z) := ⟨_, _, _, rfl⟩
   obtain ⟨q, s4, e4, h4⟩ : ∃ x y z, shortS xs (s3, e3) = (x, y, z) := ⟨_, _, _, rfl⟩
   obtain ⟨s, s5, e5, h5⟩ : ∃ x y z, shortS xs (s4, e4) = (x, y, z) := ⟨_, _, _, rfl⟩
   have e' : O = oparseF 3 x false 0 0 0 0 0 p q s 0 (s5, e5) := by rw [e]; unfold oparseD; rw [if_neg (by decide), if_neg (by decide), if_pos rfl]; simp only [h3, h4, h5]; rfl
   obtain ⟨z5, hq, rfl⟩ := oparseF_inv e' he
   simp only [] at z5
   subst z5
   have z4 := short_pos h5
   simp only [] at z4
   subst z4
   have z3 := short_pos h4
   simp only [] at z3
   subst z3
   have z2 := long_pos h3
   simp only [] at z2
   obtain ⟨-, l1, v1, v2, rfl⟩ := pos z2
   subst z2
   obtain ⟨-, l3, v3, rfl⟩ := long_inv h3
   rw [show (((K + 2 : Nat) : Int) + 8) = ((K + 10 : Nat) : Int) by omega] at h4
   obtain ⟨-, l4, v4, rfl⟩ := short_inv h4
   rw [show (((K + 10 : Nat) : Int) + 1) = ((K + 11 : Nat) : Int) by omega] at h5
   obtain ⟨-, l5, v5, rfl⟩ := short_inv h5
   refine ⟨hq, 12, by simp only []; omega, by omega, by omega, ?_⟩
   have b3 := seg_eight hx l3
   have b4 := take_two xs (K + 10) (by omega)
   rw [obB_3, show 12 = 2 + (8 + 2) from rfl, List.take_add, List.take_add, List.drop_drop, List.drop_drop, two l1, show K + (2 + 8) = K + 10 by omega, b4, ← b3, ← v1, ← v2, ← v3, ← v4, ← v5]
   simp
  ·obtain ⟨P, hP⟩ : ∃ P, nextP xs (s2, e2) = P := ⟨_, rfl⟩
   obtain ⟨m, s4, e4, h4⟩ : ∃ x y z, numS xs 2 (P.to, P.e) = (x, y, z) := ⟨_, _, _, rfl⟩
   have e' : O = oparseF 4 x P.n P.t P.o P.r P.d P.i 0 0 0 m (s4, e4) := by rw [e]; unfold oparseD; rw [if_neg (by decide), if_neg (by decide), if_neg (by decide)]; simp only [hP]; unfold oparse4; simp only [h4]
   obtain ⟨z4, hq, rfl⟩ := oparseF_inv e' he
   simp only [] at z4
   subst z4
   have zp : P.e = 0 := by
    by_cases z : P.e = 0
    ·exact z
    ·rw [numS, if_neg z] at h4
     simp only [Prod.mk.injEq] at h4
     exact h4.2.2
   have z2 : e2 = 0 := by
    by_cases z : e2 = 0
    ·exact z
    ·rw [nextP, if_neg z] at hP; rw [← hP] at zp; exact zp
   obtain ⟨-, l1, v1, v2, rfl⟩ := pos z2
   subst z2
   rw [nextP, if_pos rfl] at hP
   obtain ⟨-, T, hT, hl, hb⟩ := parse_inv_at xs hx (K + 2) P hP zp
   rw [hT] at h4
   obtain ⟨-, l4, v4, rfl⟩ := num2_inv h4
   obtain ⟨-, bm⟩ := seg_two hx l4
   refine ⟨hq, 2 + T + 2, by simp only []; omega, by omega, by omega, ?_⟩
   rw [obB_4, List.take_add, List.take_add, List.drop_drop, List.drop_drop, two l1, hb, show K + (2 + T) = K + 2 + T by omega, bm, ← v1, ← v2, ← v4]
 ·have e : O = .no (needE e1 false) := by rw [← hO]; unfold oparseS; simp only [h1]; rw [if_neg hk]
  subst e
  have : needE e1 false ≠ 0 := by unfold needE; by_cases h : e1 = 0 <;> simp [h]
  exact (this he).elim
theorem nextO_pos {xs : List Int} {u : Int × Int} (h : (nextO xs u).e = 0) : u.2 = 0 ∧ oparseS xs u.1 = nextO xs u := by
 by_cases he : u.2 = 0
 ·exact ⟨he, by rw [nextO, if_pos he]⟩
 ·rw [nextO, if_neg he] at h; exact absurd h he
theorem reads_inv (xs : List Int) (hx : ∀ x ∈ xs, 0 ≤ x ∧ x < 256) (K : Nat) (e : Int) : ∀ n, (readsO xs n ((K : Int), e)).2.2 = 0 →
  e = 0 ∧ AllOk (readsO xs n ((K : Int), e)).1 ∧ ∃ T : Nat, (readsO xs n ((K : Int), e)).2.1 = ((K + T : Nat) : Int) ∧ 2 * n ≤ T ∧ (0 < n → K + T ≤ xs.length) ∧ (xs.drop K).take T = ((readsO xs n ((K : Int), e)).1.map Ob.bs).flatten
 | 0, h => ⟨h, fun i hi => by simp [readsO] at hi, 0, by simp [readsO], by omega, by omega, by simp [readsO]⟩
 | n + 1, h => by
  rw [readsO] at h ⊢
  simp only at h ⊢
  obtain ⟨h1, h2⟩ := nextO_pos h
  obtain ⟨i1, i2, T, i3, i4, i5, i6⟩ := reads_inv xs hx K e n h1
  generalize readsO xs n ((K : Int), e) = r at *
  rw [i3] at h2
  obtain ⟨j1, T', j2, j3, j4, j5⟩ := oparse_inv_at xs hx (K + T) _ h2 h
  generalize nextO xs r.2 = O at *
  refine ⟨i1, fun i hi => ?_, T + T', by rw [j2]; congr 1; omega, by omega, fun _ => by omega, ?_⟩
  ·by_cases hl : i < r.1.length
   ·rw [show (r.1 ++ [O.ob]).getD i z12 = r.1.getD i z12 by simp [List.getD, List.getElem?_append, hl]]
    exact i2 i hl
   ·have : i = r.1.length := by simp at hi; omega
    subst this
    rw [show (r.1 ++ [O.ob]).getD r.1.length z12 = O.ob by simp [List.getD]]
    exact j1
  ·rw [List.take_add, List.drop_drop, i6, j5, List.map_append, List.flatten_append]
   congr 1
   simp only [List.map_cons, List.map_nil, List.flatten_cons, List.flatten_nil, List.append_nil]
   exact (if_pos j1).symm
theorem num_one (xs : List Int) (u : Int × Int) : numS xs 1 u = shortS xs u := rfl
theorem bparse_inv (xs : List Int) (hx : ∀ x ∈ xs, 0 ≤ x ∧ x < 256) (B : BP) (hB : bparseS xs 0 = B) (he : B.e = 0) :
  BtOk B.M B.ys ∧ ∃ T : Nat, B.to = (T : Int) ∧ 5 ≤ T ∧ T ≤ xs.length ∧ xs.take T = btB B.M B.ys := by
 obtain ⟨M, s1, e1, h1⟩ : ∃ x y z, numS xs 2 (((0 : Nat) : Int), 0) = (x, y, z) := ⟨_, _, _, rfl⟩
 have h1' : numS xs 2 (0, 0) = (M, s1, e1) := h1
 obtain ⟨cn, s2, e2, h2⟩ : ∃ x y z, numS xs 1 (s1, e1) = (x, y, z) := ⟨_, _, _, rfl⟩
 have hcn : 0 ≤ cn ∧ cn ≤ 255 := by have := num1_bd hx (s1, e1); rw [h2] at this; exact this
 have e : B = bparseF M (readsO xs cn.toNat (s2, needE e2 (cntOk cn))) := by rw [← hB]; unfold bparseS; simp only [h1', h2]
 clear hB
 have hlen := readsO_len xs (s2, needE e2 (cntOk cn)) cn.toNat
 obtain ⟨e3, he3⟩ : ∃ e3, needE e2 (cntOk cn) = e3 := ⟨_, rfl⟩
 rw [he3] at e hlen
 have key : (readsO xs cn.toNat (s2, e3)).2.2 = 0 ∧ BtOk M (readsO xs cn.toNat (s2, e3)).1 ∧ B = ⟨M, (readsO xs cn.toNat (s2, e3)).1, (readsO xs cn.toNat (s2, e3)).2.1, 0⟩ := by
  subst e
  unfold bparseF at he ⊢
  by_cases h0 : (readsO xs cn.toNat (s2, e3)).2.2 = 0
  ·rw [if_pos h0] at he ⊢
   by_cases hb : BtOk M (readsO xs cn.toNat (s2, e3)).1
   ·rw [if_pos hb]; exact ⟨h0, hb, rfl⟩
   ·rw [if_neg hb] at he; cases he
  ·rw [if_neg h0] at he; exact (h0 he).elim
 obtain ⟨k1, k2, rfl⟩ := key
 have hpos : ∀ n, (readsO xs n (s2, e3)).2.2 = 0 → e3 = 0 := fun n => by
  induction n with
  | zero => exact id
  | succ n ih =>
   intro h
   rw [readsO] at h
   exact ih (nextO_pos h).1
 have z3 : e3 = 0 := hpos _ k1
 subst z3
 have z2 : e2 = 0 := by unfold needE at he3; split at he3 <;> omega
 subst z2
 rw [num_one] at h2
 have z1 := short_pos h2
 simp only [] at z1
 subst z1
 obtain ⟨-, l1, v1, rfl⟩ := num2_inv h1
 rw [show (((0 : Nat) : Int) + 2) = ((2 : Nat) : Int) by omega] at h2
 obtain ⟨-, l2, v2, rfl⟩ := short_inv h2
 rw [show (((2 : Nat) : Int) + 1) = ((3 : Nat) : Int) by omega] at k1 k2 hlen ⊢
 obtain ⟨-, -, T, i3, i4, i5, i6⟩ := reads_inv xs hx 3 0 cn.toNat k1
 have hc1 : 1 ≤ cn.toNat := by have := k2.2.1.1; omega
 refine ⟨k2, 3 + T, i3, by omega, i5 (by omega), ?_⟩
 obtain ⟨-, b1⟩ := seg_two hx l1
 have b2 := take_one xs 2 l2
 rw [← v1, List.drop_zero] at b1
 rw [show 3 + T = 2 + (1 + T) by omega, List.take_add, List.take_add, List.drop_drop, b1, b2, ← v2, i6]
 unfold btB
 rw [hlen, Int.toNat_of_nonneg hcn.1]
 simp
theorem reads_fwd (f M : List Int) (ys : List Ob) (hok : AllOk ys) (K : Nat) (hK : K = f.length) : ∀ n, n ≤ ys.length →
  readsO (f ++ ((ys.map Ob.bs).flatten ++ M)) n ((K : Int), 0) = (ys.take n, (((K + osz (ys.take n) : Nat) : Int), 0))
 | 0, _ => by simp [readsO, osz]
 | n + 1, h => by
  rw [readsO, reads_fwd f M ys hok K hK n (by omega)]
  simp only []
  have hq := hok n (by omega)
  have h1 := flat_bs ys n (by omega)
  have h2 := osz_succ ys n (by omega)
  have h3 : ys.take (n + 1) = ys.take n ++ [ys.getD n z12] := by
   rw [List.take_succ_eq_append_getElem (by omega)]
   simp [List.getD, show n < ys.length by omega]
  have e : f ++ ((ys.map Ob.bs).flatten ++ M) = (f ++ ((ys.take n).map Ob.bs).flatten) ++ ((ys.getD n z12).bs ++ (((ys.drop (n + 1)).map Ob.bs).flatten ++ M)) := by
   have h4 : (ys.map Ob.bs).flatten = ((ys.take (n + 1)).map Ob.bs).flatten ++ ((ys.drop (n + 1)).map Ob.bs).flatten := by
    rw [← List.flatten_append, ← List.map_append, List.take_append_drop]
   rw [h4, h1]
   simp
  have hl : (f ++ ((ys.take n).map Ob.bs).flatten).length = K + osz (ys.take n) := by rw [List.length_append, bs_flat_len, hK]
  generalize ys.getD n z12 = y at *
  have hb : y.bs = obB y.k y.x y.n y.t y.o y.r y.d y.i y.p y.q y.s y.m := if_pos hq
  have hf := oparse_fwd (f ++ ((ys.take n).map Ob.bs).flatten) (((ys.drop (n + 1)).map Ob.bs).flatten ++ M) (show ObOk y.k y.x y.n y.t y.o y.r y.d y.i y.p y.q y.s y.m from hq)
  rw [← hb, ← e, hl] at hf
  rw [nextO, if_pos rfl]
  simp only []
  rw [hf, h3, osz_app]
  simp only [OP.ob, Prod.mk.injEq, true_and, and_true]
  simp [osz]
  omega
theorem bparse_fwd (f M : List Int) (N : Int) (ys : List Ob) (h : BtOk N ys) : bparseS (f ++ (btB N ys ++ M)) f.length = ⟨N, ys, (f.length : Int) + ((btB N ys).length : Int), 0⟩ := by
 have hN : 0 ≤ N ∧ N ≤ 65535 := h.1
 have ok : PutOk N 2 := ⟨by decide, by decide, hN.1, by rw [show pow256 (2 : Int).toNat = 65536 by decide]; omega⟩
 have g1 := back_get f ((ys.length : Int) :: ((ys.map Ob.bs).flatten ++ M)) ok
 rw [putB, if_pos ok, show (2 : Int).toNat = 2 from rfl, lo_two hN] at g1
 have e1 : f ++ (btB N ys ++ M) = f ++ ([N / 256, N % 256] ++ ((ys.length : Int) :: ((ys.map Ob.bs).flatten ++ M))) := by unfold btB; simp
 have e2 : f ++ (btB N ys ++ M) = (f ++ [N / 256, N % 256]) ++ ((ys.length : Int) :: ((ys.map Ob.bs).flatten ++ M)) := by unfold btB; simp
 have e3 : f ++ (btB N ys ++ M) = (f ++ [N / 256, N % 256, (ys.length : Int)]) ++ ((ys.map Ob.bs).flatten ++ M) := by unfold btB; simp
 have g2 := short_mid (f ++ [N / 256, N % 256]) ((ys.map Ob.bs).flatten ++ M) (ys.length : Int) (f.length + 2) (by simp)
 have g3 := reads_fwd (f ++ [N / 256, N % 256, (ys.length : Int)]) M ys h.2.2.1 (f.length + 3) (by simp) ys.length (Nat.le_refl _)
 rw [← e1] at g1
 rw [← e2] at g2
 rw [← e3, List.take_length] at g3
 have hlen : (btB N ys).length = 3 + osz ys := by unfold btB; rw [List.length_append, bs_flat_len]; rfl
 have c1 : numS (f ++ (btB N ys ++ M)) 2 ((f.length : Int), 0) = (N, ((f.length + 2 : Nat) : Int), 0) := by
  unfold numS
  rw [if_pos rfl]
  simp only []
  rw [g1]
  simp
 have hq : cntOk (ys.length : Int) = true := by unfold cntOk; have := h.2.1; rw [decide_eq_true (by omega)]
 unfold bparseS
 simp only [c1]
 rw [num_one, g2]
 simp only []
 rw [hq, show needE 0 true = 0 from rfl, Int.toNat_natCast, show (((f.length + 2 : Nat) : Int) + 1) = ((f.length + 3 : Nat) : Int) by omega, g3]
 unfold bparseF
 simp only [if_true]
 rw [if_pos h, hlen]
 congr 1
 omega
end Go.Proofs.YtjghebcnmoojmaaGreat

namespace Go.Proofs.YtjghebcnmoojmaaGreat
set_option maxRecDepth 100000
open Go.RowKit Go.Sort

theorem ob_ones (y : Ob) : ∀ u ∈ y.cl, u.oneCell' = true := by
 intro u hu
 simp only [Ob.cl, List.mem_cons, List.not_mem_nil, or_false] at hu
 rcases hu with rfl | rfl | rfl | rfl | rfl | rfl | rfl | rfl | rfl | rfl | rfl | rfl <;> rfl
theorem cellsOB : Tryz.prog.cellsOf 63 = 12 := by kernel_rfl
noncomputable def RO : RowT where
 α := Ob
 d := z12
 cl := Ob.cl
 K := 12
 T := 63
 SL := 43
 zero := .agg #[.int .i64 0, .int .i64 0, .bool false, .int .i64 0, .int .i64 0, .int .i64 0, .int .i64 0, .int .i64 0, .int .i64 0, .int .i64 0, .int .i64 0, .int .i64 0]
 bytes := 96
 hcl := fun _ => rfl
 hK := by decide
 hone := ob_ones
 hSL := underSL
 hinfo := infoOB
 hz := rfl
 hb := by decide
 hc := cellsOB
end Go.Proofs.YtjghebcnmoojmaaGreat
