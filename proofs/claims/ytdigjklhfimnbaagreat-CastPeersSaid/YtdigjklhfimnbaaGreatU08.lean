/- Texts Obk, Obc of this proof, in one. No conditions but on lengths. -/
import Derived.Test.YtdigjklhfimnbaaGreatRows
import Derived.Test.YtdigjklhfimnbaaGreatU05
import Derived.Below
import Derived.BigQuiet
import Derived.Calls
import Derived.ChangeOld
import Derived.Deep.QuietTactic
import Derived.Laws.AppendOwnNone
import Derived.Laws.BytesArg
import Derived.Laws.StructEq
import Derived.Lib.Hide
import Derived.Lib.QuietBelow
import Derived.LoopTactic
import Derived.OpenShut
import Derived.Orders
import Derived.Outline
import Derived.ProofKit
import Derived.ShutString
import Derived.WalkKit
import Derived.WalkSpells
namespace Go.Proofs.YtdigjklhfimnbaaGreat
set_option maxRecDepth 100000
open Go.RowKit Go.Sort

theorem onode_any (i : Int) (w : World) :
    Calls Tryz.prog 100 #[.int .i64 i] w fun e w' => e = .returned (.bool (decide (NodeOk i))) ∧ w = w' := by
  go_enter Tryz.func100, Tryz.ntmps100
  go_wp2
  all_goals
    go_ret
    first
      | exact ⟨ret_false (by unfold NodeOk; omega), rfl⟩
      | exact ⟨ret_dec (by unfold NodeOk; omega), rfl⟩
/-- Whether a number is one that an object of its kind has. -/
def NumOk (m : Int) (b : Bool) : Prop := if b then 0 ≤ m ∧ m ≤ 65535 else m = 0
instance (m : Int) (b : Bool) : Decidable (NumOk m b) := by unfold NumOk; infer_instance
theorem onum_any (m : Int) (b : Bool) (w : World) :
    Calls Tryz.prog 103 #[.int .i64 m, .bool b] w fun e w' => e = .returned (.bool (decide (NumOk m b))) ∧ w = w' := by
  cases b with
  | false =>
    by_cases h : m = 0
    · subst h
      go_enter Tryz.func103, Tryz.ntmps103
      go_wp2
      go_ret
      exact ⟨rfl, rfl⟩
    · have hne : (m == 0) = false := by simpa using h
      have H := Lib.hid h
      clear h
      go_enter Tryz.func103, Tryz.ntmps103
      go_wp2
      go_ret
      exact ⟨ret_false (fun h => H.out (by simpa [NumOk] using h)), rfl⟩
  | true =>
    go_enter Tryz.func103, Tryz.ntmps103
    go_wp2
    all_goals
      go_ret
      first
        | exact ⟨ret_false (by simp only [NumOk, if_true]; omega), rfl⟩
        | exact ⟨ret_dec (by simp only [NumOk, if_true]; omega), rfl⟩
/-- A kind that there is. -/
def kn (k : Int) : Bool := k == 1 || (k == 2 || (k == 3 || k == 4))
def lvB (k : Int) : Bool := k == 3
def hgB (k : Int) : Bool := k == 2 || k == 4
def nuB (k : Int) : Bool := k == 4
def partsV (k : Int) : Value := .agg #[.bool (kn k), .bool (lvB k), .bool (hgB k), .bool (nuB k)]
set_option maxHeartbeats 4000000 in
theorem parts_any (k : Int) (w : World) :
    Calls Tryz.prog 99 #[.int .i64 k] w fun e w' => e = .returned (partsV k) ∧ Below w.heap.size w w' := by
  by_cases h4 : k = 4
  · subst h4
    go_enter Tryz.func99, Tryz.ntmps99
    go_wp2_with fail
    refine bodyPost_ret (v := .agg #[.bool true, .bool false, .bool true, .bool true]) (by simp [results, Tryz.results99, go_sem]) rfl ⟨rfl, ?_⟩
    repeat (first | exact Below.refl _ _ | refine Below.setCell ?_ (by simp) _ | refine Below.alloc ?_ (by simp) _)
  by_cases h2 : k = 2
  · subst h2
    go_enter Tryz.func99, Tryz.ntmps99
    go_wp2_with fail
    refine bodyPost_ret (v := .agg #[.bool true, .bool false, .bool true, .bool false]) (by simp [results, Tryz.results99, go_sem]) rfl ⟨rfl, ?_⟩
    repeat (first | exact Below.refl _ _ | refine Below.setCell ?_ (by simp) _ | refine Below.alloc ?_ (by simp) _)
  by_cases h1 : k = 1
  · subst h1
    go_enter Tryz.func99, Tryz.ntmps99
    go_wp2_with fail
    refine bodyPost_ret (v := .agg #[.bool true, .bool false, .bool false, .bool false]) (by simp [results, Tryz.results99, go_sem]) rfl ⟨rfl, ?_⟩
    repeat (first | exact Below.refl _ _ | refine Below.setCell ?_ (by simp) _ | refine Below.alloc ?_ (by simp) _)
  by_cases h3 : k = 3
  · subst h3
    go_enter Tryz.func99, Tryz.ntmps99
    go_wp2_with fail
    refine bodyPost_ret (v := .agg #[.bool true, .bool true, .bool false, .bool false]) (by simp [results, Tryz.results99, go_sem]) rfl ⟨rfl, ?_⟩
    repeat (first | exact Below.refl _ _ | refine Below.setCell ?_ (by simp) _ | refine Below.alloc ?_ (by simp) _)
  have e4 : (k == 4) = false := by simpa using h4
  have e2 : (k == 2) = false := by simpa using h2
  have e1 : (k == 1) = false := by simpa using h1
  have e3 : (k == 3) = false := by simpa using h3
  have hv : Ending.returned (.agg #[.bool false, .bool false, .bool false, .bool false]) = .returned (partsV k) := by simp [partsV, kn, lvB, hgB, nuB, e1, e2, e3, e4]
  have HV := Lib.hid hv
  clear hv h1 h2 h3 h4
  go_enter Tryz.func99, Tryz.ntmps99
  go_wp2_with fail
  refine bodyPost_ret (v := .agg #[.bool false, .bool false, .bool false, .bool false]) (by simp [results, Tryz.results99, go_sem]) rfl ⟨HV.out, ?_⟩
  repeat (first | exact Below.refl _ _ | refine Below.setCell ?_ (by simp) _ | refine Below.alloc ?_ (by simp) _)
/-- Whether a level is one that an object of its kind has. -/
def LvOk (t o r : Int) (b : Bool) : Prop := if b then HtOk false t o r 0 0 else t = 0 ∧ o = 0 ∧ r = 0
instance (t o r : Int) (b : Bool) : Decidable (LvOk t o r b) := by unfold LvOk; infer_instance
set_option maxHeartbeats 4000000 in
theorem olev_any (t o r : Int) (b : Bool) (w : World) :
    Calls Tryz.prog 101 #[.agg #[.int .i64 t, .int .i64 o, .int .i64 r], .bool b] w fun e w' => e = .returned (.bool (decide (LvOk t o r b))) ∧ Below w.heap.size w w' := by
  have E1 := guard25
  have E2 := eql25
  cases b with
  | false =>
    have hd : Ending.returned (.bool (eqL t o r 0 0 0)) = .returned (.bool (decide (LvOk t o r false))) := by
      congr 2
      rw [Bool.eq_iff_iff, eqL_iff]
      simp [LvOk]
    have HD := Lib.hid hd
    clear hd
    go_enter Tryz.func101, Tryz.ntmps101
    go_wp2_with fail
    go_ret
    exact ⟨HD.out, (Below.refl _ w).alloc (Nat.le_refl _) _⟩
  | true =>
    by_cases h : HtOk false t o r 0 0
    · have hd : Ending.returned (.bool true) = .returned (.bool (decide (LvOk t o r true))) := ret_true h
      have HD := Lib.hid hd
      have hv : atV t o r 0 0 = .tuple #[.agg #[.bool false, .int .i64 t, .int .i64 o, .int .i64 r, .int .i64 0, .int .i64 0], .int .i64 0] := by unfold atV; rw [if_pos h]
      clear hd h
      go_enter Tryz.func101, Tryz.ntmps101
      go_wp2_with (go_at_call 145; refine (at_any _ _ _ _ _ _).mono ?_; rintro e w' ⟨rfl, hb⟩; rw [hv]; have HB : Hid (Below w.heap.size w w') := ((Below.refl _ w).alloc (Nat.le_refl _) _).trans (hb.mono (by simp)); clear hb)
      go_ret
      refine ⟨HD.out, ?_⟩
      repeat (first | exact HB.out | refine Below.setCell ?_ HB.out.size _ | refine Below.alloc ?_ HB.out.size _)
    · have hd : Ending.returned (.bool false) = .returned (.bool (decide (LvOk t o r true))) := ret_false h
      have HD := Lib.hid hd
      have hv : atV t o r 0 0 = .tuple #[.agg #[.bool false, .int .i64 0, .int .i64 0, .int .i64 0, .int .i64 0, .int .i64 0], .int .i64 1] := by unfold atV; rw [if_neg h]
      clear hd h
      go_enter Tryz.func101, Tryz.ntmps101
      go_wp2_with (go_at_call 145; refine (at_any _ _ _ _ _ _).mono ?_; rintro e w' ⟨rfl, hb⟩; rw [hv]; have HB : Hid (Below w.heap.size w w') := ((Below.refl _ w).alloc (Nat.le_refl _) _).trans (hb.mono (by simp)); clear hb)
      go_ret
      refine ⟨HD.out, ?_⟩
      repeat (first | exact HB.out | refine Below.setCell ?_ HB.out.size _ | refine Below.alloc ?_ HB.out.size _)
/-- Whether a height is one that an object of its kind has. -/
def HgOk (n : Bool) (t o r d i : Int) (b : Bool) : Prop := if b then HtOk n t o r d i else n = false ∧ t = 0 ∧ o = 0 ∧ r = 0 ∧ d = 0 ∧ i = 0
instance (n : Bool) (t o r d i : Int) (b : Bool) : Decidable (HgOk n t o r d i b) := by unfold HgOk; infer_instance
set_option maxHeartbeats 4000000 in
theorem ohgt_any (n : Bool) (t o r d i : Int) (b : Bool) (w : World) :
    Calls Tryz.prog 102 #[.agg #[.bool n, .int .i64 t, .int .i64 o, .int .i64 r, .int .i64 d, .int .i64 i], .bool b] w fun e w' => e = .returned (.bool (decide (HgOk n t o r d i b))) ∧ Below w.heap.size w w' := by
  have E1 := guard23
  have E2 := eql23
  cases b with
  | false =>
    have hd : Ending.returned (.bool (eqH n t o r d i false 0 0 0 0 0)) = .returned (.bool (decide (HgOk n t o r d i false))) := by
      congr 2
      rw [Bool.eq_iff_iff, eqH_iff]
      simp [HgOk]
    have HD := Lib.hid hd
    clear hd
    go_enter Tryz.func102, Tryz.ntmps102
    go_wp2_with fail
    go_ret
    exact ⟨HD.out, (Below.refl _ w).alloc (Nat.le_refl _) _⟩
  | true =>
    by_cases h : HtOk n t o r d i
    · have hd : Ending.returned (.bool true) = .returned (.bool (decide (HgOk n t o r d i true))) := ret_true h
      have HD := Lib.hid hd
      have hv := chk_ok h
      clear hd h
      go_enter Tryz.func102, Tryz.ntmps102
      go_wp2_with (go_at_call 146; refine (check_any _ _ _ _ _ _ _).mono ?_; rintro e w' ⟨rfl, hb⟩; rw [hv]; have HB : Hid (Below w.heap.size w w') := ((Below.refl _ w).alloc (Nat.le_refl _) _).trans (hb.mono (by simp)); clear hb)
      go_ret
      exact ⟨HD.out, HB.out⟩
    · have hd : Ending.returned (.bool false) = .returned (.bool (decide (HgOk n t o r d i true))) := ret_false h
      have HD := Lib.hid hd
      have hv := chk_no h
      clear hd h
      go_enter Tryz.func102, Tryz.ntmps102
      go_wp2_with (go_at_call 146; refine (check_any _ _ _ _ _ _ _).mono ?_; rintro e w' ⟨rfl, hb⟩; rw [hv]; have HB : Hid (Below w.heap.size w w') := ((Below.refl _ w).alloc (Nat.le_refl _) _).trans (hb.mono (by simp)); clear hb)
      go_ret
      exact ⟨HD.out, HB.out⟩
/-- The twelve cells of an object. -/
def Cells12 (w : World) (b : Nat) (k x : Int) (n : Bool) (t o r d i p q s m : Int) : Prop :=
  w.cell? ⟨b, 0, none⟩ = some (.int .i64 k) ∧ w.cell? ⟨b, 1, none⟩ = some (.int .i64 x) ∧ w.cell? ⟨b, 2, none⟩ = some (.bool n) ∧ w.cell? ⟨b, 3, none⟩ = some (.int .i64 t) ∧ w.cell? ⟨b, 4, none⟩ = some (.int .i64 o) ∧ w.cell? ⟨b, 5, none⟩ = some (.int .i64 r) ∧ w.cell? ⟨b, 6, none⟩ = some (.int .i64 d) ∧ w.cell? ⟨b, 7, none⟩ = some (.int .i64 i) ∧ w.cell? ⟨b, 8, none⟩ = some (.int .i64 p) ∧ w.cell? ⟨b, 9, none⟩ = some (.int .i64 q) ∧ w.cell? ⟨b, 10, none⟩ = some (.int .i64 s) ∧ w.cell? ⟨b, 11, none⟩ = some (.int .i64 m)
theorem cells12_alloc (w : World) (k x : Int) (n : Bool) (t o r d i p q s m : Int) (T : TypeId) : Cells12 (w.alloc (.cells #[.int .i64 k, .int .i64 x, .bool n, .int .i64 t, .int .i64 o, .int .i64 r, .int .i64 d, .int .i64 i, .int .i64 p, .int .i64 q, .int .i64 s, .int .i64 m] T)) w.heap.size k x n t o r d i p q s m := by
  simp [Cells12]
theorem Cells12.below {w w' : World} {b : Nat} {k x : Int} {n : Bool} {t o r d i p q s m : Int} (h : Cells12 w b k x n t o r d i p q s m) (hb : Below w.heap.size w w') : Cells12 w' b k x n t o r d i p q s m := by
  obtain ⟨h0, h1, h2, h3, h4, h5, h6, h7, h8, h9, h10, h11⟩ := h
  have f : ∀ {a : Addr} {v : Value}, w.cell? a = some v → w'.cell? a = some v := fun h => by rw [hb.cell (World.block_lt_of_cell? w _ h)]; exact h
  exact ⟨f h0, f h1, f h2, f h3, f h4, f h5, f h6, f h7, f h8, f h9, f h10, f h11⟩
theorem Cells12.old {w w' : World} {b B : Nat} {k x : Int} {n : Bool} {t o r d i p q s m : Int} (h : Cells12 w b k x n t o r d i p q s m) (hb : Below B w w') (hB : b < B) : Cells12 w' b k x n t o r d i p q s m := by
  obtain ⟨h0, h1, h2, h3, h4, h5, h6, h7, h8, h9, h10, h11⟩ := h
  have f : ∀ {j : Nat} {v : Value}, w.cell? ⟨b, j, none⟩ = some v → w'.cell? ⟨b, j, none⟩ = some v := fun {j v} h => by rw [hb.cell (p := ⟨b, j, none⟩) hB]; exact h
  exact ⟨f h0, f h1, f h2, f h3, f h4, f h5, f h6, f h7, f h8, f h9, f h10, f h11⟩
/-- The four cells of an object's parts. -/
def Cells4 (w : World) (b : Nat) (a0 a1 a2 a3 : Bool) : Prop :=
  w.cell? ⟨b, 0, none⟩ = some (.bool a0) ∧ w.cell? ⟨b, 1, none⟩ = some (.bool a1) ∧ w.cell? ⟨b, 2, none⟩ = some (.bool a2) ∧ w.cell? ⟨b, 3, none⟩ = some (.bool a3)
theorem Cells4.below {w w' : World} {b : Nat} {a0 a1 a2 a3 : Bool} (h : Cells4 w b a0 a1 a2 a3) (hb : Below w.heap.size w w') : Cells4 w' b a0 a1 a2 a3 := by
  obtain ⟨h0, h1, h2, h3⟩ := h
  have f : ∀ {a : Addr} {v : Value}, w.cell? a = some v → w'.cell? a = some v := fun h => by rw [hb.cell (World.block_lt_of_cell? w _ h)]; exact h
  exact ⟨f h0, f h1, f h2, f h3⟩
/-- Parts are laid into a block of their own. -/
theorem parts_put (w : World) (a0 a1 a2 a3 : Bool) : ∃ V, w.alloc (.cells #[.bool a0, .bool a1, .bool a2, .bool a3] 202) = V ∧ Cells4 V w.heap.size a0 a1 a2 a3 ∧ Below w.heap.size w V ∧ w.heap.size < V.heap.size := by
  refine ⟨_, rfl, ?_, (Below.refl _ w).alloc (Nat.le_refl _) _, by simp⟩
  refine ⟨?_, ?_, ?_, ?_⟩ <;> simp
/-- An object that is right. -/
def ObOk (k x : Int) (n : Bool) (t o r d i p q s m : Int) : Prop :=
  kn k = true ∧ NodeOk x ∧ ¬ (k = 4 ∧ n = true) ∧ LvOk p q s (lvB k) ∧ HgOk n t o r d i (hgB k) ∧ NumOk m (nuB k)
instance (k x : Int) (n : Bool) (t o r d i p q s m : Int) : Decidable (ObOk k x n t o r d i p q s m) := by unfold ObOk; infer_instance
def obc (k x : Int) (n : Bool) (t o r d i p q s m : Int) : Int := if ObOk k x n t o r d i p q s m then 0 else 1
end Go.Proofs.YtdigjklhfimnbaaGreat
namespace Go.Proofs.YtdigjklhfimnbaaGreat
set_option maxRecDepth 100000
open Go.RowKit Go.Sort

set_option maxHeartbeats 8000000 in
theorem ocheck_core (k x : Int) (n : Bool) (t o r d i p q s m : Int) (b0 b1 b2 b3 bx bl bh bn : Bool) (w : World)
    (cP : ∀ w, Calls Tryz.prog 99 #[.int .i64 k] w fun e w' => e = .returned (.agg #[.bool b0, .bool b1, .bool b2, .bool b3]) ∧ Below w.heap.size w w')
    (cX : ∀ w, Calls Tryz.prog 100 #[.int .i64 x] w fun e w' => e = .returned (.bool bx) ∧ w = w') (cL : ∀ w, Calls Tryz.prog 101 #[.agg #[.int .i64 p, .int .i64 q, .int .i64 s], .bool b1] w fun e w' => e = .returned (.bool bl) ∧ Below w.heap.size w w') (cH : ∀ w, Calls Tryz.prog 102 #[.agg #[.bool n, .int .i64 t, .int .i64 o, .int .i64 r, .int .i64 d, .int .i64 i], .bool b2] w fun e w' => e = .returned (.bool bh) ∧ Below w.heap.size w w') (cN : ∀ w, Calls Tryz.prog 103 #[.int .i64 m, .bool b3] w fun e w' => e = .returned (.bool bn) ∧ w = w') :
    Calls Tryz.prog 60 #[.agg #[.int .i64 k, .int .i64 x, .bool n, .int .i64 t, .int .i64 o, .int .i64 r, .int .i64 d, .int .i64 i, .int .i64 p, .int .i64 q, .int .i64 s, .int .i64 m]] w fun e w' => e = .returned (.int .i64 (if (b0 && (bx && (!(k == 4 && n) && (bl && (bh && bn))))) = true then 0 else 1)) ∧ Below w.heap.size w w' := by
  cases b0 with
  | false =>
    have RS : Ending.returned (.int .i64 1) = .returned (.int .i64 (if (false && (bx && (!(k == 4 && n) && (bl && (bh && bn))))) = true then 0 else 1)) := by simp
    replace RS := Lib.hid RS
    go_enter Tryz.func60, Tryz.ntmps60
    go_wp2_with (first
        | (go_at_call 99; refine (cP _).mono ?_; rintro e w1 ⟨rfl, hb⟩; have K := Lib.hid ((cells12_alloc w k x n t o r d i p q s m 41).below hb); have HB : Hid (Below w.heap.size w w1) := ((Below.refl _ w).alloc (Nat.le_refl _) _).trans (hb.mono (by simp)); have HL : Hid (w.heap.size < w1.heap.size) := Nat.lt_of_lt_of_le (by simp) hb.size; clear hb; obtain ⟨V, hV, hP, hb2, hs2⟩ := parts_put w1 false b1 b2 b3; replace K := Lib.hid (K.out.below hb2); replace HB := Lib.hid (HB.out.trans (hb2.mono HB.out.size)); clear hb2 hs2 HL; have ⟨c0, c1, c2, c3, c4, c5, c6, c7, c8, c9, c10, c11⟩ := K.out; have ⟨p0, p1, p2, p3⟩ := hP; clear hP)
        | (go_at_call 100; refine (cX _).mono ?_; rintro e w2 ⟨rfl, hw⟩; subst hw)
        | (go_at_call 101; refine (cL _).mono ?_; rintro e w3 ⟨rfl, hb⟩; replace K := Lib.hid (K.out.below hb); have hP : Cells4 w3 _ _ _ _ _ := (show Cells4 _ _ _ _ _ _ from ⟨p0, p1, p2, p3⟩).below hb; replace HB := Lib.hid (HB.out.trans (hb.mono HB.out.size)); clear hb; clear c0 c1 c2 c3 c4 c5 c6 c7 c8 c9 c10 c11 p0 p1 p2 p3; have ⟨c0, c1, c2, c3, c4, c5, c6, c7, c8, c9, c10, c11⟩ := K.out; have ⟨p0, p1, p2, p3⟩ := hP; clear hP)
        | (go_at_call 102; refine (cH _).mono ?_; rintro e w4 ⟨rfl, hb⟩; replace K := Lib.hid (K.out.below hb); have hP : Cells4 w4 _ _ _ _ _ := (show Cells4 _ _ _ _ _ _ from ⟨p0, p1, p2, p3⟩).below hb; replace HB := Lib.hid (HB.out.trans (hb.mono HB.out.size)); clear hb; clear c0 c1 c2 c3 c4 c5 c6 c7 c8 c9 c10 c11 p0 p1 p2 p3; have ⟨c0, c1, c2, c3, c4, c5, c6, c7, c8, c9, c10, c11⟩ := K.out; have ⟨p0, p1, p2, p3⟩ := hP; clear hP)
        | (go_at_call 103; refine (cN _).mono ?_; rintro e w5 ⟨rfl, hw⟩; subst hw))
    all_goals
      go_ret
      first | exact ⟨RS.out, HB.out⟩ | exact ⟨rfl, HB.out⟩
  | true =>
    cases bx with
    | false =>
      have RS : Ending.returned (.int .i64 1) = .returned (.int .i64 (if (true && (false && (!(k == 4 && n) && (bl && (bh && bn))))) = true then 0 else 1)) := by simp
      replace RS := Lib.hid RS
      go_enter Tryz.func60, Tryz.ntmps60
      go_wp2_with (first
          | (go_at_call 99; refine (cP _).mono ?_; rintro e w1 ⟨rfl, hb⟩; have K := Lib.hid ((cells12_alloc w k x n t o r d i p q s m 41).below hb); have HB : Hid (Below w.heap.size w w1) := ((Below.refl _ w).alloc (Nat.le_refl _) _).trans (hb.mono (by simp)); have HL : Hid (w.heap.size < w1.heap.size) := Nat.lt_of_lt_of_le (by simp) hb.size; clear hb; obtain ⟨V, hV, hP, hb2, hs2⟩ := parts_put w1 true b1 b2 b3; replace K := Lib.hid (K.out.below hb2); replace HB := Lib.hid (HB.out.trans (hb2.mono HB.out.size)); clear hb2 hs2 HL; have ⟨c0, c1, c2, c3, c4, c5, c6, c7, c8, c9, c10, c11⟩ := K.out; have ⟨p0, p1, p2, p3⟩ := hP; clear hP)
          | (go_at_call 100; refine (cX _).mono ?_; rintro e w2 ⟨rfl, hw⟩; subst hw)
          | (go_at_call 101; refine (cL _).mono ?_; rintro e w3 ⟨rfl, hb⟩; replace K := Lib.hid (K.out.below hb); have hP : Cells4 w3 _ _ _ _ _ := (show Cells4 _ _ _ _ _ _ from ⟨p0, p1, p2, p3⟩).below hb; replace HB := Lib.hid (HB.out.trans (hb.mono HB.out.size)); clear hb; clear c0 c1 c2 c3 c4 c5 c6 c7 c8 c9 c10 c11 p0 p1 p2 p3; have ⟨c0, c1, c2, c3, c4, c5, c6, c7, c8, c9, c10, c11⟩ := K.out; have ⟨p0, p1, p2, p3⟩ := hP; clear hP)
          | (go_at_call 102; refine (cH _).mono ?_; rintro e w4 ⟨rfl, hb⟩; replace K := Lib.hid (K.out.below hb); have hP : Cells4 w4 _ _ _ _ _ := (show Cells4 _ _ _ _ _ _ from ⟨p0, p1, p2, p3⟩).below hb; replace HB := Lib.hid (HB.out.trans (hb.mono HB.out.size)); clear hb; clear c0 c1 c2 c3 c4 c5 c6 c7 c8 c9 c10 c11 p0 p1 p2 p3; have ⟨c0, c1, c2, c3, c4, c5, c6, c7, c8, c9, c10, c11⟩ := K.out; have ⟨p0, p1, p2, p3⟩ := hP; clear hP)
          | (go_at_call 103; refine (cN _).mono ?_; rintro e w5 ⟨rfl, hw⟩; subst hw))
      all_goals
        go_ret
        first | exact ⟨RS.out, HB.out⟩ | exact ⟨rfl, HB.out⟩
    | true =>
      by_cases h4 : k = 4
      · subst h4
        cases n with
        | true =>
          have RS : Ending.returned (.int .i64 1) = .returned (.int .i64 (if (true && (true && (!((4 : Int) == 4 && true) && (bl && (bh && bn))))) = true then 0 else 1)) := by simp
          replace RS := Lib.hid RS
          go_enter Tryz.func60, Tryz.ntmps60
          go_wp2_with (first
              | (go_at_call 99; refine (cP _).mono ?_; rintro e w1 ⟨rfl, hb⟩; have K := Lib.hid ((cells12_alloc w 4 x true t o r d i p q s m 41).below hb); have HB : Hid (Below w.heap.size w w1) := ((Below.refl _ w).alloc (Nat.le_refl _) _).trans (hb.mono (by simp)); have HL : Hid (w.heap.size < w1.heap.size) := Nat.lt_of_lt_of_le (by simp) hb.size; clear hb; obtain ⟨V, hV, hP, hb2, hs2⟩ := parts_put w1 true b1 b2 b3; replace K := Lib.hid (K.out.below hb2); replace HB := Lib.hid (HB.out.trans (hb2.mono HB.out.size)); clear hb2 hs2 HL; have ⟨c0, c1, c2, c3, c4, c5, c6, c7, c8, c9, c10, c11⟩ := K.out; have ⟨p0, p1, p2, p3⟩ := hP; clear hP)
              | (go_at_call 100; refine (cX _).mono ?_; rintro e w2 ⟨rfl, hw⟩; subst hw)
              | (go_at_call 101; refine (cL _).mono ?_; rintro e w3 ⟨rfl, hb⟩; replace K := Lib.hid (K.out.below hb); have hP : Cells4 w3 _ _ _ _ _ := (show Cells4 _ _ _ _ _ _ from ⟨p0, p1, p2, p3⟩).below hb; replace HB := Lib.hid (HB.out.trans (hb.mono HB.out.size)); clear hb; clear c0 c1 c2 c3 c4 c5 c6 c7 c8 c9 c10 c11 p0 p1 p2 p3; have ⟨c0, c1, c2, c3, c4, c5, c6, c7, c8, c9, c10, c11⟩ := K.out; have ⟨p0, p1, p2, p3⟩ := hP; clear hP)
              | (go_at_call 102; refine (cH _).mono ?_; rintro e w4 ⟨rfl, hb⟩; replace K := Lib.hid (K.out.below hb); have hP : Cells4 w4 _ _ _ _ _ := (show Cells4 _ _ _ _ _ _ from ⟨p0, p1, p2, p3⟩).below hb; replace HB := Lib.hid (HB.out.trans (hb.mono HB.out.size)); clear hb; clear c0 c1 c2 c3 c4 c5 c6 c7 c8 c9 c10 c11 p0 p1 p2 p3; have ⟨c0, c1, c2, c3, c4, c5, c6, c7, c8, c9, c10, c11⟩ := K.out; have ⟨p0, p1, p2, p3⟩ := hP; clear hP)
              | (go_at_call 103; refine (cN _).mono ?_; rintro e w5 ⟨rfl, hw⟩; subst hw))
          all_goals
            go_ret
            first | exact ⟨RS.out, HB.out⟩ | exact ⟨rfl, HB.out⟩
        | false =>
          cases bl with
          | false =>
            have RS : Ending.returned (.int .i64 1) = .returned (.int .i64 (if (true && (true && (!((4 : Int) == 4 && false) && (false && (bh && bn))))) = true then 0 else 1)) := by simp
            replace RS := Lib.hid RS
            go_enter Tryz.func60, Tryz.ntmps60
            go_wp2_with (first
                | (go_at_call 99; refine (cP _).mono ?_; rintro e w1 ⟨rfl, hb⟩; have K := Lib.hid ((cells12_alloc w 4 x false t o r d i p q s m 41).below hb); have HB : Hid (Below w.heap.size w w1) := ((Below.refl _ w).alloc (Nat.le_refl _) _).trans (hb.mono (by simp)); have HL : Hid (w.heap.size < w1.heap.size) := Nat.lt_of_lt_of_le (by simp) hb.size; clear hb; obtain ⟨V, hV, hP, hb2, hs2⟩ := parts_put w1 true b1 b2 b3; replace K := Lib.hid (K.out.below hb2); replace HB := Lib.hid (HB.out.trans (hb2.mono HB.out.size)); clear hb2 hs2 HL; have ⟨c0, c1, c2, c3, c4, c5, c6, c7, c8, c9, c10, c11⟩ := K.out; have ⟨p0, p1, p2, p3⟩ := hP; clear hP)
                | (go_at_call 100; refine (cX _).mono ?_; rintro e w2 ⟨rfl, hw⟩; subst hw)
                | (go_at_call 101; refine (cL _).mono ?_; rintro e w3 ⟨rfl, hb⟩; replace K := Lib.hid (K.out.below hb); have hP : Cells4 w3 _ _ _ _ _ := (show Cells4 _ _ _ _ _ _ from ⟨p0, p1, p2, p3⟩).below hb; replace HB := Lib.hid (HB.out.trans (hb.mono HB.out.size)); clear hb; clear c0 c1 c2 c3 c4 c5 c6 c7 c8 c9 c10 c11 p0 p1 p2 p3; have ⟨c0, c1, c2, c3, c4, c5, c6, c7, c8, c9, c10, c11⟩ := K.out; have ⟨p0, p1, p2, p3⟩ := hP; clear hP)
                | (go_at_call 102; refine (cH _).mono ?_; rintro e w4 ⟨rfl, hb⟩; replace K := Lib.hid (K.out.below hb); have hP : Cells4 w4 _ _ _ _ _ := (show Cells4 _ _ _ _ _ _ from ⟨p0, p1, p2, p3⟩).below hb; replace HB := Lib.hid (HB.out.trans (hb.mono HB.out.size)); clear hb; clear c0 c1 c2 c3 c4 c5 c6 c7 c8 c9 c10 c11 p0 p1 p2 p3; have ⟨c0, c1, c2, c3, c4, c5, c6, c7, c8, c9, c10, c11⟩ := K.out; have ⟨p0, p1, p2, p3⟩ := hP; clear hP)
                | (go_at_call 103; refine (cN _).mono ?_; rintro e w5 ⟨rfl, hw⟩; subst hw))
            all_goals
              go_ret
              first | exact ⟨RS.out, HB.out⟩ | exact ⟨rfl, HB.out⟩
          | true =>
            cases bh with
            | false =>
              have RS : Ending.returned (.int .i64 1) = .returned (.int .i64 (if (true && (true && (!((4 : Int) == 4 && false) && (true && (false && bn))))) = true then 0 else 1)) := by simp
              replace RS := Lib.hid RS
              go_enter Tryz.func60, Tryz.ntmps60
              go_wp2_with (first
                  | (go_at_call 99; refine (cP _).mono ?_; rintro e w1 ⟨rfl, hb⟩; have K := Lib.hid ((cells12_alloc w 4 x false t o r d i p q s m 41).below hb); have HB : Hid (Below w.heap.size w w1) := ((Below.refl _ w).alloc (Nat.le_refl _) _).trans (hb.mono (by simp)); have HL : Hid (w.heap.size < w1.heap.size) := Nat.lt_of_lt_of_le (by simp) hb.size; clear hb; obtain ⟨V, hV, hP, hb2, hs2⟩ := parts_put w1 true b1 b2 b3; replace K := Lib.hid (K.out.below hb2); replace HB := Lib.hid (HB.out.trans (hb2.mono HB.out.size)); clear hb2 hs2 HL; have ⟨c0, c1, c2, c3, c4, c5, c6, c7, c8, c9, c10, c11⟩ := K.out; have ⟨p0, p1, p2, p3⟩ := hP; clear hP)
                  | (go_at_call 100; refine (cX _).mono ?_; rintro e w2 ⟨rfl, hw⟩; subst hw)
                  | (go_at_call 101; refine (cL _).mono ?_; rintro e w3 ⟨rfl, hb⟩; replace K := Lib.hid (K.out.below hb); have hP : Cells4 w3 _ _ _ _ _ := (show Cells4 _ _ _ _ _ _ from ⟨p0, p1, p2, p3⟩).below hb; replace HB := Lib.hid (HB.out.trans (hb.mono HB.out.size)); clear hb; clear c0 c1 c2 c3 c4 c5 c6 c7 c8 c9 c10 c11 p0 p1 p2 p3; have ⟨c0, c1, c2, c3, c4, c5, c6, c7, c8, c9, c10, c11⟩ := K.out; have ⟨p0, p1, p2, p3⟩ := hP; clear hP)
                  | (go_at_call 102; refine (cH _).mono ?_; rintro e w4 ⟨rfl, hb⟩; replace K := Lib.hid (K.out.below hb); have hP : Cells4 w4 _ _ _ _ _ := (show Cells4 _ _ _ _ _ _ from ⟨p0, p1, p2, p3⟩).below hb; replace HB := Lib.hid (HB.out.trans (hb.mono HB.out.size)); clear hb; clear c0 c1 c2 c3 c4 c5 c6 c7 c8 c9 c10 c11 p0 p1 p2 p3; have ⟨c0, c1, c2, c3, c4, c5, c6, c7, c8, c9, c10, c11⟩ := K.out; have ⟨p0, p1, p2, p3⟩ := hP; clear hP)
                  | (go_at_call 103; refine (cN _).mono ?_; rintro e w5 ⟨rfl, hw⟩; subst hw))
              all_goals
                go_ret
                first | exact ⟨RS.out, HB.out⟩ | exact ⟨rfl, HB.out⟩
            | true =>
              cases bn with
              | false =>
                have RS : Ending.returned (.int .i64 1) = .returned (.int .i64 (if (true && (true && (!((4 : Int) == 4 && false) && (true && (true && false))))) = true then 0 else 1)) := by simp
                replace RS := Lib.hid RS
                go_enter Tryz.func60, Tryz.ntmps60
                go_wp2_with (first
                    | (go_at_call 99; refine (cP _).mono ?_; rintro e w1 ⟨rfl, hb⟩; have K := Lib.hid ((cells12_alloc w 4 x false t o r d i p q s m 41).below hb); have HB : Hid (Below w.heap.size w w1) := ((Below.refl _ w).alloc (Nat.le_refl _) _).trans (hb.mono (by simp)); have HL : Hid (w.heap.size < w1.heap.size) := Nat.lt_of_lt_of_le (by simp) hb.size; clear hb; obtain ⟨V, hV, hP, hb2, hs2⟩ := parts_put w1 true b1 b2 b3; replace K := Lib.hid (K.out.below hb2); replace HB := Lib.hid (HB.out.trans (hb2.mono HB.out.size)); clear hb2 hs2 HL; have ⟨c0, c1, c2, c3, c4, c5, c6, c7, c8, c9, c10, c11⟩ := K.out; have ⟨p0, p1, p2, p3⟩ := hP; clear hP)
                    | (go_at_call 100; refine (cX _).mono ?_; rintro e w2 ⟨rfl, hw⟩; subst hw)
                    | (go_at_call 101; refine (cL _).mono ?_; rintro e w3 ⟨rfl, hb⟩; replace K := Lib.hid (K.out.below hb); have hP : Cells4 w3 _ _ _ _ _ := (show Cells4 _ _ _ _ _ _ from ⟨p0, p1, p2, p3⟩).below hb; replace HB := Lib.hid (HB.out.trans (hb.mono HB.out.size)); clear hb; clear c0 c1 c2 c3 c4 c5 c6 c7 c8 c9 c10 c11 p0 p1 p2 p3; have ⟨c0, c1, c2, c3, c4, c5, c6, c7, c8, c9, c10, c11⟩ := K.out; have ⟨p0, p1, p2, p3⟩ := hP; clear hP)
                    | (go_at_call 102; refine (cH _).mono ?_; rintro e w4 ⟨rfl, hb⟩; replace K := Lib.hid (K.out.below hb); have hP : Cells4 w4 _ _ _ _ _ := (show Cells4 _ _ _ _ _ _ from ⟨p0, p1, p2, p3⟩).below hb; replace HB := Lib.hid (HB.out.trans (hb.mono HB.out.size)); clear hb; clear c0 c1 c2 c3 c4 c5 c6 c7 c8 c9 c10 c11 p0 p1 p2 p3; have ⟨c0, c1, c2, c3, c4, c5, c6, c7, c8, c9, c10, c11⟩ := K.out; have ⟨p0, p1, p2, p3⟩ := hP; clear hP)
                    | (go_at_call 103; refine (cN _).mono ?_; rintro e w5 ⟨rfl, hw⟩; subst hw))
                all_goals
                  go_ret
                  first | exact ⟨RS.out, HB.out⟩ | exact ⟨rfl, HB.out⟩
              | true =>
                have RS : Ending.returned (.int .i64 0) = .returned (.int .i64 (if (true && (true && (!((4 : Int) == 4 && false) && (true && (true && true))))) = true then 0 else 1)) := by simp
                replace RS := Lib.hid RS
                go_enter Tryz.func60, Tryz.ntmps60
                go_wp2_with (first
                    | (go_at_call 99; refine (cP _).mono ?_; rintro e w1 ⟨rfl, hb⟩; have K := Lib.hid ((cells12_alloc w 4 x false t o r d i p q s m 41).below hb); have HB : Hid (Below w.heap.size w w1) := ((Below.refl _ w).alloc (Nat.le_refl _) _).trans (hb.mono (by simp)); have HL : Hid (w.heap.size < w1.heap.size) := Nat.lt_of_lt_of_le (by simp) hb.size; clear hb; obtain ⟨V, hV, hP, hb2, hs2⟩ := parts_put w1 true b1 b2 b3; replace K := Lib.hid (K.out.below hb2); replace HB := Lib.hid (HB.out.trans (hb2.mono HB.out.size)); clear hb2 hs2 HL; have ⟨c0, c1, c2, c3, c4, c5, c6, c7, c8, c9, c10, c11⟩ := K.out; have ⟨p0, p1, p2, p3⟩ := hP; clear hP)
                    | (go_at_call 100; refine (cX _).mono ?_; rintro e w2 ⟨rfl, hw⟩; subst hw)
                    | (go_at_call 101; refine (cL _).mono ?_; rintro e w3 ⟨rfl, hb⟩; replace K := Lib.hid (K.out.below hb); have hP : Cells4 w3 _ _ _ _ _ := (show Cells4 _ _ _ _ _ _ from ⟨p0, p1, p2, p3⟩).below hb; replace HB := Lib.hid (HB.out.trans (hb.mono HB.out.size)); clear hb; clear c0 c1 c2 c3 c4 c5 c6 c7 c8 c9 c10 c11 p0 p1 p2 p3; have ⟨c0, c1, c2, c3, c4, c5, c6, c7, c8, c9, c10, c11⟩ := K.out; have ⟨p0, p1, p2, p3⟩ := hP; clear hP)
                    | (go_at_call 102; refine (cH _).mono ?_; rintro e w4 ⟨rfl, hb⟩; replace K := Lib.hid (K.out.below hb); have hP : Cells4 w4 _ _ _ _ _ := (show Cells4 _ _ _ _ _ _ from ⟨p0, p1, p2, p3⟩).below hb; replace HB := Lib.hid (HB.out.trans (hb.mono HB.out.size)); clear hb; clear c0 c1 c2 c3 c4 c5 c6 c7 c8 c9 c10 c11 p0 p1 p2 p3; have ⟨c0, c1, c2, c3, c4, c5, c6, c7, c8, c9, c10, c11⟩ := K.out; have ⟨p0, p1, p2, p3⟩ := hP; clear hP)
                    | (go_at_call 103; refine (cN _).mono ?_; rintro e w5 ⟨rfl, hw⟩; subst hw))
                all_goals
                  go_ret
                  first | exact ⟨RS.out, HB.out⟩ | exact ⟨rfl, HB.out⟩
      · have e4 : (k == 4) = false := by simpa using h4
        clear h4
        cases bl with
        | false =>
          have RS : Ending.returned (.int .i64 1) = .returned (.int .i64 (if (true && (true && (!(k == 4 && n) && (false && (bh && bn))))) = true then 0 else 1)) := by simp [e4]
          replace RS := Lib.hid RS
          go_enter Tryz.func60, Tryz.ntmps60
          go_wp2_with (first
              | (go_at_call 99; refine (cP _).mono ?_; rintro e w1 ⟨rfl, hb⟩; have K := Lib.hid ((cells12_alloc w k x n t o r d i p q s m 41).below hb); have HB : Hid (Below w.heap.size w w1) := ((Below.refl _ w).alloc (Nat.le_refl _) _).trans (hb.mono (by simp)); have HL : Hid (w.heap.size < w1.heap.size) := Nat.lt_of_lt_of_le (by simp) hb.size; clear hb; obtain ⟨V, hV, hP, hb2, hs2⟩ := parts_put w1 true b1 b2 b3; replace K := Lib.hid (K.out.below hb2); replace HB := Lib.hid (HB.out.trans (hb2.mono HB.out.size)); clear hb2 hs2 HL; have ⟨c0, c1, c2, c3, c4, c5, c6, c7, c8, c9, c10, c11⟩ := K.out; have ⟨p0, p1, p2, p3⟩ := hP; clear hP)
              | (go_at_call 100; refine (cX _).mono ?_; rintro e w2 ⟨rfl, hw⟩; subst hw)
              | (go_at_call 101; refine (cL _).mono ?_; rintro e w3 ⟨rfl, hb⟩; replace K := Lib.hid (K.out.below hb); have hP : Cells4 w3 _ _ _ _ _ := (show Cells4 _ _ _ _ _ _ from ⟨p0, p1, p2, p3⟩).below hb; replace HB := Lib.hid (HB.out.trans (hb.mono HB.out.size)); clear hb; clear c0 c1 c2 c3 c4 c5 c6 c7 c8 c9 c10 c11 p0 p1 p2 p3; have ⟨c0, c1, c2, c3, c4, c5, c6, c7, c8, c9, c10, c11⟩ := K.out; have ⟨p0, p1, p2, p3⟩ := hP; clear hP)
              | (go_at_call 102; refine (cH _).mono ?_; rintro e w4 ⟨rfl, hb⟩; replace K := Lib.hid (K.out.below hb); have hP : Cells4 w4 _ _ _ _ _ := (show Cells4 _ _ _ _ _ _ from ⟨p0, p1, p2, p3⟩).below hb; replace HB := Lib.hid (HB.out.trans (hb.mono HB.out.size)); clear hb; clear c0 c1 c2 c3 c4 c5 c6 c7 c8 c9 c10 c11 p0 p1 p2 p3; have ⟨c0, c1, c2, c3, c4, c5, c6, c7, c8, c9, c10, c11⟩ := K.out; have ⟨p0, p1, p2, p3⟩ := hP; clear hP)
              | (go_at_call 103; refine (cN _).mono ?_; rintro e w5 ⟨rfl, hw⟩; subst hw))
          all_goals
            go_ret
            first | exact ⟨RS.out, HB.out⟩ | exact ⟨rfl, HB.out⟩
        | true =>
          cases bh with
          | false =>
            have RS : Ending.returned (.int .i64 1) = .returned (.int .i64 (if (true && (true && (!(k == 4 && n) && (true && (false && bn))))) = true then 0 else 1)) := by simp [e4]
            replace RS := Lib.hid RS
            go_enter Tryz.func60, Tryz.ntmps60
            go_wp2_with (first
                | (go_at_call 99; refine (cP _).mono ?_; rintro e w1 ⟨rfl, hb⟩; have K := Lib.hid ((cells12_alloc w k x n t o r d i p q s m 41).below hb); have HB : Hid (Below w.heap.size w w1) := ((Below.refl _ w).alloc (Nat.le_refl _) _).trans (hb.mono (by simp)); have HL : Hid (w.heap.size < w1.heap.size) := Nat.lt_of_lt_of_le (by simp) hb.size; clear hb; obtain ⟨V, hV, hP, hb2, hs2⟩ := parts_put w1 true b1 b2 b3; replace K := Lib.hid (K.out.below hb2); replace HB := Lib.hid (HB.out.trans (hb2.mono HB.out.size)); clear hb2 hs2 HL; have ⟨c0, c1, c2, c3, c4, c5, c6, c7, c8, c9, c10, c11⟩ := K.out; have ⟨p0, p1, p2, p3⟩ := hP; clear hP)
                | (go_at_call 100; refine (cX _).mono ?_; rintro e w2 ⟨rfl, hw⟩; subst hw)
                | (go_at_call 101; refine (cL _).mono ?_; rintro e w3 ⟨rfl, hb⟩; replace K := Lib.hid (K.out.below hb); have hP : Cells4 w3 _ _ _ _ _ := (show Cells4 _ _ _ _ _ _ from ⟨p0, p1, p2, p3⟩).below hb; replace HB := Lib.hid (HB.out.trans (hb.mono HB.out.size)); clear hb; clear c0 c1 c2 c3 c4 c5 c6 c7 c8 c9 c10 c11 p0 p1 p2 p3; have ⟨c0, c1, c2, c3, c4, c5, c6, c7, c8, c9, c10, c11⟩ := K.out; have ⟨p0, p1, p2, p3⟩ := hP; clear hP)
                | (go_at_call 102; refine (cH _).mono ?_; rintro e w4 ⟨rfl, hb⟩; replace K := Lib.hid (K.out.below hb); have hP : Cells4 w4 _ _ _ _ _ := (show Cells4 _ _ _ _ _ _ from ⟨p0, p1, p2, p3⟩).below hb; replace HB := Lib.hid (HB.out.trans (hb.mono HB.out.size)); clear hb; clear c0 c1 c2 c3 c4 c5 c6 c7 c8 c9 c10 c11 p0 p1 p2 p3; have ⟨c0, c1, c2, c3, c4, c5, c6, c7, c8, c9, c10, c11⟩ := K.out; have ⟨p0, p1, p2, p3⟩ := hP; clear hP)
                | (go_at_call 103; refine (cN _).mono ?_; rintro e w5 ⟨rfl, hw⟩; subst hw))
            all_goals
              go_ret
              first | exact ⟨RS.out, HB.out⟩ | exact ⟨rfl, HB.out⟩
          | true =>
            cases bn with
            | false =>
              have RS : Ending.returned (.int .i64 1) = .returned (.int .i64 (if (true && (true && (!(k == 4 && n) && (true && (true && false))))) = true then 0 else 1)) := by simp [e4]
              replace RS := Lib.hid RS
              go_enter Tryz.func60, Tryz.ntmps60
              go_wp2_with (first
                  | (go_at_call 99; refine (cP _).mono ?_; rintro e w1 ⟨rfl, hb⟩; have K := Lib.hid ((cells12_alloc w k x n t o r d i p q s m 41).below hb); have HB : Hid (Below w.heap.size w w1) := ((Below.refl _ w).alloc (Nat.le_refl _) _).trans (hb.mono (by simp)); have HL : Hid (w.heap.size < w1.heap.size) := Nat.lt_of_lt_of_le (by simp) hb.size; clear hb; obtain ⟨V, hV, hP, hb2, hs2⟩ := parts_put w1 true b1 b2 b3; replace K := Lib.hid (K.out.below hb2); replace HB := Lib.hid (HB.out.trans (hb2.mono HB.out.size)); clear hb2 hs2 HL; have ⟨c0, c1, c2, c3, c4, c5, c6, c7, c8, c9, c10, c11⟩ := K.out; have ⟨p0, p1, p2, p3⟩ := hP; clear hP)
                  | (go_at_call 100; refine (cX _).mono ?_; rintro e w2 ⟨rfl, hw⟩; subst hw)
                  | (go_at_call 101; refine (cL _).mono ?_; rintro e w3 ⟨rfl, hb⟩; replace K := Lib.hid (K.out.below hb); have hP : Cells4 w3 _ _ _ _ _ := (show Cells4 _ _ _ _ _ _ from ⟨p0, p1, p2, p3⟩).below hb; replace HB := Lib.hid (HB.out.trans (hb.mono HB.out.size)); clear hb; clear c0 c1 c2 c3 c4 c5 c6 c7 c8 c9 c10 c11 p0 p1 p2 p3; have ⟨c0, c1, c2, c3, c4, c5, c6, c7, c8, c9, c10, c11⟩ := K.out; have ⟨p0, p1, p2, p3⟩ := hP; clear hP)
                  | (go_at_call 102; refine (cH _).mono ?_; rintro e w4 ⟨rfl, hb⟩; replace K := Lib.hid (K.out.below hb); have hP : Cells4 w4 _ _ _ _ _ := (show Cells4 _ _ _ _ _ _ from ⟨p0, p1, p2, p3⟩).below hb; replace HB := Lib.hid (HB.out.trans (hb.mono HB.out.size)); clear hb; clear c0 c1 c2 c3 c4 c5 c6 c7 c8 c9 c10 c11 p0 p1 p2 p3; have ⟨c0, c1, c2, c3, c4, c5, c6, c7, c8, c9, c10, c11⟩ := K.out; have ⟨p0, p1, p2, p3⟩ := hP; clear hP)
                  | (go_at_call 103; refine (cN _).mono ?_; rintro e w5 ⟨rfl, hw⟩; subst hw))
              all_goals
                go_ret
                first | exact ⟨RS.out, HB.out⟩ | exact ⟨rfl, HB.out⟩
            | true =>
              have RS : Ending.returned (.int .i64 0) = .returned (.int .i64 (if (true && (true && (!(k == 4 && n) && (true && (true && true))))) = true then 0 else 1)) := by simp [e4]
              replace RS := Lib.hid RS
              go_enter Tryz.func60, Tryz.ntmps60
              go_wp2_with (first
                  | (go_at_call 99; refine (cP _).mono ?_; rintro e w1 ⟨rfl, hb⟩; have K := Lib.hid ((cells12_alloc w k x n t o r d i p q s m 41).below hb); have HB : Hid (Below w.heap.size w w1) := ((Below.refl _ w).alloc (Nat.le_refl _) _).trans (hb.mono (by simp)); have HL : Hid (w.heap.size < w1.heap.size) := Nat.lt_of_lt_of_le (by simp) hb.size; clear hb; obtain ⟨V, hV, hP, hb2, hs2⟩ := parts_put w1 true b1 b2 b3; replace K := Lib.hid (K.out.below hb2); replace HB := Lib.hid (HB.out.trans (hb2.mono HB.out.size)); clear hb2 hs2 HL; have ⟨c0, c1, c2, c3, c4, c5, c6, c7, c8, c9, c10, c11⟩ := K.out; have ⟨p0, p1, p2, p3⟩ := hP; clear hP)
                  | (go_at_call 100; refine (cX _).mono ?_; rintro e w2 ⟨rfl, hw⟩; subst hw)
                  | (go_at_call 101; refine (cL _).mono ?_; rintro e w3 ⟨rfl, hb⟩; replace K := Lib.hid (K.out.below hb); have hP : Cells4 w3 _ _ _ _ _ := (show Cells4 _ _ _ _ _ _ from ⟨p0, p1, p2, p3⟩).below hb; replace HB := Lib.hid (HB.out.trans (hb.mono HB.out.size)); clear hb; clear c0 c1 c2 c3 c4 c5 c6 c7 c8 c9 c10 c11 p0 p1 p2 p3; have ⟨c0, c1, c2, c3, c4, c5, c6, c7, c8, c9, c10, c11⟩ := K.out; have ⟨p0, p1, p2, p3⟩ := hP; clear hP)
                  | (go_at_call 102; refine (cH _).mono ?_; rintro e w4 ⟨rfl, hb⟩; replace K := Lib.hid (K.out.below hb); have hP : Cells4 w4 _ _ _ _ _ := (show Cells4 _ _ _ _ _ _ from ⟨p0, p1, p2, p3⟩).below hb; replace HB := Lib.hid (HB.out.trans (hb.mono HB.out.size)); clear hb; clear c0 c1 c2 c3 c4 c5 c6 c7 c8 c9 c10 c11 p0 p1 p2 p3; have ⟨c0, c1, c2, c3, c4, c5, c6, c7, c8, c9, c10, c11⟩ := K.out; have ⟨p0, p1, p2, p3⟩ := hP; clear hP)
                  | (go_at_call 103; refine (cN _).mono ?_; rintro e w5 ⟨rfl, hw⟩; subst hw))
              all_goals
                go_ret
                first | exact ⟨RS.out, HB.out⟩ | exact ⟨rfl, HB.out⟩
theorem obc_eq (k x : Int) (n : Bool) (t o r d i p q s m : Int) : (if (kn k && (decide (NodeOk x) && (!(k == 4 && n) && (decide (LvOk p q s (lvB k)) && (decide (HgOk n t o r d i (hgB k)) && decide (NumOk m (nuB k))))))) = true then (0 : Int) else 1) = obc k x n t o r d i p q s m := by
  unfold obc
  congr 1
  simp only [Bool.and_eq_true, Bool.not_eq_true', Bool.and_eq_false_iff, decide_eq_true_eq, ObOk, beq_eq_false_iff_ne, eq_iff_iff]
  cases n <;> by_cases h4 : k = 4 <;> simp [h4]
theorem ocheck_any (k x : Int) (n : Bool) (t o r d i p q s m : Int) (w : World) :
    Calls Tryz.prog 60 #[.agg #[.int .i64 k, .int .i64 x, .bool n, .int .i64 t, .int .i64 o, .int .i64 r, .int .i64 d, .int .i64 i, .int .i64 p, .int .i64 q, .int .i64 s, .int .i64 m]] w fun e w' => e = .returned (.int .i64 (obc k x n t o r d i p q s m)) ∧ Below w.heap.size w w' := by
  rw [← obc_eq]
  exact ocheck_core k x n t o r d i p q s m _ _ _ _ _ _ _ _ w (fun w => parts_any k w) (fun w => onode_any x w) (fun w => olev_any p q s _ w) (fun w => ohgt_any n t o r d i _ w) (fun w => onum_any m _ w)
end Go.Proofs.YtdigjklhfimnbaaGreat
