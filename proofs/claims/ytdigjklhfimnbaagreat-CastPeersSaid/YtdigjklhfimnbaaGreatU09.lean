/- Texts Obb, Orw, Osi of this proof, in one. No conditions but on lengths. -/
import Derived.Test.YtdigjklhfimnbaaGreatRows
import Derived.Test.YtdigjklhfimnbaaGreatU06
import Derived.Test.YtdigjklhfimnbaaGreatU08
import Derived.Below
import Derived.BigQuiet
import Derived.Calls
import Derived.ChangeArms
import Derived.ChangeOld
import Derived.Deep.QuietTactic
import Derived.Deep.Slices
import Derived.Laws.AppendOwnNone
import Derived.Laws.BytesArg
import Derived.Laws.StructEq
import Derived.Lib.Hide
import Derived.Lib.QuietBelow
import Derived.LoopTactic
import Derived.OpenShut
import Derived.Orders
import Derived.Outline
import Derived.ProofKit
import Derived.ShutString
import Derived.WalkKit
import Derived.WalkSpells
import Derived.WideShapes
namespace Go.Proofs.YtdigjklhfimnbaaGreat
set_option maxRecDepth 100000
open Go.RowKit Go.Sort

/-- The bytes of an object. -/
def obB (k x : Int) (n : Bool) (t o r d i p q s m : Int) : List Int :=
  if k = 1 then [1, x] else if k = 2 then [2, x] ++ htB n t o r d i else if k = 3 then [3, x] ++ i8 p ++ [q, s] else [4, x] ++ htB n t o r d i ++ [m / 256, m % 256]
def obBs (k x : Int) (n : Bool) (t o r d i p q s m : Int) : List Int := if ObOk k x n t o r d i p q s m then obB k x n t o r d i p q s m else []
theorem obc_ok {k x : Int} {n : Bool} {t o r d i p q s m : Int} (h : ObOk k x n t o r d i p q s m) : obc k x n t o r d i p q s m = 0 := by unfold obc; rw [if_pos h]
theorem obc_no {k x : Int} {n : Bool} {t o r d i p q s m : Int} (h : ¬ ObOk k x n t o r d i p q s m) : obc k x n t o r d i p q s m = 1 := by unfold obc; rw [if_neg h]
theorem lo_two {m : Int} (h : 0 ≤ m ∧ m ≤ 65535) : lo m 2 = [m / 256, m % 256] := by
  have e : lo m 2 = [m / 256 % 256, m % 256] := by simp [lo, List.range, List.range.loop]
  rw [e, show m / 256 % 256 = m / 256 by omega]
theorem put_two {m : Int} (h : 0 ≤ m ∧ m ≤ 65535) (w : World) : Calls Tryz.prog 135 #[.int .i64 m, .int .i64 2] w (RetB [m / 256, m % 256] 0 w) := by
  have ok : PutOk m 2 := ⟨by decide, by decide, h.1, by rw [show pow256 (2 : Int).toNat = 65536 by decide]; omega⟩
  refine (put_any m 2 w (by omega)).mono fun e w' ⟨r, he, hr, hb⟩ => ⟨r, ?_, ?_, hb⟩
  · rw [he, putE, if_pos ok]
  · rw [putB, if_pos ok, show (2 : Int).toNat = 2 from rfl, lo_two h] at hr; exact hr
theorem htB_byt {n : Bool} {t o r d i : Int} (h : HtOk n t o r d i) : Byt (htB n t o r d i) := by
  have hi : 0 ≤ i ∧ i < 64 := h.1
  cases n with
  | true => intro z hz; simp [htB] at hz; omega
  | false =>
    have ho : RowOk t o r d := by rcases h.2 with h | h; · cases h.1
                                  exact h.2
    have hoo : 0 ≤ o ∧ o < 64 := ho.2.2.1
    have hr : 0 ≤ r ∧ r < 256 := by have := ho.2.2.2.1; omega
    exact byt_app (byt_app (byt_app (byt_app (by intro z hz; simp at hz; omega) (i8_byt t)) (by intro z hz; simp at hz; rcases hz with rfl | rfl <;> omega)) (i8_byt d)) (by intro z hz; simp at hz; omega)
theorem htB_le (n : Bool) (t o r d i : Int) : (htB n t o r d i).length ≤ 20 := by
  cases n <;> simp [htB, i8_len]
theorem bytes_ok {n : Bool} {t o r d i : Int} (h : HtOk n t o r d i) (w : World) : Calls Tryz.prog 243 #[.agg #[.bool n, .int .i64 t, .int .i64 o, .int .i64 r, .int .i64 d, .int .i64 i]] w (RetB (htB n t o r d i) 0 w) := by
  have := bytes_any n t o r d i w
  rwa [htBs, if_pos h, chk_ok h] at this
/-- Parts are laid into a block of their own, cell by cell. -/
theorem parts_put2 (w : World) (a0 a1 a2 a3 : Bool) : ∃ V0 V, w.alloc (.cells #[.bool false, .bool false, .bool false, .bool false] 202) = V0 ∧ (((V0.setCell ⟨w.heap.size, 0, none⟩ (.bool a0)).setCell ⟨w.heap.size, 1, none⟩ (.bool a1)).setCell ⟨w.heap.size, 2, none⟩ (.bool a2)).setCell ⟨w.heap.size, 3, none⟩ (.bool a3) = V ∧
    Cells4 V0 w.heap.size false false false false ∧ (∀ j, V0.frozen? ⟨w.heap.size, j, none⟩ = false) ∧ Cells4 V w.heap.size a0 a1 a2 a3 ∧ Below w.heap.size w V ∧ w.heap.size < V.heap.size := by
  have c : Cells4 (w.alloc (.cells #[.bool false, .bool false, .bool false, .bool false] 202)) w.heap.size false false false false := by
    refine ⟨?_, ?_, ?_, ?_⟩ <;> simp
  refine ⟨_, _, rfl, rfl, c, by intro j; simp, ?_, ?_, by simp⟩
  · obtain ⟨c0, c1, c2, c3⟩ := c
    refine ⟨?_, ?_, ?_, ?_⟩ <;> simp [go_sem]
  · exact (((((Below.refl _ w).alloc (Nat.le_refl _) _).setCell (Nat.le_refl _) _).setCell (Nat.le_refl _) _).setCell (Nat.le_refl _) _).setCell (Nat.le_refl _) _
theorem Cells12.allocs {w : World} {b : Nat} {k x : Int} {n : Bool} {t o r d i p q s m : Int} (h : Cells12 w b k x n t o r d i p q s m) : (∀ O, (w.alloc O).cell? ⟨b, 0, none⟩ = some (.int .i64 k)) ∧ (∀ O, (w.alloc O).cell? ⟨b, 1, none⟩ = some (.int .i64 x)) ∧ (∀ O, (w.alloc O).cell? ⟨b, 2, none⟩ = some (.bool n)) ∧ (∀ O, (w.alloc O).cell? ⟨b, 3, none⟩ = some (.int .i64 t)) ∧ (∀ O, (w.alloc O).cell? ⟨b, 4, none⟩ = some (.int .i64 o)) ∧ (∀ O, (w.alloc O).cell? ⟨b, 5, none⟩ = some (.int .i64 r)) ∧ (∀ O, (w.alloc O).cell? ⟨b, 6, none⟩ = some (.int .i64 d)) ∧ (∀ O, (w.alloc O).cell? ⟨b, 7, none⟩ = some (.int .i64 i)) ∧ (∀ O, (w.alloc O).cell? ⟨b, 8, none⟩ = some (.int .i64 p)) ∧ (∀ O, (w.alloc O).cell? ⟨b, 9, none⟩ = some (.int .i64 q)) ∧ (∀ O, (w.alloc O).cell? ⟨b, 10, none⟩ = some (.int .i64 s)) ∧ (∀ O, (w.alloc O).cell? ⟨b, 11, none⟩ = some (.int .i64 m)) := by
  have f : ∀ O, Cells12 (w.alloc O) b k x n t o r d i p q s m := fun O => h.below ((Below.refl _ _).alloc (Nat.le_refl _) O)
  exact ⟨fun O => (f O).1, fun O => (f O).2.1, fun O => (f O).2.2.1, fun O => (f O).2.2.2.1, fun O => (f O).2.2.2.2.1, fun O => (f O).2.2.2.2.2.1, fun O => (f O).2.2.2.2.2.2.1, fun O => (f O).2.2.2.2.2.2.2.1, fun O => (f O).2.2.2.2.2.2.2.2.1, fun O => (f O).2.2.2.2.2.2.2.2.2.1, fun O => (f O).2.2.2.2.2.2.2.2.2.2.1, fun O => (f O).2.2.2.2.2.2.2.2.2.2.2⟩
theorem Cells4.allocs {w : World} {b : Nat} {a0 a1 a2 a3 : Bool} (h : Cells4 w b a0 a1 a2 a3) : (∀ O, (w.alloc O).cell? ⟨b, 0, none⟩ = some (.bool a0)) ∧ (∀ O, (w.alloc O).cell? ⟨b, 1, none⟩ = some (.bool a1)) ∧ (∀ O, (w.alloc O).cell? ⟨b, 2, none⟩ = some (.bool a2)) ∧ (∀ O, (w.alloc O).cell? ⟨b, 3, none⟩ = some (.bool a3)) := by
  have f : ∀ O, Cells4 (w.alloc O) b a0 a1 a2 a3 := fun O => h.below ((Below.refl _ _).alloc (Nat.le_refl _) O)
  exact ⟨fun O => (f O).1, fun O => (f O).2.1, fun O => (f O).2.2.1, fun O => (f O).2.2.2⟩
theorem Cells4.old {w w' : World} {b B : Nat} {a0 a1 a2 a3 : Bool} (h : Cells4 w b a0 a1 a2 a3) (hb : Below B w w') (hB : b < B) : Cells4 w' b a0 a1 a2 a3 := by
  obtain ⟨h0, h1, h2, h3⟩ := h
  have f : ∀ {j : Nat} {v : Value}, w.cell? ⟨b, j, none⟩ = some v → w'.cell? ⟨b, j, none⟩ = some v := fun {j v} h => by rw [hb.cell (p := ⟨b, j, none⟩) hB]; exact h
  exact ⟨f h0, f h1, f h2, f h3⟩
set_option maxHeartbeats 4000000 in
theorem obytes_no (k x : Int) (n : Bool) (t o r d i p q s m : Int) (w : World) (h : ¬ ObOk k x n t o r d i p q s m) : Calls Tryz.prog 206 #[.agg #[.int .i64 k, .int .i64 x, .bool n, .int .i64 t, .int .i64 o, .int .i64 r, .int .i64 d, .int .i64 i, .int .i64 p, .int .i64 q, .int .i64 s, .int .i64 m]] w (RetB [] 1 w) := by
  have hc := obc_no h
  clear h
  go_enter Tryz.func206, Tryz.ntmps206
  go_wp2_with (go_at_call 60; refine (ocheck_any _ _ _ _ _ _ _ _ _ _ _ _ _).mono ?_; rintro e w' ⟨rfl, hb⟩; rw [hc]; have HB : Hid (Below w.heap.size w w') := ((Below.refl _ w).alloc (Nat.le_refl _) _).trans (hb.mono (by simp)); clear hb)
  go_ret2
  exact ⟨_, rfl, Bs_nil _, HB.out⟩
set_option maxHeartbeats 8000000 in
theorem obytes_1 (x : Int) (n : Bool) (t o r d i p q s m : Int) (w : World) (h : ObOk 1 x n t o r d i p q s m) : Calls Tryz.prog 206 #[.agg #[.int .i64 1, .int .i64 x, .bool n, .int .i64 t, .int .i64 o, .int .i64 r, .int .i64 d, .int .i64 i, .int .i64 p, .int .i64 q, .int .i64 s, .int .i64 m]] w (RetB (obB 1 x n t o r d i p q s m) 0 w) := by
  have hc := obc_ok h
  have hx : 0 ≤ x ∧ x < 64 := h.2.1
  have hwx : IntKind.u8.wrap x = x := by rw [IntKind.wrap_u8]; omega
  have hwk : IntKind.u8.wrap 1 = 1 := by decide
  have hp : partsV 1 = .agg #[.bool true, .bool false, .bool false, .bool false] := rfl
  clear h
  go_enter Tryz.func206, Tryz.ntmps206
  go_wp2_with (first
    | (go_at_call 60; refine (ocheck_any _ _ _ _ _ _ _ _ _ _ _ _ _).mono ?_; rintro e w0 ⟨rfl, hb⟩; rw [hc]; have K := Lib.hid ((cells12_alloc w 1 x n t o r d i p q s m 41).below hb); have HB : Hid (Below w.heap.size w w0) := ((Below.refl _ w).alloc (Nat.le_refl _) _).trans (hb.mono (by simp)); have HL : Hid (w.heap.size < w0.heap.size) := Nat.lt_of_lt_of_le (by simp) hb.size; clear hb; have ⟨c0, c1, c2, c3, c4, c5, c6, c7, c8, c9, c10, c11⟩ := K.out)
    | (go_at_call 99; refine (parts_any 1 _).mono ?_; rintro e w1 ⟨rfl, hb⟩; rw [hp]; obtain ⟨V0, V, h0, hV, ⟨z0, z1, z2, z3⟩, zf, hP, hb2, hs2⟩ := parts_put2 w1 true false false false; replace K := Lib.hid ((K.out.below hb).below hb2); replace HB := Lib.hid ((HB.out.trans (hb.mono HB.out.size)).trans (hb2.mono (Nat.le_trans HB.out.size hb.size))); have HL1 : Hid (w.heap.size < V.heap.size) := Nat.lt_of_lt_of_le HL.out (Nat.le_trans hb.size hb2.size); have HL2 : Hid (w1.heap.size < V.heap.size) := hs2; clear c0 c1 c2 c3 c4 c5 c6 c7 c8 c9 c10 c11 hb hb2 hs2 HL; have ⟨c0, c1, c2, c3, c4, c5, c6, c7, c8, c9, c10, c11⟩ := K.out; have ⟨g0, g1, g2, g3, g4, g5, g6, g7, g8, g9, g10, g11⟩ := K.out.allocs; have ⟨p0, p1, p2, p3⟩ := hP; have ⟨a0, a1, a2, a3⟩ := hP.allocs; replace hP := Lib.hid hP))
  go_ret2
  refine ⟨_, rfl, ?_, (HB.out.alloc HB.out.size _)⟩
  exact bs_lit2 V 1 x (by omega) (by omega) _ rfl
set_option maxHeartbeats 8000000 in
theorem obytes_2 (x : Int) (n : Bool) (t o r d i p q s m : Int) (w : World) (h : ObOk 2 x n t o r d i p q s m) : Calls Tryz.prog 206 #[.agg #[.int .i64 2, .int .i64 x, .bool n, .int .i64 t, .int .i64 o, .int .i64 r, .int .i64 d, .int .i64 i, .int .i64 p, .int .i64 q, .int .i64 s, .int .i64 m]] w (RetB (obB 2 x n t o r d i p q s m) 0 w) := by
  have hc := obc_ok h
  have hx : 0 ≤ x ∧ x < 64 := h.2.1
  have hwx : IntKind.u8.wrap x = x := by rw [IntKind.wrap_u8]; omega
  have hwk : IntKind.u8.wrap 2 = 2 := by decide
  have hp : partsV 2 = .agg #[.bool true, .bool false, .bool true, .bool false] := rfl
  have hh : HtOk n t o r d i := h.2.2.2.2.1
  have hbt := Lib.hid (htB_byt hh)
  have hle := htB_le n t o r d i
  have cB := bytes_ok hh
  clear hh
  clear h
  go_enter Tryz.func206, Tryz.ntmps206
  go_wp2_with (first
    | (go_at_call 60; refine (ocheck_any _ _ _ _ _ _ _ _ _ _ _ _ _).mono ?_; rintro e w0 ⟨rfl, hb⟩; rw [hc]; have K := Lib.hid ((cells12_alloc w 2 x n t o r d i p q s m 41).below hb); have HB : Hid (Below w.heap.size w w0) := ((Below.refl _ w).alloc (Nat.le_refl _) _).trans (hb.mono (by simp)); have HL : Hid (w.heap.size < w0.heap.size) := Nat.lt_of_lt_of_le (by simp) hb.size; clear hb; have ⟨c0, c1, c2, c3, c4, c5, c6, c7, c8, c9, c10, c11⟩ := K.out)
    | (go_at_call 99; refine (parts_any 2 _).mono ?_; rintro e w1 ⟨rfl, hb⟩; rw [hp]; obtain ⟨V0, V, h0, hV, ⟨z0, z1, z2, z3⟩, zf, hP, hb2, hs2⟩ := parts_put2 w1 true false true false; replace K := Lib.hid ((K.out.below hb).below hb2); replace HB := Lib.hid ((HB.out.trans (hb.mono HB.out.size)).trans (hb2.mono (Nat.le_trans HB.out.size hb.size))); have HL1 : Hid (w.heap.size < V.heap.size) := Nat.lt_of_lt_of_le HL.out (Nat.le_trans hb.size hb2.size); have HL2 : Hid (w1.heap.size < V.heap.size) := hs2; clear c0 c1 c2 c3 c4 c5 c6 c7 c8 c9 c10 c11 hb hb2 hs2 HL; have ⟨c0, c1, c2, c3, c4, c5, c6, c7, c8, c9, c10, c11⟩ := K.out; have ⟨g0, g1, g2, g3, g4, g5, g6, g7, g8, g9, g10, g11⟩ := K.out.allocs; have ⟨p0, p1, p2, p3⟩ := hP; have ⟨a0, a1, a2, a3⟩ := hP.allocs; replace hP := Lib.hid hP)
    | (go_at_call 243; refine (cB _).mono ?_; rintro e w2 ⟨r2, rfl, hr2, hb⟩; have O2 := Lib.hid (own_below (own_lit2 V V.heap.size 2 x (Nat.le_refl _) _ rfl) hb); have R2 : Hid (Bs w2 r2 (htB n t o r d i)) := hr2; have Hw2 : Hid (Below V.heap.size V w2) := ((Below.refl _ V).alloc (Nat.le_refl _) _).trans (hb.mono (by simp)); have Kw2 := Lib.hid (K.out.old Hw2.out HL1.out); have ⟨cw20, cw21, cw22, cw23, cw24, cw25, cw26, cw27, cw28, cw29, cw210, cw211⟩ := Kw2.out; have ⟨pw20, pw21, pw22, pw23⟩ := hP.out.old Hw2.out HL2.out; clear hb hr2)
    | (at_builtin; refine app_any rfl (.tmp 53) (.tmp 54) rfl V.heap.size [2, x] (htB n t o r d i) O2.out R2.out (by simp; omega) Hw2.out.size ?_; intro v3 w3 hown3 hb3 hs3; have O3 := Lib.hid hown3; have Hw3 := Lib.hid (Hw2.out.trans hb3); have Kw3 := Lib.hid (K.out.old Hw3.out HL1.out); have ⟨cw30, cw31, cw32, cw33, cw34, cw35, cw36, cw37, cw38, cw39, cw310, cw311⟩ := Kw3.out; have ⟨pw30, pw31, pw32, pw33⟩ := hP.out.old Hw3.out HL2.out; clear hown3 hb3 hs3))
  go_ret2
  refine ⟨_, rfl, ?_, HB.out.trans (Hw3.out.mono HB.out.size)⟩
  exact Bs_of_own O3.out (byt_app (by intro z hz; simp at hz; rcases hz with rfl | rfl <;> omega) hbt.out) (show ([2, x] ++ htB n t o r d i).length ≤ _ by simp; omega)
set_option maxHeartbeats 8000000 in
theorem obytes_3 (x : Int) (n : Bool) (t o r d i p q s m : Int) (w : World) (h : ObOk 3 x n t o r d i p q s m) : Calls Tryz.prog 206 #[.agg #[.int .i64 3, .int .i64 x, .bool n, .int .i64 t, .int .i64 o, .int .i64 r, .int .i64 d, .int .i64 i, .int .i64 p, .int .i64 q, .int .i64 s, .int .i64 m]] w (RetB (obB 3 x n t o r d i p q s m) 0 w) := by
  have hc := obc_ok h
  have hx : 0 ≤ x ∧ x < 64 := h.2.1
  have hwx : IntKind.u8.wrap x = x := by rw [IntKind.wrap_u8]; omega
  have hwk : IntKind.u8.wrap 3 = 3 := by decide
  have hp : partsV 3 = .agg #[.bool true, .bool true, .bool false, .bool false] := rfl
  have hl : HtOk false p q s 0 0 := h.2.2.2.1
  have hr : RowOk p q s 0 := by rcases hl.2 with h | h; · cases h.1
                                exact h.2
  have hq : 0 ≤ q ∧ q < 64 := hr.2.2.1
  have hs : 0 ≤ s ∧ s < 256 := by have := hr.2.2.2.1; omega
  have hwq : IntKind.u8.wrap q = q := by rw [IntKind.wrap_u8]; omega
  have hws : IntKind.u8.wrap s = s := by rw [IntKind.wrap_u8]; omega
  have l8 := i8_len
  clear hl hr
  clear h
  go_enter Tryz.func206, Tryz.ntmps206
  go_wp2_with (first
    | (go_at_call 60; refine (ocheck_any _ _ _ _ _ _ _ _ _ _ _ _ _).mono ?_; rintro e w0 ⟨rfl, hb⟩; rw [hc]; have K := Lib.hid ((cells12_alloc w 3 x n t o r d i p q s m 41).below hb); have HB : Hid (Below w.heap.size w w0) := ((Below.refl _ w).alloc (Nat.le_refl _) _).trans (hb.mono (by simp)); have HL : Hid (w.heap.size < w0.heap.size) := Nat.lt_of_lt_of_le (by simp) hb.size; clear hb; have ⟨c0, c1, c2, c3, c4, c5, c6, c7, c8, c9, c10, c11⟩ := K.out)
    | (go_at_call 99; refine (parts_any 3 _).mono ?_; rintro e w1 ⟨rfl, hb⟩; rw [hp]; obtain ⟨V0, V, h0, hV, ⟨z0, z1, z2, z3⟩, zf, hP, hb2, hs2⟩ := parts_put2 w1 true true false false; replace K := Lib.hid ((K.out.below hb).below hb2); replace HB := Lib.hid ((HB.out.trans (hb.mono HB.out.size)).trans (hb2.mono (Nat.le_trans HB.out.size hb.size))); have HL1 : Hid (w.heap.size < V.heap.size) := Nat.lt_of_lt_of_le HL.out (Nat.le_trans hb.size hb2.size); have HL2 : Hid (w1.heap.size < V.heap.size) := hs2; clear c0 c1 c2 c3 c4 c5 c6 c7 c8 c9 c10 c11 hb hb2 hs2 HL; have ⟨c0, c1, c2, c3, c4, c5, c6, c7, c8, c9, c10, c11⟩ := K.out; have ⟨g0, g1, g2, g3, g4, g5, g6, g7, g8, g9, g10, g11⟩ := K.out.allocs; have ⟨p0, p1, p2, p3⟩ := hP; have ⟨a0, a1, a2, a3⟩ := hP.allocs; replace hP := Lib.hid hP)
    | (go_at_call 242; refine (int_any p _).mono ?_; rintro e w2 ⟨r2, rfl, hr2, hb⟩; have O2 := Lib.hid (own_below (own_lit2 V V.heap.size 3 x (Nat.le_refl _) _ rfl) hb); have R2 : Hid (Bs w2 r2 (i8 p)) := hr2; have Hw2 : Hid (Below V.heap.size V w2) := ((Below.refl _ V).alloc (Nat.le_refl _) _).trans (hb.mono (by simp)); have Kw2 := Lib.hid (K.out.old Hw2.out HL1.out); have ⟨cw20, cw21, cw22, cw23, cw24, cw25, cw26, cw27, cw28, cw29, cw210, cw211⟩ := Kw2.out; have ⟨pw20, pw21, pw22, pw23⟩ := hP.out.old Hw2.out HL2.out; clear hb hr2)
    | (at_builtin; refine app_any rfl (.tmp 28) (.tmp 32) rfl V.heap.size [3, x] (i8 p) O2.out R2.out (by simp [l8]) Hw2.out.size ?_; intro v3 w3 hown3 hb3 hs3; have O3 := Lib.hid hown3; have Hw3 := Lib.hid (Hw2.out.trans hb3); have Kw3 := Lib.hid (K.out.old Hw3.out HL1.out); have ⟨cw30, cw31, cw32, cw33, cw34, cw35, cw36, cw37, cw38, cw39, cw310, cw311⟩ := Kw3.out; have ⟨pw30, pw31, pw32, pw33⟩ := hP.out.old Hw3.out HL2.out; clear hown3 hb3 hs3)
    | (at_builtin; refine app_any rfl (.tmp 34) (.tmp 43) rfl V.heap.size ([3, x] ++ i8 p) [q, s] (O3.out.alloc _) (bs_lit2 w3 q s (by omega) hs _ rfl) (by simp [l8]) (Nat.le_trans Hw3.out.size (by simp)) ?_; intro v4 w4 hown4 hb4 hs4; have O4 := Lib.hid hown4; have Hw4 := Lib.hid ((Hw3.out.alloc Hw3.out.size _).trans hb4); have Kw4 := Lib.hid (K.out.old Hw4.out HL1.out); have ⟨cw40, cw41, cw42, cw43, cw44, cw45, cw46, cw47, cw48, cw49, cw410, cw411⟩ := Kw4.out; have ⟨pw40, pw41, pw42, pw43⟩ := hP.out.old Hw4.out HL2.out; clear hown4 hb4 hs4))
  go_ret2
  refine ⟨_, rfl, ?_, HB.out.trans (Hw4.out.mono HB.out.size)⟩
  exact Bs_of_own O4.out (byt_app (byt_app (by intro z hz; simp at hz; rcases hz with rfl | rfl <;> omega) (i8_byt p)) (by intro z hz; simp at hz; rcases hz with rfl | rfl <;> omega)) (show ([3, x] ++ i8 p ++ [q, s]).length ≤ _ by simp [l8])
set_option maxHeartbeats 8000000 in
theorem obytes_4 (x : Int) (n : Bool) (t o r d i p q s m : Int) (w : World) (h : ObOk 4 x n t o r d i p q s m) : Calls Tryz.prog 206 #[.agg #[.int .i64 4, .int .i64 x, .bool n, .int .i64 t, .int .i64 o, .int .i64 r, .int .i64 d, .int .i64 i, .int .i64 p, .int .i64 q, .int .i64 s, .int .i64 m]] w (RetB (obB 4 x n t o r d i p q s m) 0 w) := by
  have hc := obc_ok h
  have hx : 0 ≤ x ∧ x < 64 := h.2.1
  have hwx : IntKind.u8.wrap x = x := by rw [IntKind.wrap_u8]; omega
  have hwk : IntKind.u8.wrap 4 = 4 := by decide
  have hp : partsV 4 = .agg #[.bool true, .bool false, .bool true, .bool true] := rfl
  have hh : HtOk n t o r d i := h.2.2.2.2.1
  have hbt := Lib.hid (htB_byt hh)
  have hle := htB_le n t o r d i
  have cB := bytes_ok hh
  clear hh
  have hm : 0 ≤ m ∧ m ≤ 65535 := h.2.2.2.2.2
  have cP := put_two hm
  clear h
  go_enter Tryz.func206, Tryz.ntmps206
  go_wp2_with (first
    | (go_at_call 60; refine (ocheck_any _ _ _ _ _ _ _ _ _ _ _ _ _).mono ?_; rintro e w0 ⟨rfl, hb⟩; rw [hc]; have K := Lib.hid ((cells12_alloc w 4 x n t o r d i p q s m 41).below hb); have HB : Hid (Below w.heap.size w w0) := ((Below.refl _ w).alloc (Nat.le_refl _) _).trans (hb.mono (by simp)); have HL : Hid (w.heap.size < w0.heap.size) := Nat.lt_of_lt_of_le (by simp) hb.size; clear hb; have ⟨c0, c1, c2, c3, c4, c5, c6, c7, c8, c9, c10, c11⟩ := K.out)
    | (go_at_call 99; refine (parts_any 4 _).mono ?_; rintro e w1 ⟨rfl, hb⟩; rw [hp]; obtain ⟨V0, V, h0, hV, ⟨z0, z1, z2, z3⟩, zf, hP, hb2, hs2⟩ := parts_put2 w1 true false true true; replace K := Lib.hid ((K.out.below hb).below hb2); replace HB := Lib.hid ((HB.out.trans (hb.mono HB.out.size)).trans (hb2.mono (Nat.le_trans HB.out.size hb.size))); have HL1 : Hid (w.heap.size < V.heap.size) := Nat.lt_of_lt_of_le HL.out (Nat.le_trans hb.size hb2.size); have HL2 : Hid (w1.heap.size < V.heap.size) := hs2; clear c0 c1 c2 c3 c4 c5 c6 c7 c8 c9 c10 c11 hb hb2 hs2 HL; have ⟨c0, c1, c2, c3, c4, c5, c6, c7, c8, c9, c10, c11⟩ := K.out; have ⟨g0, g1, g2, g3, g4, g5, g6, g7, g8, g9, g10, g11⟩ := K.out.allocs; have ⟨p0, p1, p2, p3⟩ := hP; have ⟨a0, a1, a2, a3⟩ := hP.allocs; replace hP := Lib.hid hP)
    | (go_at_call 243; refine (cB _).mono ?_; rintro e w2 ⟨r2, rfl, hr2, hb⟩; have O2 := Lib.hid (own_below (own_lit2 V V.heap.size 4 x (Nat.le_refl _) _ rfl) hb); have R2 : Hid (Bs w2 r2 (htB n t o r d i)) := hr2; have Hw2 : Hid (Below V.heap.size V w2) := ((Below.refl _ V).alloc (Nat.le_refl _) _).trans (hb.mono (by simp)); have Kw2 := Lib.hid (K.out.old Hw2.out HL1.out); have ⟨cw20, cw21, cw22, cw23, cw24, cw25, cw26, cw27, cw28, cw29, cw210, cw211⟩ := Kw2.out; have ⟨pw20, pw21, pw22, pw23⟩ := hP.out.old Hw2.out HL2.out; clear hb hr2)
    | (at_builtin; refine app_any rfl (.tmp 53) (.tmp 54) rfl V.heap.size [4, x] (htB n t o r d i) O2.out R2.out (by simp; omega) Hw2.out.size ?_; intro v3 w3 hown3 hb3 hs3; have O3 := Lib.hid hown3; have Hw3 := Lib.hid (Hw2.out.trans hb3); have Kw3 := Lib.hid (K.out.old Hw3.out HL1.out); have ⟨cw30, cw31, cw32, cw33, cw34, cw35, cw36, cw37, cw38, cw39, cw310, cw311⟩ := Kw3.out; have ⟨pw30, pw31, pw32, pw33⟩ := hP.out.old Hw3.out HL2.out; clear hown3 hb3 hs3)
    | (go_at_call 135; refine (cP _).mono ?_; rintro e w4 ⟨r4, rfl, hr4, hb⟩; have O4 := Lib.hid (own_below O3.out hb); have R4 : Hid (Bs w4 r4 [m / 256, m % 256]) := hr4; have Hw4 := Lib.hid (Hw3.out.trans (hb.mono Hw3.out.size)); have Kw4 := Lib.hid (K.out.old Hw4.out HL1.out); have ⟨cw40, cw41, cw42, cw43, cw44, cw45, cw46, cw47, cw48, cw49, cw410, cw411⟩ := Kw4.out; have ⟨pw40, pw41, pw42, pw43⟩ := hP.out.old Hw4.out HL2.out; clear hb hr4)
    | (at_builtin; refine app_any rfl (.tmp 64) (.tmp 65) rfl V.heap.size ([4, x] ++ htB n t o r d i) [m / 256, m % 256] O4.out R4.out (by simp; omega) Hw4.out.size ?_; intro v5 w5 hown5 hb5 hs5; have O5 := Lib.hid hown5; have Hw5 := Lib.hid (Hw4.out.trans hb5); clear hown5 hb5 hs5))
  go_ret2
  refine ⟨_, rfl, ?_, HB.out.trans (Hw5.out.mono HB.out.size)⟩
  exact Bs_of_own O5.out (byt_app (byt_app (by intro z hz; simp at hz; rcases hz with rfl | rfl <;> omega) hbt.out) (by intro z hz; simp at hz; rcases hz with rfl | rfl <;> omega)) (show ([4, x] ++ htB n t o r d i ++ [m / 256, m % 256]).length ≤ _ by simp; omega)
theorem Bs_len {w : World} {v : Value} {xs : List Int} (h : Bs w v xs) : ∃ a c, v = .slice a xs.length c := by
  obtain ⟨_, _, ⟨a, c, h, _, rfl⟩ | ⟨b, o, c, h, _⟩⟩ := h
  · exact ⟨_, _, h⟩
  · exact ⟨_, _, h⟩
theorem kind_of {k x : Int} {n : Bool} {t o r d i p q s m : Int} (h : ObOk k x n t o r d i p q s m) : k = 1 ∨ k = 2 ∨ k = 3 ∨ k = 4 := by
  have := h.1
  simp only [kn, Bool.or_eq_true, beq_iff_eq] at this
  exact this
theorem obytes_any (k x : Int) (n : Bool) (t o r d i p q s m : Int) (w : World) : Calls Tryz.prog 206 #[.agg #[.int .i64 k, .int .i64 x, .bool n, .int .i64 t, .int .i64 o, .int .i64 r, .int .i64 d, .int .i64 i, .int .i64 p, .int .i64 q, .int .i64 s, .int .i64 m]] w (RetB (obBs k x n t o r d i p q s m) (obc k x n t o r d i p q s m) w) := by
  by_cases h : ObOk k x n t o r d i p q s m
  · rw [obBs, if_pos h, obc_ok h]
    rcases kind_of h with rfl | rfl | rfl | rfl
    · exact obytes_1 x n t o r d i p q s m w h
    · exact obytes_2 x n t o r d i p q s m w h
    · exact obytes_3 x n t o r d i p q s m w h
    · exact obytes_4 x n t o r d i p q s m w h
  · rw [obBs, if_neg h, obc_no h]
    exact obytes_no k x n t o r d i p q s m w h
theorem osize_any (k x : Int) (n : Bool) (t o r d i p q s m : Int) (w : World) : Calls Tryz.prog 172 #[.agg #[.int .i64 k, .int .i64 x, .bool n, .int .i64 t, .int .i64 o, .int .i64 r, .int .i64 d, .int .i64 i, .int .i64 p, .int .i64 q, .int .i64 s, .int .i64 m]] w fun e w' => e = .returned (.int .i64 (obBs k x n t o r d i p q s m).length) ∧ Below w.heap.size w w' := by
  have cB : ∀ w, Calls Tryz.prog 206 #[.agg #[.int .i64 k, .int .i64 x, .bool n, .int .i64 t, .int .i64 o, .int .i64 r, .int .i64 d, .int .i64 i, .int .i64 p, .int .i64 q, .int .i64 s, .int .i64 m]] w (RetB (obBs k x n t o r d i p q s m) (obc k x n t o r d i p q s m) w) := fun w => obytes_any k x n t o r d i p q s m w
  generalize obBs k x n t o r d i p q s m = xs at *
  generalize obc k x n t o r d i p q s m = c at *
  go_enter Tryz.func172, Tryz.ntmps172
  go_wp2_with (go_at_call 206; refine (cB _).mono ?_; rintro e w' ⟨r1, rfl, hr1, hb⟩; have HB : Hid (Below w.heap.size w w') := ((Below.refl _ w).alloc (Nat.le_refl _) _).trans (hb.mono (by simp)); clear hb; obtain ⟨a1, c1, rfl⟩ : ∃ a1 c1, r1 = .slice a1 xs.length c1 := Bs_len hr1; clear hr1)
  go_ret
  exact ⟨rfl, HB.out⟩
end Go.Proofs.YtdigjklhfimnbaaGreat
namespace Go.Proofs.YtdigjklhfimnbaaGreat
set_option maxRecDepth 100000
open Go.RowKit Go.Sort Go.WideShapes Go.ChangeShapes

/-- An object. -/
structure Ob where
  k : Int
  x : Int
  n : Bool
  t : Int
  o : Int
  r : Int
  d : Int
  i : Int
  p : Int
  q : Int
  s : Int
  m : Int
def z12 : Ob := ⟨0, 0, false, 0, 0, 0, 0, 0, 0, 0, 0, 0⟩
def Ob.cl (y : Ob) : List Value := [.int .i64 y.k, .int .i64 y.x, .bool y.n, .int .i64 y.t, .int .i64 y.o, .int .i64 y.r, .int .i64 y.d, .int .i64 y.i, .int .i64 y.p, .int .i64 y.q, .int .i64 y.s, .int .i64 y.m]
def Ob.Ok (y : Ob) : Prop := ObOk y.k y.x y.n y.t y.o y.r y.d y.i y.p y.q y.s y.m
instance (y : Ob) : Decidable y.Ok := by unfold Ob.Ok; infer_instance
def Ob.bs (y : Ob) : List Int := obBs y.k y.x y.n y.t y.o y.r y.d y.i y.p y.q y.s y.m
theorem cl_len (y : Ob) : y.cl.length = 12 := rfl
def flat (ys : List Ob) : List Value := ys.flatMap Ob.cl
theorem flat_len (ys : List Ob) : (flat ys).length = ys.length * 12 := by
  induction ys with
  | nil => rfl
  | cons y ys ih => simp only [flat, List.flatMap_cons, List.length_append, List.length_cons, cl_len] at *; omega
theorem flat_app (xs ys : List Ob) : flat (xs ++ ys) = flat xs ++ flat ys := by simp [flat]
theorem flat_at : ∀ (ys : List Ob) (i j : Nat), i < ys.length → j < 12 → (flat ys)[i * 12 + j]? = (ys.getD i z12).cl[j]?
  | [], i, j, h, _ => by simp at h
  | y :: ys, 0, j, _, hj => by
    simp only [flat, List.flatMap_cons, Nat.zero_mul, Nat.zero_add, List.getD_cons_zero]
    rw [List.getElem?_append_left (by rw [cl_len]; exact hj)]
  | y :: ys, i + 1, j, h, hj => by
    have ih := flat_at ys i j (by simpa using h) hj
    simp only [flat, List.flatMap_cons, List.getD_cons_succ] at *
    rw [List.getElem?_append_right (by rw [cl_len]; omega), cl_len, show (i + 1) * 12 + j - 12 = i * 12 + j by omega]
    exact ih
/-- The twelve cells of an object, wherever they lie. -/
def C12 (w : World) (b o : Nat) (y : Ob) : Prop := ∀ j, j < 12 → w.cell? ⟨b, o + j, none⟩ = y.cl[j]?
theorem C12.all {w : World} {b o : Nat} {y : Ob} (h : C12 w b o y) : w.cell? ⟨b, o, none⟩ = some (.int .i64 y.k) ∧ w.cell? ⟨b, o + 1, none⟩ = some (.int .i64 y.x) ∧ w.cell? ⟨b, o + 2, none⟩ = some (.bool y.n) ∧ w.cell? ⟨b, o + 3, none⟩ = some (.int .i64 y.t) ∧ w.cell? ⟨b, o + 4, none⟩ = some (.int .i64 y.o) ∧ w.cell? ⟨b, o + 5, none⟩ = some (.int .i64 y.r) ∧ w.cell? ⟨b, o + 6, none⟩ = some (.int .i64 y.d) ∧ w.cell? ⟨b, o + 7, none⟩ = some (.int .i64 y.i) ∧ w.cell? ⟨b, o + 8, none⟩ = some (.int .i64 y.p) ∧ w.cell? ⟨b, o + 9, none⟩ = some (.int .i64 y.q) ∧ w.cell? ⟨b, o + 10, none⟩ = some (.int .i64 y.s) ∧ w.cell? ⟨b, o + 11, none⟩ = some (.int .i64 y.m) :=
  ⟨h 0 (by decide), h 1 (by decide), h 2 (by decide), h 3 (by decide), h 4 (by decide), h 5 (by decide), h 6 (by decide), h 7 (by decide), h 8 (by decide), h 9 (by decide), h 10 (by decide), h 11 (by decide)⟩
/-- A slice of objects that reads as ys. -/
def Os (w : World) (v : Value) (ys : List Ob) : Prop :=
  (∃ a cap, v = .slice a 0 cap ∧ (a = none → cap = 0) ∧ ys = []) ∨
  ∃ b off cap, v = .slice (some ⟨b, off, none⟩) ys.length cap ∧ ys.length ≤ cap ∧ b < w.heap.size ∧ ∀ i, i < ys.length → C12 w b (off + i * 12) (ys.getD i z12)
theorem Os.below {w w' : World} {v : Value} {ys : List Ob} (h : Os w v ys) (hb : Below w.heap.size w w') : Os w' v ys := by
  rcases h with h | ⟨b, off, cap, h1, h2, h3, h4⟩
  · exact .inl h
  · refine .inr ⟨b, off, cap, h1, h2, Nat.lt_of_lt_of_le h3 hb.size, fun i hi j hj => ?_⟩
    rw [hb.cell (p := ⟨b, off + i * 12 + j, none⟩) h3]
    exact h4 i hi j hj
theorem Os.form {w : World} {v : Value} {ys : List Ob} (h : Os w v ys) : ∃ a c, v = .slice a ys.length c := by
  rcases h with ⟨a, cap, h1, _, rfl⟩ | ⟨b, off, cap, h1, _⟩
  · exact ⟨a, cap, h1⟩
  · exact ⟨_, _, h1⟩
theorem Os_nil (w : World) : Os w (.slice none 0 0) [] := .inl ⟨none, 0, rfl, fun _ => rfl, rfl⟩
theorem own_cell {w : World} {base n : Nat} {g cap : Nat} {xs : List Value} {e : TypeId} {size : Nat} (h : w.ownsRow base e size (.slice (some ⟨g, 0, none⟩) n cap) n xs) (j : Nat) (hj : j < n * size) : w.cell? ⟨g, j, none⟩ = xs[j]? := by
  rcases h.2 with ⟨h1, _⟩ | ⟨g', cap', cur, hv, _, hg, _, _, _, htake⟩
  · cases h1
  · simp only [Value.slice.injEq, Option.some.injEq, Addr.mk.injEq, and_true, true_and] at hv
    obtain ⟨rfl, rfl⟩ := hv
    rw [cell_of_row w g j cur e (0, 0) hg, ← htake, List.getElem?_take, if_pos hj]
    simp
theorem Os_of_own {w : World} {base n : Nat} {v : Value} {ys : List Ob} (h : w.ownsRow base 41 12 v n (flat ys)) : Os w v ys ∧ n = ys.length := by
  have hn : n = ys.length := by have := h.1; rw [flat_len] at this; omega
  subst hn
  refine ⟨?_, rfl⟩
  rcases h.2 with ⟨h1, h2⟩ | ⟨g, cap, cur, rfl, _, hg, hnc, _, _, htake⟩
  · exact .inl ⟨none, 0, h1, fun _ => rfl, List.length_eq_zero_iff.1 h2⟩
  · refine .inr ⟨g, 0, cap, rfl, hnc, (Array.getElem?_eq_some_iff.1 hg).1, fun i hi j hj => ?_⟩
    rw [Nat.zero_add, own_cell h (i * 12 + j) (by omega), flat_at ys i j hi hj]
theorem underSL : Tryz.prog.underlying 31 = some (.slice 41) := by kernel_rfl
theorem list12 {l : List Value} (h : l.length = 12) : ∃ c0 c1 c2 c3 c4 c5 c6 c7 c8 c9 c10 c11, l = [c0, c1, c2, c3, c4, c5, c6, c7, c8, c9, c10, c11] := by
  match l, h with
  | [c0, c1, c2, c3, c4, c5, c6, c7, c8, c9, c10, c11], _ => exact ⟨c0, c1, c2, c3, c4, c5, c6, c7, c8, c9, c10, c11, rfl⟩
theorem cl_form {H : Type} {enc : TypeId × Value → H} {w : World} {base n' : Nat} {spare : Nat → Bool} {held : Bool} {cs : List Value} {X : DataW H × List MemPlace} (hl12 : cs.length = 12)
    (hf : DataW.trod enc Tryz.prog w base spare held n' 41 cs = some X) : ∃ y : Ob, cs = y.cl := by
  obtain ⟨c0, c1, c2, c3, c4, c5, c6, c7, c8, c9, c10, c11, rfl⟩ := list12 hl12
  obtain ⟨xs, M, _, _, _, hl, hx⟩ := DataW.trod_struct under37 hf
  obtain ⟨k, rfl, _⟩ := int_cell (cell_form (j := 0) (T := 3) (O := 0) (v := c0) hl hx (by kernel_rfl) (by kernel_rfl) rfl)
  obtain ⟨x, rfl, _⟩ := int_cell (cell_form (j := 1) (T := 3) (O := 1) (v := c1) hl hx (by kernel_rfl) (by kernel_rfl) rfl)
  obtain ⟨m, rfl, _⟩ := int_cell (cell_form (j := 4) (T := 3) (O := 11) (v := c11) hl hx (by kernel_rfl) (by kernel_rfl) rfl)
  obtain ⟨yh, hh⟩ := part_form (j := 2) (T := 37) (O := 2) (K := 6) hl hx (by kernel_rfl) (by kernel_rfl)
  obtain ⟨yl, hlv⟩ := part_form (j := 3) (T := 39) (O := 8) (K := 3) hl hx (by kernel_rfl) (by kernel_rfl)
  clear hl hx hf
  obtain ⟨xh, Mh, _, _, _, hl, hx⟩ := DataW.trod_struct under23 hh
  obtain ⟨y0, h0⟩ := cell_form (j := 0) (T := 4) (O := 0) (v := c2) hl hx (by kernel_rfl) (by kernel_rfl) rfl
  obtain ⟨n, hn, _⟩ := DataW.trod_bool Tryz.underlying4 h0
  simp only [List.cons.injEq, and_true] at hn
  obtain ⟨t, rfl, _⟩ := int_cell (cell_form (j := 1) (T := 3) (O := 1) (v := c3) hl hx (by kernel_rfl) (by kernel_rfl) rfl)
  obtain ⟨o, rfl, _⟩ := int_cell (cell_form (j := 2) (T := 3) (O := 2) (v := c4) hl hx (by kernel_rfl) (by kernel_rfl) rfl)
  obtain ⟨r, rfl, _⟩ := int_cell (cell_form (j := 3) (T := 3) (O := 3) (v := c5) hl hx (by kernel_rfl) (by kernel_rfl) rfl)
  obtain ⟨d, rfl, _⟩ := int_cell (cell_form (j := 4) (T := 3) (O := 4) (v := c6) hl hx (by kernel_rfl) (by kernel_rfl) rfl)
  obtain ⟨i, rfl, _⟩ := int_cell (cell_form (j := 5) (T := 3) (O := 5) (v := c7) hl hx (by kernel_rfl) (by kernel_rfl) rfl)
  clear hl hx
  obtain ⟨xl, Ml, _, _, _, hl, hx⟩ := DataW.trod_struct under25 hlv
  obtain ⟨p, rfl, _⟩ := int_cell (cell_form (j := 0) (T := 3) (O := 0) (v := c8) hl hx (by kernel_rfl) (by kernel_rfl) rfl)
  obtain ⟨q, rfl, _⟩ := int_cell (cell_form (j := 1) (T := 3) (O := 1) (v := c9) hl hx (by kernel_rfl) (by kernel_rfl) rfl)
  obtain ⟨s, rfl, _⟩ := int_cell (cell_form (j := 2) (T := 3) (O := 2) (v := c10) hl hx (by kernel_rfl) (by kernel_rfl) rfl)
  subst hn
  exact ⟨⟨k, x, n, t, o, r, d, i, p, q, s, m⟩, rfl⟩
theorem infoOB : (Tryz.prog.info? 41).map (fun i => (i.zero, i.size, i.bytes)) = some (some (.agg #[.int .i64 0, .int .i64 0, .bool false, .int .i64 0, .int .i64 0, .int .i64 0, .int .i64 0, .int .i64 0, .int .i64 0, .int .i64 0, .int .i64 0, .int .i64 0]), 12, 96) := by kernel_rfl
theorem flat_ones (ys : List Ob) : ∀ u ∈ flat ys, u.oneCell' = true := by
  intro u hu
  obtain ⟨y, _, hy⟩ := List.mem_flatMap.1 hu
  simp only [Ob.cl, List.mem_cons, List.not_mem_nil, or_false] at hy
  rcases hy with rfl | rfl | rfl | rfl | rfl | rfl | rfl | rfl | rfl | rfl | rfl | rfl <;> rfl
theorem flat_news {w : World} {b off : Nat} {ys : List Ob} (hc : ∀ i, i < ys.length → C12 w b (off + i * 12) (ys.getD i z12)) : ∀ j u, (flat ys)[j]? = some u → w.cell? ((⟨b, off, none⟩ : Addr).add j) = some u := by
  intro j u h
  have hj : j < ys.length * 12 := by
    have := (List.getElem?_eq_some_iff.1 h).1
    rwa [flat_len] at this
  have hadd : (⟨b, off, none⟩ : Addr).add j = ⟨b, off + j, none⟩ := by unfold Addr.add; split <;> simp_all
  have hd : j = (j / 12) * 12 + j % 12 := by omega
  rw [hadd]
  have h1 := hc (j / 12) (by omega) (j % 12) (by omega)
  rw [show off + j / 12 * 12 + j % 12 = off + j by omega] at h1
  rw [h1, ← flat_at ys (j / 12) (j % 12) (by omega) (by omega), ← hd]
  exact h
end Go.Proofs.YtdigjklhfimnbaaGreat
namespace Go.Proofs.YtdigjklhfimnbaaGreat
set_option maxRecDepth 100000
open Go.RowKit Go.Sort

/-- How many bytes these objects have. -/
def osz (ys : List Ob) : Nat := (ys.map fun y => y.bs.length).sum
def AllOk (ys : List Ob) : Prop := ∀ i, i < ys.length → (ys.getD i z12).Ok
instance (ys : List Ob) : Decidable (AllOk ys) := by unfold AllOk; infer_instance
theorem bs_le (y : Ob) : y.bs.length ≤ 40 := by
  unfold Ob.bs obBs
  split
  · have h := htB_le y.n y.t y.o y.r y.d y.i
    unfold obB
    split
    · simp
    · split
      · simp; omega
      · split
        · simp [i8_len]
        · simp; omega
  · simp
theorem osz_le : ∀ ys : List Ob, osz ys ≤ 40 * ys.length
  | [] => by simp [osz]
  | y :: ys => by
    have h1 := osz_le ys
    have h2 := bs_le y
    simp only [osz, List.map_cons, List.sum_cons, List.length_cons] at *
    omega
end Go.Proofs.YtdigjklhfimnbaaGreat
