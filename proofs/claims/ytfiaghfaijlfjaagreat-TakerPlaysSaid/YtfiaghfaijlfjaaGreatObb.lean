/- An object as bytes, and how many these are. No conditions. -/
import Derived.Test.YtfiaghfaijlfjaaGreatObc
import Derived.Test.YtfiaghfaijlfjaaGreatByt
namespace Go.Proofs.YtfiaghfaijlfjaaGreat
set_option maxRecDepth 100000
open Go.RowKit Go.Sort

/-- The bytes of an object. -/
def obB (k x : Int) (n : Bool) (t o r d i p q s m : Int) : List Int :=
  if k = 1 then [1, x] else if k = 2 then [2, x] ++ htB n t o r d i else if k = 3 then [3, x] ++ i8 p ++ [q, s] else [4, x] ++ htB n t o r d i ++ [m / 256, m % 256]
def obBs (k x : Int) (n : Bool) (t o r d i p q s m : Int) : List Int := if ObOk k x n t o r d i p q s m then obB k x n t o r d i p q s m else []
theorem obc_ok {k x : Int} {n : Bool} {t o r d i p q s m : Int} (h : ObOk k x n t o r d i p q s m) : obc k x n t o r d i p q s m = 0 := by unfold obc; rw [if_pos h]
theorem obc_no {k x : Int} {n : Bool} {t o r d i p q s m : Int} (h : ¬ ObOk k x n t o r d i p q s m) : obc k x n t o r d i p q s m = 1 := by unfold obc; rw [if_neg h]
theorem lo_two {m : Int} (h : 0 ≤ m ∧ m ≤ 65535) : lo m 2 = [m / 256, m % 256] := by
  have e : lo m 2 = [m / 256 % 256, m % 256] := by simp [lo, List.range, List.range.loop]
  rw [e, show m / 256 % 256 = m / 256 by omega]
theorem put_two {m : Int} (h : 0 ≤ m ∧ m ≤ 65535) (w : World) : Calls Tryz.prog 126 #[.int .i64 m, .int .i64 2] w (RetB [m / 256, m % 256] 0 w) := by
  have ok : PutOk m 2 := ⟨by decide, by decide, h.1, by rw [show pow256 (2 : Int).toNat = 65536 by decide]; omega⟩
  refine (put_any m 2 w (by omega)).mono fun e w' ⟨r, he, hr, hb⟩ => ⟨r, ?_, ?_, hb⟩
  · rw [he, putE, if_pos ok]
  · rw [putB, if_pos ok, show (2 : Int).toNat = 2 from rfl, lo_two h] at hr; exact hr
theorem htB_byt {n : Bool} {t o r d i : Int} (h : HtOk n t o r d i) : Byt (htB n t o r d i) := by
  have hi : 0 ≤ i ∧ i < 64 := h.1
  cases n with
  | true => intro z hz; simp [htB] at hz; omega
  | false =>
    have ho : RowOk t o r d := by rcases h.2 with h | h; · cases h.1
                                  exact h.2
    have hoo : 0 ≤ o ∧ o < 64 := ho.2.2.1
    have hr : 0 ≤ r ∧ r < 256 := by have := ho.2.2.2.1; omega
    exact byt_app (byt_app (byt_app (byt_app (by intro z hz; simp at hz; omega) (i8_byt t)) (by intro z hz; simp at hz; rcases hz with rfl | rfl <;> omega)) (i8_byt d)) (by intro z hz; simp at hz; omega)
theorem htB_le (n : Bool) (t o r d i : Int) : (htB n t o r d i).length ≤ 20 := by
  cases n <;> simp [htB, i8_len]
theorem bytes_ok {n : Bool} {t o r d i : Int} (h : HtOk n t o r d i) (w : World) : Calls Tryz.prog 125 #[.agg #[.bool n, .int .i64 t, .int .i64 o, .int .i64 r, .int .i64 d, .int .i64 i]] w (RetB (htB n t o r d i) 0 w) := by
  have := bytes_any n t o r d i w
  rwa [htBs, if_pos h, chk_ok h] at this
/-- Parts are laid into a block of their own, cell by cell. -/
theorem parts_put2 (w : World) (a0 a1 a2 a3 : Bool) : ∃ V0 V, w.alloc (.cells #[.bool false, .bool false, .bool false, .bool false] 123) = V0 ∧ (((V0.setCell ⟨w.heap.size, 0, none⟩ (.bool a0)).setCell ⟨w.heap.size, 1, none⟩ (.bool a1)).setCell ⟨w.heap.size, 2, none⟩ (.bool a2)).setCell ⟨w.heap.size, 3, none⟩ (.bool a3) = V ∧
    Cells4 V0 w.heap.size false false false false ∧ (∀ j, V0.frozen? ⟨w.heap.size, j, none⟩ = false) ∧ Cells4 V w.heap.size a0 a1 a2 a3 ∧ Below w.heap.size w V ∧ w.heap.size < V.heap.size := by
  have c : Cells4 (w.alloc (.cells #[.bool false, .bool false, .bool false, .bool false] 123)) w.heap.size false false false false := by
    refine ⟨?_, ?_, ?_, ?_⟩ <;> simp
  refine ⟨_, _, rfl, rfl, c, by intro j; simp, ?_, ?_, by simp⟩
  · obtain ⟨c0, c1, c2, c3⟩ := c
    refine ⟨?_, ?_, ?_, ?_⟩ <;> simp [go_sem]
  · exact (((((Below.refl _ w).alloc (Nat.le_refl _) _).setCell (Nat.le_refl _) _).setCell (Nat.le_refl _) _).setCell (Nat.le_refl _) _).setCell (Nat.le_refl _) _
theorem Cells12.allocs {w : World} {b : Nat} {k x : Int} {n : Bool} {t o r d i p q s m : Int} (h : Cells12 w b k x n t o r d i p q s m) : (∀ O, (w.alloc O).cell? ⟨b, 0, none⟩ = some (.int .i64 k)) ∧ (∀ O, (w.alloc O).cell? ⟨b, 1, none⟩ = some (.int .i64 x)) ∧ (∀ O, (w.alloc O).cell? ⟨b, 2, none⟩ = some (.bool n)) ∧ (∀ O, (w.alloc O).cell? ⟨b, 3, none⟩ = some (.int .i64 t)) ∧ (∀ O, (w.alloc O).cell? ⟨b, 4, none⟩ = some (.int .i64 o)) ∧ (∀ O, (w.alloc O).cell? ⟨b, 5, none⟩ = some (.int .i64 r)) ∧ (∀ O, (w.alloc O).cell? ⟨b, 6, none⟩ = some (.int .i64 d)) ∧ (∀ O, (w.alloc O).cell? ⟨b, 7, none⟩ = some (.int .i64 i)) ∧ (∀ O, (w.alloc O).cell? ⟨b, 8, none⟩ = some (.int .i64 p)) ∧ (∀ O, (w.alloc O).cell? ⟨b, 9, none⟩ = some (.int .i64 q)) ∧ (∀ O, (w.alloc O).cell? ⟨b, 10, none⟩ = some (.int .i64 s)) ∧ (∀ O, (w.alloc O).cell? ⟨b, 11, none⟩ = some (.int .i64 m)) := by
  have f : ∀ O, Cells12 (w.alloc O) b k x n t o r d i p q s m := fun O => h.below ((Below.refl _ _).alloc (Nat.le_refl _) O)
  exact ⟨fun O => (f O).1, fun O => (f O).2.1, fun O => (f O).2.2.1, fun O => (f O).2.2.2.1, fun O => (f O).2.2.2.2.1, fun O => (f O).2.2.2.2.2.1, fun O => (f O).2.2.2.2.2.2.1, fun O => (f O).2.2.2.2.2.2.2.1, fun O => (f O).2.2.2.2.2.2.2.2.1, fun O => (f O).2.2.2.2.2.2.2.2.2.1, fun O => (f O).2.2.2.2.2.2.2.2.2.2.1, fun O => (f O).2.2.2.2.2.2.2.2.2.2.2⟩
theorem Cells4.allocs {w : World} {b : Nat} {a0 a1 a2 a3 : Bool} (h : Cells4 w b a0 a1 a2 a3) : (∀ O, (w.alloc O).cell? ⟨b, 0, none⟩ = some (.bool a0)) ∧ (∀ O, (w.alloc O).cell? ⟨b, 1, none⟩ = some (.bool a1)) ∧ (∀ O, (w.alloc O).cell? ⟨b, 2, none⟩ = some (.bool a2)) ∧ (∀ O, (w.alloc O).cell? ⟨b, 3, none⟩ = some (.bool a3)) := by
  have f : ∀ O, Cells4 (w.alloc O) b a0 a1 a2 a3 := fun O => h.below ((Below.refl _ _).alloc (Nat.le_refl _) O)
  exact ⟨fun O => (f O).1, fun O => (f O).2.1, fun O => (f O).2.2.1, fun O => (f O).2.2.2⟩
theorem Cells4.old {w w' : World} {b B : Nat} {a0 a1 a2 a3 : Bool} (h : Cells4 w b a0 a1 a2 a3) (hb : Below B w w') (hB : b < B) : Cells4 w' b a0 a1 a2 a3 := by
  obtain ⟨h0, h1, h2, h3⟩ := h
  have f : ∀ {j : Nat} {v : Value}, w.cell? ⟨b, j, none⟩ = some v → w'.cell? ⟨b, j, none⟩ = some v := fun {j v} h => by rw [hb.cell (p := ⟨b, j, none⟩) hB]; exact h
  exact ⟨f h0, f h1, f h2, f h3⟩
set_option maxHeartbeats 4000000 in
theorem obytes_no (k x : Int) (n : Bool) (t o r d i p q s m : Int) (w : World) (h : ¬ ObOk k x n t o r d i p q s m) : Calls Tryz.prog 110 #[.agg #[.int .i64 k, .int .i64 x, .bool n, .int .i64 t, .int .i64 o, .int .i64 r, .int .i64 d, .int .i64 i, .int .i64 p, .int .i64 q, .int .i64 s, .int .i64 m]] w (RetB [] 1 w) := by
  have hc := obc_no h
  clear h
  go_enter Tryz.func110, Tryz.ntmps110
  go_wp2_with (go_at_call 38; refine (ocheck_any _ _ _ _ _ _ _ _ _ _ _ _ _).mono ?_; rintro e w' ⟨rfl, hb⟩; rw [hc]; have HB : Hid (Below w.heap.size w w') := ((Below.refl _ w).alloc (Nat.le_refl _) _).trans (hb.mono (by simp)); clear hb)
  go_ret2
  exact ⟨_, rfl, Bs_nil _, HB.out⟩
set_option maxHeartbeats 8000000 in
theorem obytes_1 (x : Int) (n : Bool) (t o r d i p q s m : Int) (w : World) (h : ObOk 1 x n t o r d i p q s m) : Calls Tryz.prog 110 #[.agg #[.int .i64 1, .int .i64 x, .bool n, .int .i64 t, .int .i64 o, .int .i64 r, .int .i64 d, .int .i64 i, .int .i64 p, .int .i64 q, .int .i64 s, .int .i64 m]] w (RetB (obB 1 x n t o r d i p q s m) 0 w) := by
  have hc := obc_ok h
  have hx : 0 ≤ x ∧ x < 64 := h.2.1
  have hwx : IntKind.u8.wrap x = x := by rw [IntKind.wrap_u8]; omega
  have hwk : IntKind.u8.wrap 1 = 1 := by decide
  have hp : partsV 1 = .agg #[.bool true, .bool false, .bool false, .bool false] := rfl
  clear h
  go_enter Tryz.func110, Tryz.ntmps110
  go_wp2_with (first
    | (go_at_call 38; refine (ocheck_any _ _ _ _ _ _ _ _ _ _ _ _ _).mono ?_; rintro e w0 ⟨rfl, hb⟩; rw [hc]; have K := Lib.hid ((cells12_alloc w 1 x n t o r d i p q s m 53).below hb); have HB : Hid (Below w.heap.size w w0) := ((Below.refl _ w).alloc (Nat.le_refl _) _).trans (hb.mono (by simp)); have HL : Hid (w.heap.size < w0.heap.size) := Nat.lt_of_lt_of_le (by simp) hb.size; clear hb; have ⟨c0, c1, c2, c3, c4, c5, c6, c7, c8, c9, c10, c11⟩ := K.out)
    | (go_at_call 63; refine (parts_any 1 _).mono ?_; rintro e w1 ⟨rfl, hb⟩; rw [hp]; obtain ⟨V0, V, h0, hV, ⟨z0, z1, z2, z3⟩, zf, hP, hb2, hs2⟩ := parts_put2 w1 true false false false; replace K := Lib.hid ((K.out.below hb).below hb2); replace HB := Lib.hid ((HB.out.trans (hb.mono HB.out.size)).trans (hb2.mono (Nat.le_trans HB.out.size hb.size))); have HL1 : Hid (w.heap.size < V.heap.size) := Nat.lt_of_lt_of_le HL.out (Nat.le_trans hb.size hb2.size); have HL2 : Hid (w1.heap.size < V.heap.size) := hs2; clear c0 c1 c2 c3 c4 c5 c6 c7 c8 c9 c10 c11 hb hb2 hs2 HL; have ⟨c0, c1, c2, c3, c4, c5, c6, c7, c8, c9, c10, c11⟩ := K.out; have ⟨g0, g1, g2, g3, g4, g5, g6, g7, g8, g9, g10, g11⟩ := K.out.allocs; have ⟨p0, p1, p2, p3⟩ := hP; have ⟨a0, a1, a2, a3⟩ := hP.allocs; replace hP := Lib.hid hP))
  go_ret2
  refine ⟨_, rfl, ?_, (HB.out.alloc HB.out.size _)⟩
  exact bs_lit2 V 1 x (by omega) (by omega) _ rfl
set_option maxHeartbeats 8000000 in
theorem obytes_2 (x : Int) (n : Bool) (t o r d i p q s m : Int) (w : World) (h : ObOk 2 x n t o r d i p q s m) : Calls Tryz.prog 110 #[.agg #[.int .i64 2, .int .i64 x, .bool n, .int .i64 t, .int .i64 o, .int .i64 r, .int .i64 d, .int .i64 i, .int .i64 p, .int .i64 q, .int .i64 s, .int .i64 m]] w (RetB (obB 2 x n t o r d i p q s m) 0 w) := by
  have hc := obc_ok h
  have hx : 0 ≤ x ∧ x < 64 := h.2.1
  have hwx : IntKind.u8.wrap x = x := by rw [IntKind.wrap_u8]; omega
  have hwk : IntKind.u8.wrap 2 = 2 := by decide
  have hp : partsV 2 = .agg #[.bool true, .bool false, .bool true, .bool false] := rfl
  have hh : HtOk n t o r d i := h.2.2.2.2.1
  have hbt := Lib.hid (htB_byt hh)
  have hle := htB_le n t o r d i
  have cB := bytes_ok hh
  clear hh
  clear h
  go_enter Tryz.func110, Tryz.ntmps110
  go_wp2_with (first
    | (go_at_call 38; refine (ocheck_any _ _ _ _ _ _ _ _ _ _ _ _ _).mono ?_; rintro e w0 ⟨rfl, hb⟩; rw [hc]; have K := Lib.hid ((cells12_alloc w 2 x n t o r d i p q s m 53).below hb); have HB : Hid (Below w.heap.size w w0) := ((Below.refl _ w).alloc (Nat.le_refl _) _).trans (hb.mono (by simp)); have HL : Hid (w.heap.size < w0.heap.size) := Nat.lt_of_lt_of_le (by simp) hb.size; clear hb; have ⟨c0, c1, c2, c3, c4, c5, c6, c7, c8, c9, c10, c11⟩ := K.out)
    | (go_at_call 63; refine (parts_any 2 _).mono ?_; rintro e w1 ⟨rfl, hb⟩; rw [hp]; obtain ⟨V0, V, h0, hV, ⟨z0, z1, z2, z3⟩, zf, hP, hb2, hs2⟩ := parts_put2 w1 true false true false; replace K := Lib.hid ((K.out.below hb).below hb2); replace HB := Lib.hid ((HB.out.trans (hb.mono HB.out.size)).trans (hb2.mono (Nat.le_trans HB.out.size hb.size))); have HL1 : Hid (w.heap.size < V.heap.size) := Nat.lt_of_lt_of_le HL.out (Nat.le_trans hb.size hb2.size); have HL2 : Hid (w1.heap.size < V.heap.size) := hs2; clear c0 c1 c2 c3 c4 c5 c6 c7 c8 c9 c10 c11 hb hb2 hs2 HL; have ⟨c0, c1, c2, c3, c4, c5, c6, c7, c8, c9, c10, c11⟩ := K.out; have ⟨g0, g1, g2, g3, g4, g5, g6, g7, g8, g9, g10, g11⟩ := K.out.allocs; have ⟨p0, p1, p2, p3⟩ := hP; have ⟨a0, a1, a2, a3⟩ := hP.allocs; replace hP := Lib.hid hP)
    | (go_at_call 125; refine (cB _).mono ?_; rintro e w2 ⟨r2, rfl, hr2, hb⟩; have O2 := Lib.hid (own_below (own_lit2 V V.heap.size 2 x (Nat.le_refl _) _ rfl) hb); have R2 : Hid (Bs w2 r2 (htB n t o r d i)) := hr2; have Hw2 : Hid (Below V.heap.size V w2) := ((Below.refl _ V).alloc (Nat.le_refl _) _).trans (hb.mono (by simp)); have Kw2 := Lib.hid (K.out.old Hw2.out HL1.out); have ⟨cw20, cw21, cw22, cw23, cw24, cw25, cw26, cw27, cw28, cw29, cw210, cw211⟩ := Kw2.out; have ⟨pw20, pw21, pw22, pw23⟩ := hP.out.old Hw2.out HL2.out; clear hb hr2)
    | (at_builtin; refine app_any rfl (.tmp 53) (.tmp 54) rfl V.heap.size [2, x] (htB n t o r d i) O2.out R2.out (by simp; omega) Hw2.out.size ?_; intro v3 w3 hown3 hb3 hs3; have O3 := Lib.hid hown3; have Hw3 := Lib.hid (Hw2.out.trans hb3); have Kw3 := Lib.hid (K.out.old Hw3.out HL1.out); have ⟨cw30, cw31, cw32, cw33, cw34, cw35, cw36, cw37, cw38, cw39, cw310, cw311⟩ := Kw3.out; have ⟨pw30, pw31, pw32, pw33⟩ := hP.out.old Hw3.out HL2.out; clear hown3 hb3 hs3))
  go_ret2
  refine ⟨_, rfl, ?_, HB.out.trans (Hw3.out.mono HB.out.size)⟩
  exact Bs_of_own O3.out (byt_app (by intro z hz; simp at hz; rcases hz with rfl | rfl <;> omega) hbt.out) (show ([2, x] ++ htB n t o r d i).length ≤ _ by simp; omega)
set_option maxHeartbeats 8000000 in
theorem obytes_3 (x : Int) (n : Bool) (t o r d i p q s m : Int) (w : World) (h : ObOk 3 x n t o r d i p q s m) : Calls Tryz.prog 110 #[.agg #[.int .i64 3, .int .i64 x, .bool n, .int .i64 t, .int .i64 o, .int .i64 r, .int .i64 d, .int .i64 i, .int .i64 p, .int .i64 q, .int .i64 s, .int .i64 m]] w (RetB (obB 3 x n t o r d i p q s m) 0 w) := by
  have hc := obc_ok h
  have hx : 0 ≤ x ∧ x < 64 := h.2.1
  have hwx : IntKind.u8.wrap x = x := by rw [IntKind.wrap_u8]; omega
  have hwk : IntKind.u8.wrap 3 = 3 := by decide
  have hp : partsV 3 = .agg #[.bool true, .bool true, .bool false, .bool false] := rfl
  have hl : HtOk false p q s 0 0 := h.2.2.2.1
  have hr : RowOk p q s 0 := by rcases hl.2 with h | h; · cases h.1
                                exact h.2
  have hq : 0 ≤ q ∧ q < 64 := hr.2.2.1
  have hs : 0 ≤ s ∧ s < 256 := by have := hr.2.2.2.1; omega
  have hwq : IntKind.u8.wrap q = q := by rw [IntKind.wrap_u8]; omega
  have hws : IntKind.u8.wrap s = s := by rw [IntKind.wrap_u8]; omega
  have l8 := i8_len
  clear hl hr
  clear h
  go_enter Tryz.func110, Tryz.ntmps110
  go_wp2_with (first
    | (go_at_call 38; refine (ocheck_any _ _ _ _ _ _ _ _ _ _ _ _ _).mono ?_; rintro e w0 ⟨rfl, hb⟩; rw [hc]; have K := Lib.hid ((cells12_alloc w 3 x n t o r d i p q s m 53).below hb); have HB : Hid (Below w.heap.size w w0) := ((Below.refl _ w).alloc (Nat.le_refl _) _).trans (hb.mono (by simp)); have HL : Hid (w.heap.size < w0.heap.size) := Nat.lt_of_lt_of_le (by simp) hb.size; clear hb; have ⟨c0, c1, c2, c3, c4, c5, c6, c7, c8, c9, c10, c11⟩ := K.out)
    | (go_at_call 63; refine (parts_any 3 _).mono ?_; rintro e w1 ⟨rfl, hb⟩; rw [hp]; obtain ⟨V0, V, h0, hV, ⟨z0, z1, z2, z3⟩, zf, hP, hb2, hs2⟩ := parts_put2 w1 true true false false; replace K := Lib.hid ((K.out.below hb).below hb2); replace HB := Lib.hid ((HB.out.trans (hb.mono HB.out.size)).trans (hb2.mono (Nat.le_trans HB.out.size hb.size))); have HL1 : Hid (w.heap.size < V.heap.size) := Nat.lt_of_lt_of_le HL.out (Nat.le_trans hb.size hb2.size); have HL2 : Hid (w1.heap.size < V.heap.size) := hs2; clear c0 c1 c2 c3 c4 c5 c6 c7 c8 c9 c10 c11 hb hb2 hs2 HL; have ⟨c0, c1, c2, c3, c4, c5, c6, c7, c8, c9, c10, c11⟩ := K.out; have ⟨g0, g1, g2, g3, g4, g5, g6, g7, g8, g9, g10, g11⟩ := K.out.allocs; have ⟨p0, p1, p2, p3⟩ := hP; have ⟨a0, a1, a2, a3⟩ := hP.allocs; replace hP := Lib.hid hP)
    | (go_at_call 124; refine (int_any p _).mono ?_; rintro e w2 ⟨r2, rfl, hr2, hb⟩; have O2 := Lib.hid (own_below (own_lit2 V V.heap.size 3 x (Nat.le_refl _) _ rfl) hb); have R2 : Hid (Bs w2 r2 (i8 p)) := hr2; have Hw2 : Hid (Below V.heap.size V w2) := ((Below.refl _ V).alloc (Nat.le_refl _) _).trans (hb.mono (by simp)); have Kw2 := Lib.hid (K.out.old Hw2.out HL1.out); have ⟨cw20, cw21, cw22, cw23, cw24, cw25, cw26, cw27, cw28, cw29, cw210, cw211⟩ := Kw2.out; have ⟨pw20, pw21, pw22, pw23⟩ := hP.out.old Hw2.out HL2.out; clear hb hr2)
    | (at_builtin; refine app_any rfl (.tmp 28) (.tmp 32) rfl V.heap.size [3, x] (i8 p) O2.out R2.out (by simp [l8]) Hw2.out.size ?_; intro v3 w3 hown3 hb3 hs3; have O3 := Lib.hid hown3; have Hw3 := Lib.hid (Hw2.out.trans hb3); have Kw3 := Lib.hid (K.out.old Hw3.out HL1.out); have ⟨cw30, cw31, cw32, cw33, cw34, cw35, cw36, cw37, cw38, cw39, cw310, cw311⟩ := Kw3.out; have ⟨pw30, pw31, pw32, pw33⟩ := hP.out.old Hw3.out HL2.out; clear hown3 hb3 hs3)
    | (at_builtin; refine app_any rfl (.tmp 34) (.tmp 43) rfl V.heap.size ([3, x] ++ i8 p) [q, s] (O3.out.alloc _) (bs_lit2 w3 q s (by omega) hs _ rfl) (by simp [l8]) (Nat.le_trans Hw3.out.size (by simp)) ?_; intro v4 w4 hown4 hb4 hs4; have O4 := Lib.hid hown4; have Hw4 := Lib.hid ((Hw3.out.alloc Hw3.out.size _).trans hb4); have Kw4 := Lib.hid (K.out.old Hw4.out HL1.out); have ⟨cw40, cw41, cw42, cw43, cw44, cw45, cw46, cw47, cw48, cw49, cw410, cw411⟩ := Kw4.out; have ⟨pw40, pw41, pw42, pw43⟩ := hP.out.old Hw4.out HL2.out; clear hown4 hb4 hs4))
  go_ret2
  refine ⟨_, rfl, ?_, HB.out.trans (Hw4.out.mono HB.out.size)⟩
  exact Bs_of_own O4.out (byt_app (byt_app (by intro z hz; simp at hz; rcases hz with rfl | rfl <;> omega) (i8_byt p)) (by intro z hz; simp at hz; rcases hz with rfl | rfl <;> omega)) (show ([3, x] ++ i8 p ++ [q, s]).length ≤ _ by simp [l8])
set_option maxHeartbeats 8000000 in
theorem obytes_4 (x : Int) (n : Bool) (t o r d i p q s m : Int) (w : World) (h : ObOk 4 x n t o r d i p q s m) : Calls Tryz.prog 110 #[.agg #[.int .i64 4, .int .i64 x, .bool n, .int .i64 t, .int .i64 o, .int .i64 r, .int .i64 d, .int .i64 i, .int .i64 p, .int .i64 q, .int .i64 s, .int .i64 m]] w (RetB (obB 4 x n t o r d i p q s m) 0 w) := by
  have hc := obc_ok h
  have hx : 0 ≤ x ∧ x < 64 := h.2.1
  have hwx : IntKind.u8.wrap x = x := by rw [IntKind.wrap_u8]; omega
  have hwk : IntKind.u8.wrap 4 = 4 := by decide
  have hp : partsV 4 = .agg #[.bool true, .bool false, .bool true, .bool true] := rfl
  have hh : HtOk n t o r d i := h.2.2.2.2.1
  have hbt := Lib.hid (htB_byt hh)
  have hle := htB_le n t o r d i
  have cB := bytes_ok hh
  clear hh
  have hm : 0 ≤ m ∧ m ≤ 65535 := h.2.2.2.2.2
  have cP := put_two hm
  clear h
  go_enter Tryz.func110, Tryz.ntmps110
  go_wp2_with (first
    | (go_at_call 38; refine (ocheck_any _ _ _ _ _ _ _ _ _ _ _ _ _).mono ?_; rintro e w0 ⟨rfl, hb⟩; rw [hc]; have K := Lib.hid ((cells12_alloc w 4 x n t o r d i p q s m 53).below hb); have HB : Hid (Below w.heap.size w w0) := ((Below.refl _ w).alloc (Nat.le_refl _) _).trans (hb.mono (by simp)); have HL : Hid (w.heap.size < w0.heap.size) := Nat.lt_of_lt_of_le (by simp) hb.size; clear hb; have ⟨c0, c1, c2, c3, c4, c5, c6, c7, c8, c9, c10, c11⟩ := K.out)
    | (go_at_call 63; refine (parts_any 4 _).mono ?_; rintro e w1 ⟨rfl, hb⟩; rw [hp]; obtain ⟨V0, V, h0, hV, ⟨z0, z1, z2, z3⟩, zf, hP, hb2, hs2⟩ := parts_put2 w1 true false true true; replace K := Lib.hid ((K.out.below hb).below hb2); replace HB := Lib.hid ((HB.out.trans (hb.mono HB.out.size)).trans (hb2.mono (Nat.le_trans HB.out.size hb.size))); have HL1 : Hid (w.heap.size < V.heap.size) := Nat.lt_of_lt_of_le HL.out (Nat.le_trans hb.size hb2.size); have HL2 : Hid (w1.heap.size < V.heap.size) := hs2; clear c0 c1 c2 c3 c4 c5 c6 c7 c8 c9 c10 c11 hb hb2 hs2 HL; have ⟨c0, c1, c2, c3, c4, c5, c6, c7, c8, c9, c10, c11⟩ := K.out; have ⟨g0, g1, g2, g3, g4, g5, g6, g7, g8, g9, g10, g11⟩ := K.out.allocs; have ⟨p0, p1, p2, p3⟩ := hP; have ⟨a0, a1, a2, a3⟩ := hP.allocs; replace hP := Lib.hid hP)
    | (go_at_call 125; refine (cB _).mono ?_; rintro e w2 ⟨r2, rfl, hr2, hb⟩; have O2 := Lib.hid (own_below (own_lit2 V V.heap.size 4 x (Nat.le_refl _) _ rfl) hb); have R2 : Hid (Bs w2 r2 (htB n t o r d i)) := hr2; have Hw2 : Hid (Below V.heap.size V w2) := ((Below.refl _ V).alloc (Nat.le_refl _) _).trans (hb.mono (by simp)); have Kw2 := Lib.hid (K.out.old Hw2.out HL1.out); have ⟨cw20, cw21, cw22, cw23, cw24, cw25, cw26, cw27, cw28, cw29, cw210, cw211⟩ := Kw2.out; have ⟨pw20, pw21, pw22, pw23⟩ := hP.out.old Hw2.out HL2.out; clear hb hr2)
    | (at_builtin; refine app_any rfl (.tmp 53) (.tmp 54) rfl V.heap.size [4, x] (htB n t o r d i) O2.out R2.out (by simp; omega) Hw2.out.size ?_; intro v3 w3 hown3 hb3 hs3; have O3 := Lib.hid hown3; have Hw3 := Lib.hid (Hw2.out.trans hb3); have Kw3 := Lib.hid (K.out.old Hw3.out HL1.out); have ⟨cw30, cw31, cw32, cw33, cw34, cw35, cw36, cw37, cw38, cw39, cw310, cw311⟩ := Kw3.out; have ⟨pw30, pw31, pw32, pw33⟩ := hP.out.old Hw3.out HL2.out; clear hown3 hb3 hs3)
    | (go_at_call 126; refine (cP _).mono ?_; rintro e w4 ⟨r4, rfl, hr4, hb⟩; have O4 := Lib.hid (own_below O3.out hb); have R4 : Hid (Bs w4 r4 [m / 256, m % 256]) := hr4; have Hw4 := Lib.hid (Hw3.out.trans (hb.mono Hw3.out.size)); have Kw4 := Lib.hid (K.out.old Hw4.out HL1.out); have ⟨cw40, cw41, cw42, cw43, cw44, cw45, cw46, cw47, cw48, cw49, cw410, cw411⟩ := Kw4.out; have ⟨pw40, pw41, pw42, pw43⟩ := hP.out.old Hw4.out HL2.out; clear hb hr4)
    | (at_builtin; refine app_any rfl (.tmp 64) (.tmp 65) rfl V.heap.size ([4, x] ++ htB n t o r d i) [m / 256, m % 256] O4.out R4.out (by simp; omega) Hw4.out.size ?_; intro v5 w5 hown5 hb5 hs5; have O5 := Lib.hid hown5; have Hw5 := Lib.hid (Hw4.out.trans hb5); clear hown5 hb5 hs5))
  go_ret2
  refine ⟨_, rfl, ?_, HB.out.trans (Hw5.out.mono HB.out.size)⟩
  exact Bs_of_own O5.out (byt_app (byt_app (by intro z hz; simp at hz; rcases hz with rfl | rfl <;> omega) hbt.out) (by intro z hz; simp at hz; rcases hz with rfl | rfl <;> omega)) (show ([4, x] ++ htB n t o r d i ++ [m / 256, m % 256]).length ≤ _ by simp; omega)
theorem Bs_len {w : World} {v : Value} {xs : List Int} (h : Bs w v xs) : ∃ a c, v = .slice a xs.length c := by
  obtain ⟨_, _, ⟨a, c, h, _, rfl⟩ | ⟨b, o, c, h, _⟩⟩ := h
  · exact ⟨_, _, h⟩
  · exact ⟨_, _, h⟩
theorem kind_of {k x : Int} {n : Bool} {t o r d i p q s m : Int} (h : ObOk k x n t o r d i p q s m) : k = 1 ∨ k = 2 ∨ k = 3 ∨ k = 4 := by
  have := h.1
  simp only [kn, Bool.or_eq_true, beq_iff_eq] at this
  exact this
theorem obytes_any (k x : Int) (n : Bool) (t o r d i p q s m : Int) (w : World) : Calls Tryz.prog 110 #[.agg #[.int .i64 k, .int .i64 x, .bool n, .int .i64 t, .int .i64 o, .int .i64 r, .int .i64 d, .int .i64 i, .int .i64 p, .int .i64 q, .int .i64 s, .int .i64 m]] w (RetB (obBs k x n t o r d i p q s m) (obc k x n t o r d i p q s m) w) := by
  by_cases h : ObOk k x n t o r d i p q s m
  · rw [obBs, if_pos h, obc_ok h]
    rcases kind_of h with rfl | rfl | rfl | rfl
    · exact obytes_1 x n t o r d i p q s m w h
    · exact obytes_2 x n t o r d i p q s m w h
    · exact obytes_3 x n t o r d i p q s m w h
    · exact obytes_4 x n t o r d i p q s m w h
  · rw [obBs, if_neg h, obc_no h]
    exact obytes_no k x n t o r d i p q s m w h
theorem osize_any (k x : Int) (n : Bool) (t o r d i p q s m : Int) (w : World) : Calls Tryz.prog 87 #[.agg #[.int .i64 k, .int .i64 x, .bool n, .int .i64 t, .int .i64 o, .int .i64 r, .int .i64 d, .int .i64 i, .int .i64 p, .int .i64 q, .int .i64 s, .int .i64 m]] w fun e w' => e = .returned (.int .i64 (obBs k x n t o r d i p q s m).length) ∧ Below w.heap.size w w' := by
  have cB : ∀ w, Calls Tryz.prog 110 #[.agg #[.int .i64 k, .int .i64 x, .bool n, .int .i64 t, .int .i64 o, .int .i64 r, .int .i64 d, .int .i64 i, .int .i64 p, .int .i64 q, .int .i64 s, .int .i64 m]] w (RetB (obBs k x n t o r d i p q s m) (obc k x n t o r d i p q s m) w) := fun w => obytes_any k x n t o r d i p q s m w
  generalize obBs k x n t o r d i p q s m = xs at *
  generalize obc k x n t o r d i p q s m = c at *
  go_enter Tryz.func87, Tryz.ntmps87
  go_wp2_with (go_at_call 110; refine (cB _).mono ?_; rintro e w' ⟨r1, rfl, hr1, hb⟩; have HB : Hid (Below w.heap.size w w') := ((Below.refl _ w).alloc (Nat.le_refl _) _).trans (hb.mono (by simp)); clear hb; obtain ⟨a1, c1, rfl⟩ : ∃ a1 c1, r1 = .slice a1 xs.length c1 := Bs_len hr1; clear hr1)
  go_ret
  exact ⟨rfl, HB.out⟩
end Go.Proofs.YtfiaghfaijlfjaaGreat

