/- The reference's bytes of an object. No conditions. -/
import Derived.Test.YtfiaghfaijlfjaaGreatOrt
namespace Go.Proofs.YtfiaghfaijlfjaaGreat
set_option maxRecDepth 100000
open Go.RowKit Go.Sort

theorem ht_i64 {n : Bool} {t o r d i : Int} (h : HtOk n t o r d i) : (-9223372036854775808 ≤ t ∧ t < 9223372036854775808) ∧ (-9223372036854775808 ≤ d ∧ d < 9223372036854775808) := by
  rcases h.2 with ⟨_, h⟩ | ⟨_, h⟩
  · unfold NullOk at h; omega
  · unfold RowOk at h; omega
theorem rbytes_ok {n : Bool} {t o r d i : Int} (h : HtOk n t o r d i) (w : World) : Calls Tryz.prog 94 #[.agg #[.bool n, .int .i64 t, .int .i64 o, .int .i64 r, .int .i64 d, .int .i64 i]] w (RetB (htB n t o r d i) 0 w) := by
  have hi := ht_i64 h
  have := rbytes_any n t o r d i w hi.1.1 hi.1.2 hi.2.1 hi.2.2
  rwa [htBs, if_pos h, chk_ok h] at this
set_option maxHeartbeats 4000000 in
theorem orbytes_no (k x : Int) (n : Bool) (t o r d i p q s m : Int) (w : World) (h : ¬ ObOk k x n t o r d i p q s m) : Calls Tryz.prog 82 #[.agg #[.int .i64 k, .int .i64 x, .bool n, .int .i64 t, .int .i64 o, .int .i64 r, .int .i64 d, .int .i64 i, .int .i64 p, .int .i64 q, .int .i64 s, .int .i64 m]] w (RetB [] 1 w) := by
  have hc := decide_eq_false h
  clear h
  go_enter Tryz.func82, Tryz.ntmps82
  go_wp2_with (go_at_call 93; refine (oright_any _ _ _ _ _ _ _ _ _ _ _ _ _).mono ?_; rintro e w' ⟨rfl, hb⟩; rw [hc]; have HB : Hid (Below w.heap.size w w') := ((Below.refl _ w).alloc (Nat.le_refl _) _).trans (hb.mono (by simp)); clear hb)
  go_ret2
  exact ⟨_, rfl, Bs_nil _, HB.out⟩
set_option maxHeartbeats 8000000 in
theorem orbytes_1 (x : Int) (n : Bool) (t o r d i p q s m : Int) (w : World) (h : ObOk 1 x n t o r d i p q s m) : Calls Tryz.prog 82 #[.agg #[.int .i64 1, .int .i64 x, .bool n, .int .i64 t, .int .i64 o, .int .i64 r, .int .i64 d, .int .i64 i, .int .i64 p, .int .i64 q, .int .i64 s, .int .i64 m]] w (RetB (obB 1 x n t o r d i p q s m) 0 w) := by
  have hc := decide_eq_true h
  have hx : 0 ≤ x ∧ x < 64 := h.2.1
  have hwx : IntKind.u8.wrap x = x := by rw [IntKind.wrap_u8]; omega
  have hwk : IntKind.u8.wrap 1 = 1 := by decide
  clear h
  go_enter Tryz.func82, Tryz.ntmps82
  go_wp2_with (first
    | (go_at_call 93; refine (oright_any _ _ _ _ _ _ _ _ _ _ _ _ _).mono ?_; rintro e V ⟨rfl, hb⟩; rw [hc]; have K := Lib.hid ((cells12_alloc w 1 x n t o r d i p q s m 53).below hb); have HB : Hid (Below w.heap.size w V) := ((Below.refl _ w).alloc (Nat.le_refl _) _).trans (hb.mono (by simp)); have HL1 : Hid (w.heap.size < V.heap.size) := Nat.lt_of_lt_of_le (by simp) hb.size; clear hb; have ⟨c0, c1, c2, c3, c4, c5, c6, c7, c8, c9, c10, c11⟩ := K.out; have ⟨g0, g1, g2, g3, g4, g5, g6, g7, g8, g9, g10, g11⟩ := K.out.allocs))
  go_ret2
  refine ⟨_, rfl, ?_, (HB.out.alloc HB.out.size _)⟩
  exact bs_lit2 V 1 x (by omega) (by omega) _ rfl
set_option maxHeartbeats 8000000 in
theorem orbytes_2 (x : Int) (n : Bool) (t o r d i p q s m : Int) (w : World) (h : ObOk 2 x n t o r d i p q s m) : Calls Tryz.prog 82 #[.agg #[.int .i64 2, .int .i64 x, .bool n, .int .i64 t, .int .i64 o, .int .i64 r, .int .i64 d, .int .i64 i, .int .i64 p, .int .i64 q, .int .i64 s, .int .i64 m]] w (RetB (obB 2 x n t o r d i p q s m) 0 w) := by
  have hc := decide_eq_true h
  have hx : 0 ≤ x ∧ x < 64 := h.2.1
  have hwx : IntKind.u8.wrap x = x := by rw [IntKind.wrap_u8]; omega
  have hwk : IntKind.u8.wrap 2 = 2 := by decide
  have hh : HtOk n t o r d i := h.2.2.2.2.1
  have hbt := Lib.hid (htB_byt hh)
  have hle := htB_le n t o r d i
  have cB := rbytes_ok hh
  clear hh
  clear h
  go_enter Tryz.func82, Tryz.ntmps82
  go_wp2_with (first
    | (go_at_call 93; refine (oright_any _ _ _ _ _ _ _ _ _ _ _ _ _).mono ?_; rintro e V ⟨rfl, hb⟩; rw [hc]; have K := Lib.hid ((cells12_alloc w 2 x n t o r d i p q s m 53).below hb); have HB : Hid (Below w.heap.size w V) := ((Below.refl _ w).alloc (Nat.le_refl _) _).trans (hb.mono (by simp)); have HL1 : Hid (w.heap.size < V.heap.size) := Nat.lt_of_lt_of_le (by simp) hb.size; clear hb; have ⟨c0, c1, c2, c3, c4, c5, c6, c7, c8, c9, c10, c11⟩ := K.out; have ⟨g0, g1, g2, g3, g4, g5, g6, g7, g8, g9, g10, g11⟩ := K.out.allocs)
    | (go_at_call 94; refine (cB _).mono ?_; rintro e w2 ⟨r2, rfl, hr2, hb⟩; have O2 := Lib.hid (own_below (own_lit2 V V.heap.size 2 x (Nat.le_refl _) _ rfl) hb); have R2 : Hid (Bs w2 r2 (htB n t o r d i)) := hr2; have Hw2 : Hid (Below V.heap.size V w2) := ((Below.refl _ V).alloc (Nat.le_refl _) _).trans (hb.mono (by simp)); have Kw2 := Lib.hid (K.out.old Hw2.out HL1.out); have ⟨cw20, cw21, cw22, cw23, cw24, cw25, cw26, cw27, cw28, cw29, cw210, cw211⟩ := Kw2.out; clear hb hr2)
    | (at_builtin; refine app_any rfl (.tmp 31) (.tmp 32) rfl V.heap.size [2, x] (htB n t o r d i) O2.out R2.out (by simp; omega) Hw2.out.size ?_; intro v3 w3 hown3 hb3 hs3; have O3 := Lib.hid hown3; have Hw3 := Lib.hid (Hw2.out.trans hb3); have Kw3 := Lib.hid (K.out.old Hw3.out HL1.out); have ⟨cw30, cw31, cw32, cw33, cw34, cw35, cw36, cw37, cw38, cw39, cw310, cw311⟩ := Kw3.out; clear hown3 hb3 hs3))
  go_ret2
  refine ⟨_, rfl, ?_, HB.out.trans (Hw3.out.mono HB.out.size)⟩
  exact Bs_of_own O3.out (byt_app (by intro z hz; simp at hz; rcases hz with rfl | rfl <;> omega) hbt.out) (show ([2, x] ++ htB n t o r d i).length ≤ _ by simp; omega)
set_option maxHeartbeats 8000000 in
theorem orbytes_3 (x : Int) (n : Bool) (t o r d i p q s m : Int) (w : World) (h : ObOk 3 x n t o r d i p q s m) : Calls Tryz.prog 82 #[.agg #[.int .i64 3, .int .i64 x, .bool n, .int .i64 t, .int .i64 o, .int .i64 r, .int .i64 d, .int .i64 i, .int .i64 p, .int .i64 q, .int .i64 s, .int .i64 m]] w (RetB (obB 3 x n t o r d i p q s m) 0 w) := by
  have hc := decide_eq_true h
  have hx : 0 ≤ x ∧ x < 64 := h.2.1
  have hwx : IntKind.u8.wrap x = x := by rw [IntKind.wrap_u8]; omega
  have hwk : IntKind.u8.wrap 3 = 3 := by decide
  have hl : HtOk false p q s 0 0 := h.2.2.2.1
  have hr : RowOk p q s 0 := by rcases hl.2 with h | h; · cases h.1
                                exact h.2
  have hp1 : -9223372036854775808 ≤ p := by have := hr.1; omega
  have hp2 : p < 9223372036854775808 := by have := hr.2.1; omega
  have hq : 0 ≤ q ∧ q < 64 := hr.2.2.1
  have hs : 0 ≤ s ∧ s < 256 := by have := hr.2.2.2.1; omega
  have hwq : IntKind.u8.wrap q = q := by rw [IntKind.wrap_u8]; omega
  have hws : IntKind.u8.wrap s = s := by rw [IntKind.wrap_u8]; omega
  have l8 := i8_len
  clear hl hr
  clear h
  go_enter Tryz.func82, Tryz.ntmps82
  go_wp2_with (first
    | (go_at_call 93; refine (oright_any _ _ _ _ _ _ _ _ _ _ _ _ _).mono ?_; rintro e V ⟨rfl, hb⟩; rw [hc]; have K := Lib.hid ((cells12_alloc w 3 x n t o r d i p q s m 53).below hb); have HB : Hid (Below w.heap.size w V) := ((Below.refl _ w).alloc (Nat.le_refl _) _).trans (hb.mono (by simp)); have HL1 : Hid (w.heap.size < V.heap.size) := Nat.lt_of_lt_of_le (by simp) hb.size; clear hb; have ⟨c0, c1, c2, c3, c4, c5, c6, c7, c8, c9, c10, c11⟩ := K.out; have ⟨g0, g1, g2, g3, g4, g5, g6, g7, g8, g9, g10, g11⟩ := K.out.allocs)
    | (go_at_call 95; refine (rint_any p _ hp1 hp2).mono ?_; rintro e w2 ⟨r2, rfl, hr2, hb⟩; have O2 := Lib.hid (own_below (own_lit2 V V.heap.size 3 x (Nat.le_refl _) _ rfl) hb); have R2 : Hid (Bs w2 r2 (i8 p)) := hr2; have Hw2 : Hid (Below V.heap.size V w2) := ((Below.refl _ V).alloc (Nat.le_refl _) _).trans (hb.mono (by simp)); have Kw2 := Lib.hid (K.out.old Hw2.out HL1.out); have ⟨cw20, cw21, cw22, cw23, cw24, cw25, cw26, cw27, cw28, cw29, cw210, cw211⟩ := Kw2.out; clear hb hr2)
    | (at_builtin; refine app_any rfl (.tmp 37) (.tmp 41) rfl V.heap.size [3, x] (i8 p) O2.out R2.out (by simp [l8]) Hw2.out.size ?_; intro v3 w3 hown3 hb3 hs3; have O3 := Lib.hid hown3; have Hw3 := Lib.hid (Hw2.out.trans hb3); have Kw3 := Lib.hid (K.out.old Hw3.out HL1.out); have ⟨cw30, cw31, cw32, cw33, cw34, cw35, cw36, cw37, cw38, cw39, cw310, cw311⟩ := Kw3.out; clear hown3 hb3 hs3)
    | (at_builtin; refine app_any rfl (.tmp 43) (.tmp 52) rfl V.heap.size ([3, x] ++ i8 p) [q, s] (O3.out.alloc _) (bs_lit2 w3 q s (by omega) hs _ rfl) (by simp [l8]) (Nat.le_trans Hw3.out.size (by simp)) ?_; intro v4 w4 hown4 hb4 hs4; have O4 := Lib.hid hown4; have Hw4 := Lib.hid ((Hw3.out.alloc Hw3.out.size _).trans hb4); have Kw4 := Lib.hid (K.out.old Hw4.out HL1.out); have ⟨cw40, cw41, cw42, cw43, cw44, cw45, cw46, cw47, cw48, cw49, cw410, cw411⟩ := Kw4.out; clear hown4 hb4 hs4))
  go_ret2
  refine ⟨_, rfl, ?_, HB.out.trans (Hw4.out.mono HB.out.size)⟩
  exact Bs_of_own O4.out (byt_app (byt_app (by intro z hz; simp at hz; rcases hz with rfl | rfl <;> omega) (i8_byt p)) (by intro z hz; simp at hz; rcases hz with rfl | rfl <;> omega)) (show ([3, x] ++ i8 p ++ [q, s]).length ≤ _ by simp [l8])
set_option maxHeartbeats 8000000 in
theorem orbytes_4 (x : Int) (n : Bool) (t o r d i p q s m : Int) (w : World) (h : ObOk 4 x n t o r d i p q s m) : Calls Tryz.prog 82 #[.agg #[.int .i64 4, .int .i64 x, .bool n, .int .i64 t, .int .i64 o, .int .i64 r, .int .i64 d, .int .i64 i, .int .i64 p, .int .i64 q, .int .i64 s, .int .i64 m]] w (RetB (obB 4 x n t o r d i p q s m) 0 w) := by
  have hc := decide_eq_true h
  have hx : 0 ≤ x ∧ x < 64 := h.2.1
  have hwx : IntKind.u8.wrap x = x := by rw [IntKind.wrap_u8]; omega
  have hwk : IntKind.u8.wrap 4 = 4 := by decide
  have hh : HtOk n t o r d i := h.2.2.2.2.1
  have hbt := Lib.hid (htB_byt hh)
  have hle := htB_le n t o r d i
  have cB := rbytes_ok hh
  clear hh
  have hm : 0 ≤ m ∧ m ≤ 65535 := h.2.2.2.2.2
  have hq : m.tdiv 256 = m / 256 := Int.tdiv_eq_ediv_of_nonneg hm.1
  have hr : m.tmod 256 = m % 256 := Int.tmod_eq_emod_of_nonneg hm.1
  have hwq : IntKind.u8.wrap (m / 256) = m / 256 := by rw [IntKind.wrap_u8]; omega
  have hwr : IntKind.u8.wrap (m % 256) = m % 256 := by rw [IntKind.wrap_u8]; omega
  have hwd : wrap64 (m / 256) = m / 256 := by unfold wrap64; omega
  have hwe : wrap64 (m % 256) = m % 256 := by unfold wrap64; omega
  have hwd' : IntKind.i64.wrap (m / 256) = m / 256 := by rw [IntKind.wrap_i64]; omega
  have hwe' : IntKind.i64.wrap (m % 256) = m % 256 := by rw [IntKind.wrap_i64]; omega
  clear h
  go_enter Tryz.func82, Tryz.ntmps82
  go_wp2_with (first
    | (go_at_call 93; refine (oright_any _ _ _ _ _ _ _ _ _ _ _ _ _).mono ?_; rintro e V ⟨rfl, hb⟩; rw [hc]; have K := Lib.hid ((cells12_alloc w 4 x n t o r d i p q s m 53).below hb); have HB : Hid (Below w.heap.size w V) := ((Below.refl _ w).alloc (Nat.le_refl _) _).trans (hb.mono (by simp)); have HL1 : Hid (w.heap.size < V.heap.size) := Nat.lt_of_lt_of_le (by simp) hb.size; clear hb; have ⟨c0, c1, c2, c3, c4, c5, c6, c7, c8, c9, c10, c11⟩ := K.out; have ⟨g0, g1, g2, g3, g4, g5, g6, g7, g8, g9, g10, g11⟩ := K.out.allocs)
    | (go_at_call 94; refine (cB _).mono ?_; rintro e w2 ⟨r2, rfl, hr2, hb⟩; have O2 := Lib.hid (own_below (own_lit2 V V.heap.size 4 x (Nat.le_refl _) _ rfl) hb); have R2 : Hid (Bs w2 r2 (htB n t o r d i)) := hr2; have Hw2 : Hid (Below V.heap.size V w2) := ((Below.refl _ V).alloc (Nat.le_refl _) _).trans (hb.mono (by simp)); have Kw2 := Lib.hid (K.out.old Hw2.out HL1.out); have ⟨cw20, cw21, cw22, cw23, cw24, cw25, cw26, cw27, cw28, cw29, cw210, cw211⟩ := Kw2.out; clear hb hr2)
    | (at_builtin; refine app_any rfl (.tmp 31) (.tmp 32) rfl V.heap.size [4, x] (htB n t o r d i) O2.out R2.out (by simp; omega) Hw2.out.size ?_; intro v3 w3 hown3 hb3 hs3; have O3 := Lib.hid hown3; have Hw3 := Lib.hid (Hw2.out.trans hb3); have Kw3 := Lib.hid (K.out.old Hw3.out HL1.out); have ⟨cw30, cw31, cw32, cw33, cw34, cw35, cw36, cw37, cw38, cw39, cw310, cw311⟩ := Kw3.out; clear hown3 hb3 hs3)
    | (at_builtin; refine app_any rfl (.tmp 57) (.tmp 66) rfl V.heap.size ([4, x] ++ htB n t o r d i) [m / 256, m % 256] (O3.out.alloc _) (bs_lit2 w3 (m / 256) (m % 256) (by omega) (by omega) _ rfl) (by simp; omega) (Nat.le_trans Hw3.out.size (by simp)) ?_; intro v5 w5 hown5 hb5 hs5; have O5 := Lib.hid hown5; have Hw5 := Lib.hid ((Hw3.out.alloc Hw3.out.size _).trans hb5); clear hown5 hb5 hs5))
  go_ret2
  refine ⟨_, rfl, ?_, HB.out.trans (Hw5.out.mono HB.out.size)⟩
  exact Bs_of_own O5.out (byt_app (byt_app (by intro z hz; simp at hz; rcases hz with rfl | rfl <;> omega) hbt.out) (by intro z hz; simp at hz; rcases hz with rfl | rfl <;> omega)) (show ([4, x] ++ htB n t o r d i ++ [m / 256, m % 256]).length ≤ _ by simp; omega)
theorem orbytes_any (k x : Int) (n : Bool) (t o r d i p q s m : Int) (w : World) : Calls Tryz.prog 82 #[.agg #[.int .i64 k, .int .i64 x, .bool n, .int .i64 t, .int .i64 o, .int .i64 r, .int .i64 d, .int .i64 i, .int .i64 p, .int .i64 q, .int .i64 s, .int .i64 m]] w (RetB (obBs k x n t o r d i p q s m) (obc k x n t o r d i p q s m) w) := by
  by_cases h : ObOk k x n t o r d i p q s m
  · rw [obBs, if_pos h, obc_ok h]
    rcases kind_of h with rfl | rfl | rfl | rfl
    · exact orbytes_1 x n t o r d i p q s m w h
    · exact orbytes_2 x n t o r d i p q s m w h
    · exact orbytes_3 x n t o r d i p q s m w h
    · exact orbytes_4 x n t o r d i p q s m w h
  · rw [obBs, if_neg h, obc_no h]
    exact orbytes_no k x n t o r d i p q s m w h
end Go.Proofs.YtfiaghfaijlfjaaGreat

