/- A height as bytes. No conditions. -/
import Derived.Test.YtfiaghfaijlfjaaGreatRht
namespace Go.Proofs.YtfiaghfaijlfjaaGreat
set_option maxRecDepth 100000
open Go.RowKit

theorem own_below {w w' : World} {base size n : Nat} {e : TypeId} {v : Value} {xs : List Value} (h : w.ownsRow base e size v n xs) (hb : Below w.heap.size w w') : w'.ownsRow base e size v n xs := by
  obtain ⟨h1, h2 | ⟨g, cap, cur, h2, h3, h4, h5⟩⟩ := h
  · exact ⟨h1, .inl h2⟩
  · refine ⟨h1, .inr ⟨g, cap, cur, h2, h3, ?_, h5⟩⟩
    rw [hb.block g (Array.getElem?_eq_some_iff.1 h4).1]; exact h4
def Byt (xs : List Int) : Prop := ∀ x ∈ xs, 0 ≤ x ∧ x < 256
theorem byt_app {xs ys : List Int} (h : Byt xs) (h' : Byt ys) : Byt (xs ++ ys) := fun x hx => by
  rcases List.mem_append.1 hx with hx | hx
  · exact h x hx
  · exact h' x hx
/-- append of bytes to a row of the call's own. -/
theorem app_any {ops : Array Oper} {rest : List Oper} {o : Oper} {a : Act} {Q : Exit → Act → World → Prop} {w : World} (hgd : o.guard = none) (s x : Operand)
    (ho : o.op = .call { callee := .builtin .append, args := #[s, x], argTypes := #[140, 140] }) (base : Nat) (xs ys : List Int)
    (hown : w.ownsRow base 5 1 (a.eval s) xs.length (xs.map (Value.int .u8))) (hx : Bs w (a.eval x) ys) (h63 : xs.length + ys.length ≤ 1000) (hbase : base ≤ w.heap.size)
    (h : ∀ v' w', w'.ownsRow base 5 1 v' (xs ++ ys).length ((xs ++ ys).map (Value.int .u8)) → Below base w w' → w.heap.size ≤ w'.heap.size → wpList Tryz.prog ops Q rest (a.put o.dst v') w') : wpList Tryz.prog ops Q (o :: rest) a w := by
  obtain ⟨i0, hi, hz0, hz1, hz2⟩ := info_parts Tryz.info5
  obtain ⟨_, _, ⟨ad, cap, hv, hz, rfl⟩ | ⟨b, off, cap, hv, hcap, hcs⟩⟩ := hx
  · cases ad with
    | none =>
      obtain rfl : cap = 0 := hz rfl
      refine wpList_append_own_none hgd s x 140 ho base 5 i0 1 Tryz.underlying140 hi _ _ _ rfl hown hv ?_
      rw [List.append_nil] at h
      exact h _ _ hown (Below.refl _ _) (Nat.le_refl _)
    | some ad =>
      refine wpList_append_own w hgd s x 140 ho base 5 i0 (.int .u8 0) 1 1 Tryz.underlying140 hi hz0 hz1 hz2 rfl (by decide) _ _ _ rfl hown ad 0 cap [] hv (by simp) (by simp) (by simp) (by unfold maxLen; omega) (by omega) hbase fun v' w1 hown1 hgrow _ => ?_
      refine h v' w1 (by simpa using hown1) ((Below.refl _ w).grown hgrow hbase (fun k hk => (hown.lt k hk).1)) hgrow.size
  · refine wpList_append_own w hgd s x 140 ho base 5 i0 (.int .u8 0) 1 1 Tryz.underlying140 hi hz0 hz1 hz2 rfl (by decide) _ _ _ rfl hown ⟨b, off, none⟩ ys.length cap (ys.map (Value.int .u8)) hv (by simp) (news_of hcs) (ones ys) (by unfold maxLen; omega) (by omega) hbase fun v' w1 hown1 hgrow _ => ?_
    refine h v' w1 ?_ ((Below.refl _ w).grown hgrow hbase (fun k hk => (hown.lt k hk).1)) hgrow.size
    rw [List.length_append, List.map_append]; exact hown1
theorem own_lit1 (w : World) (base : Nat) (x : Int) (hb : base ≤ w.heap.size) (g : Nat) (hg : g = w.heap.size) : (w.alloc (.cells #[.int .u8 x] 5)).ownsRow base 5 1 (.slice (some ⟨g, 0, none⟩) 1 1) [x].length ([x].map (Value.int .u8)) := by
  subst hg
  exact World.ownsRow_lit w #[.int .u8 x] 1 hb (by unfold maxLen; omega) rfl
theorem bs_lit1 (w : World) (x : Int) (hx : 0 ≤ x ∧ x < 256) (g : Nat) (hg : g = w.heap.size) : Bs (w.alloc (.cells #[.int .u8 x] 5)) (.slice (some ⟨g, 0, none⟩) 1 1) [x] :=
  Bs_of_own (own_lit1 w 0 x (Nat.zero_le _) g hg) (by simpa using hx) (by simp)
theorem own_lit2 (w : World) (base : Nat) (x y : Int) (hb : base ≤ w.heap.size) (g : Nat) (hg : g = w.heap.size) : (w.alloc (.cells #[.int .u8 x, .int .u8 y] 5)).ownsRow base 5 1 (.slice (some ⟨g, 0, none⟩) 2 2) [x, y].length ([x, y].map (Value.int .u8)) := by
  subst hg
  exact World.ownsRow_lit w #[.int .u8 x, .int .u8 y] 2 hb (by unfold maxLen; omega) rfl
theorem bs_lit2 (w : World) (x y : Int) (hx : 0 ≤ x ∧ x < 256) (hy : 0 ≤ y ∧ y < 256) (g : Nat) (hg : g = w.heap.size) : Bs (w.alloc (.cells #[.int .u8 x, .int .u8 y] 5)) (.slice (some ⟨g, 0, none⟩) 2 2) [x, y] :=
  Bs_of_own (own_lit2 w 0 x y (Nat.zero_le _) g hg) (by intro z hz; simp at hz; rcases hz with rfl | rfl <;> assumption) (by simp)
/-- The eight bytes of a number. -/
def i8 (v : Int) : List Int := lo (IntKind.u64.wrap v) 8
theorem i8_byt (v : Int) : Byt (i8 v) := fun x hx => by
  obtain ⟨k, _, rfl⟩ := List.mem_map.1 hx
  omega
theorem i8_len (v : Int) : (i8 v).length = 8 := by simp [i8, lo]
/-- The bytes of a height. -/
def htB (n : Bool) (t o r d i : Int) : List Int := if n then [0, i] else [1] ++ i8 t ++ [o, r] ++ i8 d ++ [i]
/-- It returns bytes and an error. -/
def RetB (xs : List Int) (err : Int) (w : World) (e : Ending) (w' : World) : Prop := ∃ v, e = .returned (.tuple #[v, .int .i64 err]) ∧ Bs w' v xs ∧ Below w.heap.size w w'
def htBs (n : Bool) (t o r d i : Int) : List Int := if HtOk n t o r d i then htB n t o r d i else []
theorem Cells6.old {w w' : World} {b B : Nat} {n : Bool} {t o r d i : Int} (h : Cells6 w b n t o r d i) (hb : Below B w w') (hB : b < B) : Cells6 w' b n t o r d i := by
  obtain ⟨h0, h1, h2, h3, h4, h5⟩ := h
  have k : ∀ {j : Nat} {v : Value}, w.cell? ⟨b, j, none⟩ = some v → w'.cell? ⟨b, j, none⟩ = some v := fun {j v} h => by rw [hb.cell (p := ⟨b, j, none⟩) hB]; exact h
  exact ⟨k h0, k h1, k h2, k h3, k h4, k h5⟩
theorem Cells6.allocs {w : World} {b : Nat} {n : Bool} {t o r d i : Int} (h : Cells6 w b n t o r d i) : (∀ O, (w.alloc O).cell? ⟨b, 0, none⟩ = some (.bool n)) ∧ (∀ O, (w.alloc O).cell? ⟨b, 1, none⟩ = some (.int .i64 t)) ∧ (∀ O, (w.alloc O).cell? ⟨b, 2, none⟩ = some (.int .i64 o)) ∧ (∀ O, (w.alloc O).cell? ⟨b, 3, none⟩ = some (.int .i64 r)) ∧ (∀ O, (w.alloc O).cell? ⟨b, 4, none⟩ = some (.int .i64 d)) ∧ (∀ O, (w.alloc O).cell? ⟨b, 5, none⟩ = some (.int .i64 i)) := by
  have k : ∀ O, Cells6 (w.alloc O) b n t o r d i := fun O => h.below ((Below.refl _ _).alloc (Nat.le_refl _) O)
  exact ⟨fun O => (k O).1, fun O => (k O).2.1, fun O => (k O).2.2.1, fun O => (k O).2.2.2.1, fun O => (k O).2.2.2.2.1, fun O => (k O).2.2.2.2.2⟩
set_option maxHeartbeats 4000000 in
theorem bytes_no (n : Bool) (t o r d i : Int) (w : World) (h : ¬ HtOk n t o r d i) : Calls Tryz.prog 125 #[.agg #[.bool n, .int .i64 t, .int .i64 o, .int .i64 r, .int .i64 d, .int .i64 i]] w (RetB [] 1 w) := by
  have hc := chk_no h
  clear h
  go_enter Tryz.func125, Tryz.ntmps125
  go_wp2_with (go_at_call 86; refine (check_any _ _ _ _ _ _ _).mono ?_; rintro e w' ⟨rfl, hb⟩; rw [hc]; have HB : Hid (Below w.heap.size w w') := ((Below.refl _ w).alloc (Nat.le_refl _) _).trans (hb.mono (by simp)); clear hb)
  go_ret2
  exact ⟨_, rfl, Bs_nil _, HB.out⟩
set_option maxHeartbeats 4000000 in
theorem bytes_null (t o r d i : Int) (w : World) (h : HtOk true t o r d i) : Calls Tryz.prog 125 #[.agg #[.bool true, .int .i64 t, .int .i64 o, .int .i64 r, .int .i64 d, .int .i64 i]] w (RetB [0, i] 0 w) := by
  have hc := chk_ok h
  have hi : 0 ≤ i ∧ i < 64 := h.1
  have hw : IntKind.u8.wrap i = i := by rw [IntKind.wrap_u8]; omega
  clear h
  go_enter Tryz.func125, Tryz.ntmps125
  go_wp2_with (go_at_call 86; refine (check_any _ _ _ _ _ _ _).mono ?_; rintro e w' ⟨rfl, hb⟩; rw [hc]; have ⟨c0, c1, c2, c3, c4, c5⟩ := (cells6_alloc w true t o r d i 49).below hb; have HB : Hid (Below w.heap.size w w') := ((Below.refl _ w).alloc (Nat.le_refl _) _).trans (hb.mono (by simp)); clear hb)
  go_ret2
  exact ⟨_, rfl, bs_lit2 _ _ _ (by omega) (by omega) _ rfl, HB.out.alloc HB.out.size _⟩
set_option maxHeartbeats 4000000 in
theorem bytes_row (t o r d i : Int) (w : World) (h : HtOk false t o r d i) : Calls Tryz.prog 125 #[.agg #[.bool false, .int .i64 t, .int .i64 o, .int .i64 r, .int .i64 d, .int .i64 i]] w (RetB (htB false t o r d i) 0 w) := by
  have hc := chk_ok h
  have hi : 0 ≤ i ∧ i < 64 := h.1
  have ho : RowOk t o r d := by rcases h.2 with h | h; · cases h.1
                                exact h.2
  have hoo : 0 ≤ o ∧ o < 64 := ho.2.2.1
  have hr : 0 ≤ r ∧ r < 256 := by have := ho.2.2.2.1; omega
  have hw : IntKind.u8.wrap i = i := by rw [IntKind.wrap_u8]; omega
  have hwo : IntKind.u8.wrap o = o := by rw [IntKind.wrap_u8]; omega
  have hwr : IntKind.u8.wrap r = r := by rw [IntKind.wrap_u8]; omega
  clear h ho
  have l8 := i8_len
  go_enter Tryz.func125, Tryz.ntmps125
  go_wp2_with (first
    | (go_at_call 86; refine (check_any _ _ _ _ _ _ _).mono ?_; rintro e w0 ⟨rfl, hb⟩; rw [hc]; have K0 : Hid (Cells6 w0 w.heap.size false t o r d i) := (cells6_alloc w false t o r d i 49).below hb; have ⟨c0, c1, c2, c3, c4, c5⟩ := K0.out; have ⟨a0, a1, a2, a3, a4, a5⟩ := K0.out.allocs; have HB : Hid (Below w.heap.size w w0) := ((Below.refl _ w).alloc (Nat.le_refl _) _).trans (hb.mono (by simp)); have HL : Hid (w.heap.size < w0.heap.size) := Nat.lt_of_lt_of_le (by simp) hb.size; clear hb)
    | (go_at_call 124; refine (int_any t _).mono ?_; rintro e w1 ⟨r1, rfl, hr1, hb⟩; have O1 := Lib.hid (own_below (own_lit1 w0 w0.heap.size 1 (Nat.le_refl _) _ rfl) hb); have B1 := Lib.hid (Bs_of_own O1.out (by intro z hz; simp at hz; omega) (by simp)); have R1 : Hid (Bs w1 r1 (i8 t)) := hr1; have HB1 : Hid (Below w0.heap.size w0 w1) := ((Below.refl _ w0).alloc (Nat.le_refl _) _).trans (hb.mono (by simp)); have K1 := Lib.hid (K0.out.old HB1.out HL.out); clear hb hr1)
    | (at_builtin; refine app_any rfl (.tmp 17) (.tmp 20) rfl w0.heap.size [1] (i8 t) O1.out R1.out (by simp [l8]) HB1.out.size ?_; intro v2 w2 hown2 hb2 hs2; have O2 := Lib.hid hown2; have HB2 := Lib.hid (HB1.out.trans hb2); have K2 := Lib.hid (K0.out.old HB2.out HL.out); have ⟨d0, d1, d2, d3, d4, d5⟩ := K2.out; have ⟨e0, e1, e2, e3, e4, e5⟩ := K2.out.allocs; clear hown2 hb2 hs2)
    | (at_builtin; refine app_any rfl (.tmp 22) (.tmp 29) rfl w0.heap.size ([1] ++ i8 t) [o, r] (O2.out.alloc _) (bs_lit2 w2 o r (by omega) hr _ rfl) (by simp [l8]) (Nat.le_trans HB2.out.size (by simp)) ?_; intro v3 w3 hown3 hb3 hs3; have O3 := Lib.hid hown3; have HB3 := Lib.hid ((HB2.out.alloc HB2.out.size _).trans hb3); have K3 := Lib.hid (K0.out.old HB3.out HL.out); have ⟨f0, f1, f2, f3, f4, f5⟩ := K3.out; clear hown3 hb3 hs3)
    | (go_at_call 124; refine (int_any d _).mono ?_; rintro e w4 ⟨r4, rfl, hr4, hb⟩; have O4 := Lib.hid (own_below O3.out hb); have R4 : Hid (Bs w4 r4 (i8 d)) := hr4; have HB4 := Lib.hid (HB3.out.trans (hb.mono HB3.out.size)); clear hb hr4)
    | (at_builtin; refine app_any rfl (.tmp 31) (.tmp 34) rfl w0.heap.size ([1] ++ i8 t ++ [o, r]) (i8 d) O4.out R4.out (by simp [l8]) HB4.out.size ?_; intro v5 w5 hown5 hb5 hs5; have O5 := Lib.hid hown5; have HB5 := Lib.hid (HB4.out.trans hb5); have K5 := Lib.hid (K0.out.old HB5.out HL.out); have ⟨g0, g1, g2, g3, g4, g5⟩ := K5.out; have ⟨m0, m1, m2, m3, m4, m5⟩ := K5.out.allocs; clear hown5 hb5 hs5)
    | (at_builtin; refine app_any rfl (.tmp 36) (.tmp 40) rfl w0.heap.size ([1] ++ i8 t ++ [o, r] ++ i8 d) [i] (O5.out.alloc _) (bs_lit1 w5 i (by omega) _ rfl) (by simp [l8]) (Nat.le_trans HB5.out.size (by simp)) ?_; intro v6 w6 hown6 hb6 hs6; have O6 := Lib.hid hown6; have HB6 := Lib.hid ((HB5.out.alloc HB5.out.size _).trans hb6); clear hown6 hb6 hs6))
  go_ret2
  refine ⟨_, rfl, ?_, HB.out.trans (HB6.out.mono (Nat.le_of_lt HL.out))⟩
  have e : htB false t o r d i = [1] ++ i8 t ++ [o, r] ++ i8 d ++ [i] := rfl
  rw [e]
  exact Bs_of_own O6.out (byt_app (byt_app (byt_app (byt_app (by intro z hz; simp at hz; omega) (i8_byt t)) (by intro z hz; simp at hz; rcases hz with rfl | rfl <;> omega)) (i8_byt d)) (by intro z hz; simp at hz; omega)) (by simp [l8])
theorem bytes_any (n : Bool) (t o r d i : Int) (w : World) : Calls Tryz.prog 125 #[.agg #[.bool n, .int .i64 t, .int .i64 o, .int .i64 r, .int .i64 d, .int .i64 i]] w (RetB (htBs n t o r d i) (chk n t o r d i) w) := by
  by_cases h : HtOk n t o r d i
  · rw [htBs, if_pos h, chk_ok h]
    cases n with
    | true => exact bytes_null t o r d i w h
    | false => exact bytes_row t o r d i w h
  · rw [htBs, if_neg h, chk_no h]
    exact bytes_no n t o r d i w h
def Rows (w : World) (v : Value) (xss : List (List Int)) : Prop :=
  ∃ (g : Nat) (vs : List Value), v = .slice (some ⟨g, 0, none⟩) vs.length vs.length ∧ vs.length = xss.length ∧ (∀ i, i < vs.length → w.cell? ⟨g, i, none⟩ = some (vs.getD i undef)) ∧ ∀ i, i < vs.length → Bs w (vs.getD i undef) (xss.getD i [])
theorem Rows.below {w w' : World} {v : Value} {xss : List (List Int)} (h : Rows w v xss) (hb : Below w.heap.size w w') : Rows w' v xss := by
  obtain ⟨g, vs, h1, h2, h3, h4⟩ := h
  exact ⟨g, vs, h1, h2, fun i hi => by rw [hb.cell (World.block_lt_of_cell? w _ (h3 i hi))]; exact h3 i hi, fun i hi => Bs_below (h4 i hi) hb⟩
theorem rows5 (w : World) (v0 v1 v2 v3 v4 : Value) (x0 x1 x2 x3 x4 : List Int) (T : TypeId) (g : Nat) (hg : g = w.heap.size) (h0 : Bs w v0 x0) (h1 : Bs w v1 x1) (h2 : Bs w v2 x2) (h3 : Bs w v3 x3) (h4 : Bs w v4 x4) :
    Rows (w.alloc (.cells #[v0, v1, v2, v3, v4] T)) (.slice (some ⟨g, 0, none⟩) 5 5) [x0, x1, x2, x3, x4] := by
  subst hg
  have hb := (Below.refl w.heap.size w).alloc (Nat.le_refl _) (.cells #[v0, v1, v2, v3, v4] T)
  refine ⟨w.heap.size, [v0, v1, v2, v3, v4], rfl, rfl, fun i hi => ?_, fun i hi => ?_⟩
  · have : i = 0 ∨ i = 1 ∨ i = 2 ∨ i = 3 ∨ i = 4 := by simp at hi; omega
    rcases this with rfl | rfl | rfl | rfl | rfl <;> simp
  · have : i = 0 ∨ i = 1 ∨ i = 2 ∨ i = 3 ∨ i = 4 := by simp at hi; omega
    rcases this with rfl | rfl | rfl | rfl | rfl
    · exact Bs_below h0 hb
    · exact Bs_below h1 hb
    · exact Bs_below h2 hb
    · exact Bs_below h3 hb
    · exact Bs_below h4 hb
theorem Bs_form {w : World} {v : Value} {xs : List Int} (h : Bs w v xs) : ∃ a l c, v = .slice a l c := by
  obtain ⟨_, _, ⟨a, c, h, _, _⟩ | ⟨b, o, c, h, _⟩⟩ := h
  · exact ⟨_, _, _, h⟩
  · exact ⟨_, _, _, h⟩
theorem both_rows {W w : World} {v : Value} {xss : List (List Int)} (hC : Below W.heap.size W w) (h : Rows w v xss) (tot : xss.flatten.length ≤ 1000) (h9 : xss.length ≤ 9) :
    Calls Tryz.prog 117 #[v] w fun e w' => ∃ u, e = .returned u ∧ Below W.heap.size W w' ∧ Below w.heap.size w w' ∧ Bs w' u xss.flatten := by
  obtain ⟨g, vs, rfl, h2, h3, h4⟩ := h
  exact (both_any g vs xss w h2 h3 h4 tot (by omega)).mono fun e w' ⟨r, he, ho, hx, hb⟩ => ⟨r, he, hC.trans (hb.mono hC.size), hb, Bs_of_own ho hx (by omega)⟩
set_option maxHeartbeats 4000000 in
theorem rbytes_no (n : Bool) (t o r d i : Int) (w : World) (h : ¬ HtOk n t o r d i) : Calls Tryz.prog 94 #[.agg #[.bool n, .int .i64 t, .int .i64 o, .int .i64 r, .int .i64 d, .int .i64 i]] w (RetB [] 1 w) := by
  have hc := decide_eq_false h
  clear h
  go_enter Tryz.func94, Tryz.ntmps94
  go_wp2_with (go_at_call 115; refine (rright_any _ _ _ _ _ _ _).mono ?_; rintro e w' ⟨rfl, hb⟩; rw [hc]; have HB : Hid (Below w.heap.size w w') := ((Below.refl _ w).alloc (Nat.le_refl _) _).trans (hb.mono (by simp)); clear hb)
  go_ret2
  exact ⟨_, rfl, Bs_nil _, HB.out⟩
set_option maxHeartbeats 4000000 in
theorem rbytes_null (t o r d i : Int) (w : World) (h : HtOk true t o r d i) : Calls Tryz.prog 94 #[.agg #[.bool true, .int .i64 t, .int .i64 o, .int .i64 r, .int .i64 d, .int .i64 i]] w (RetB [0, i] 0 w) := by
  have hc := decide_eq_true h
  have hi : 0 ≤ i ∧ i < 64 := h.1
  have hw : IntKind.u8.wrap i = i := by rw [IntKind.wrap_u8]; omega
  clear h
  go_enter Tryz.func94, Tryz.ntmps94
  go_wp2_with (go_at_call 115; refine (rright_any _ _ _ _ _ _ _).mono ?_; rintro e w' ⟨rfl, hb⟩; rw [hc]; have ⟨c0, c1, c2, c3, c4, c5⟩ := (cells6_alloc w true t o r d i 49).below hb; have HB : Hid (Below w.heap.size w w') := ((Below.refl _ w).alloc (Nat.le_refl _) _).trans (hb.mono (by simp)); clear hb)
  go_ret2
  exact ⟨_, rfl, bs_lit2 _ _ _ (by omega) (by omega) _ rfl, HB.out.alloc HB.out.size _⟩
set_option maxHeartbeats 4000000 in
theorem rbytes_row (t o r d i : Int) (w : World) (h : HtOk false t o r d i) (ht : -9223372036854775808 ≤ t) (ht' : t < 9223372036854775808) (hd : -9223372036854775808 ≤ d) (hd' : d < 9223372036854775808) : Calls Tryz.prog 94 #[.agg #[.bool false, .int .i64 t, .int .i64 o, .int .i64 r, .int .i64 d, .int .i64 i]] w (RetB (htB false t o r d i) 0 w) := by
  have hc := decide_eq_true h
  have hi : 0 ≤ i ∧ i < 64 := h.1
  have ho : RowOk t o r d := by rcases h.2 with h | h; · cases h.1
                                exact h.2
  have hoo : 0 ≤ o ∧ o < 64 := ho.2.2.1
  have hr : 0 ≤ r ∧ r < 256 := by have := ho.2.2.2.1; omega
  have hw : IntKind.u8.wrap i = i := by rw [IntKind.wrap_u8]; omega
  have hwo : IntKind.u8.wrap o = o := by rw [IntKind.wrap_u8]; omega
  have hwr : IntKind.u8.wrap r = r := by rw [IntKind.wrap_u8]; omega
  clear h ho
  have l8 := i8_len
  go_enter Tryz.func94, Tryz.ntmps94
  go_wp2_with (go_at_call 115; refine (rright_any _ _ _ _ _ _ _).mono ?_; rintro e W ⟨rfl, hb⟩; rw [hc]; have K := Lib.hid ((cells6_alloc w false t o r d i 49).below hb); have ⟨c0, c1, c2, c3, c4, c5⟩ := K.out; have HB : Hid (Below w.heap.size w W) := ((Below.refl _ w).alloc (Nat.le_refl _) _).trans (hb.mono (by simp)); clear hb)
  have kc : ∀ w', Below W.heap.size W w' → Cells6 w' w.heap.size false t o r d i := fun w' h => K.out.below h
  unfold Cells6 at kc
  refine wp_region_typed (C := fun w' => Below W.heap.size W w') (X := fun w w' => Below w.heap.size w w') (n := 33) (by kernel_rfl) (by kernel_rfl) rfl (fun w => Below.refl _ w) (Below.refl _ _).drew ?_
  refine w_make (fun v w => Bs w v ([1])) (fun _ _ _ h hb => Bs_below h hb) (.inl rfl) (fun ρ w hC hc hfn hf => by exact ⟨_, _, by (conv => lhs; simp [execOp, go_sem, hc]), hC.alloc hC.size _, (Below.refl _ w).alloc (Nat.le_refl _) _, bs_lit1 _ _ (by omega) _ rfl⟩) ?_
  refine w_is (fun w => Below.refl _ w) _ (.inl rfl) (fun ρ w hC hc hfn hf => by have e1 : ρ (.tmp 1) = _ := hf 1 (by decide); (conv => lhs; simp [execOp, go_sem, hc, e1])) ?_
  refine w_is (fun w => Below.refl _ w) _ (.inl rfl) (fun ρ w hC hc hfn hf => by have e14 : ρ (.tmp 14) = _ := hf 14 (by decide); (conv => lhs; simp [execOp, go_sem, hc, e14, kc w hC])) ?_
  refine w_call (fun v w => Bs w v (i8 t)) (fun _ _ _ h hb => Bs_below h hb) 95 (.inl rfl) (fun ρ w hC hc hfn hf => by have e15 : ρ (.tmp 15) = _ := hf 15 (by decide); exact ⟨_, by (conv => lhs; simp [execOp, resolve, invoke, go_sem, hc, hfn, e15]), ((rint_any t w ht ht').mono fun e w' ⟨r, he, hr, hb⟩ => ⟨_, he, hC.trans (hb.mono hC.size), hb, hr⟩)⟩) ?_
  refine w_is (fun w => Below.refl _ w) _ (.inl rfl) (fun ρ w hC hc hfn hf => by have e1 : ρ (.tmp 1) = _ := hf 1 (by decide); (conv => lhs; simp [execOp, go_sem, hc, e1])) ?_
  refine w_is (fun w => Below.refl _ w) _ (.inl rfl) (fun ρ w hC hc hfn hf => by have e17 : ρ (.tmp 17) = _ := hf 17 (by decide); (conv => lhs; simp [execOp, go_sem, hc, e17, kc w hC])) ?_
  refine w_is (fun w => Below.refl _ w) _ (.inl rfl) (fun ρ w hC hc hfn hf => by have e18 : ρ (.tmp 18) = _ := hf 18 (by decide); (conv => lhs; simp [execOp, go_sem, hc, e18, hwo])) ?_
  refine w_is (fun w => Below.refl _ w) _ (.inl rfl) (fun ρ w hC hc hfn hf => by have e1 : ρ (.tmp 1) = _ := hf 1 (by decide); (conv => lhs; simp [execOp, go_sem, hc, e1])) ?_
  refine w_is (fun w => Below.refl _ w) _ (.inl rfl) (fun ρ w hC hc hfn hf => by have e20 : ρ (.tmp 20) = _ := hf 20 (by decide); (conv => lhs; simp [execOp, go_sem, hc, e20, kc w hC])) ?_
  refine w_is (fun w => Below.refl _ w) _ (.inl rfl) (fun ρ w hC hc hfn hf => by have e21 : ρ (.tmp 21) = _ := hf 21 (by decide); (conv => lhs; simp [execOp, go_sem, hc, e21, hwr])) ?_
  refine w_make (fun v w => Bs w v ([o, r])) (fun _ _ _ h hb => Bs_below h hb) (.inl rfl) (fun ρ w hC hc hfn hf => by have e19 : ρ (.tmp 19) = _ := hf 19 (by decide); have e22 : ρ (.tmp 22) = _ := hf 22 (by decide); exact ⟨_, _, by (conv => lhs; simp [execOp, go_sem, hc, e19, e22]), hC.alloc hC.size _, (Below.refl _ w).alloc (Nat.le_refl _) _, bs_lit2 _ _ _ (by omega) (by omega) _ rfl⟩) ?_
  refine w_is (fun w => Below.refl _ w) _ (.inl rfl) (fun ρ w hC hc hfn hf => by have e1 : ρ (.tmp 1) = _ := hf 1 (by decide); (conv => lhs; simp [execOp, go_sem, hc, e1])) ?_
  refine w_is (fun w => Below.refl _ w) _ (.inl rfl) (fun ρ w hC hc hfn hf => by have e24 : ρ (.tmp 24) = _ := hf 24 (by decide); (conv => lhs; simp [execOp, go_sem, hc, e24, kc w hC])) ?_
  refine w_call (fun v w => Bs w v (i8 d)) (fun _ _ _ h hb => Bs_below h hb) 95 (.inl rfl) (fun ρ w hC hc hfn hf => by have e25 : ρ (.tmp 25) = _ := hf 25 (by decide); exact ⟨_, by (conv => lhs; simp [execOp, resolve, invoke, go_sem, hc, hfn, e25]), ((rint_any d w hd hd').mono fun e w' ⟨r, he, hr, hb⟩ => ⟨_, he, hC.trans (hb.mono hC.size), hb, hr⟩)⟩) ?_
  refine w_is (fun w => Below.refl _ w) _ (.inl rfl) (fun ρ w hC hc hfn hf => by have e1 : ρ (.tmp 1) = _ := hf 1 (by decide); (conv => lhs; simp [execOp, go_sem, hc, e1])) ?_
  refine w_is (fun w => Below.refl _ w) _ (.inl rfl) (fun ρ w hC hc hfn hf => by have e27 : ρ (.tmp 27) = _ := hf 27 (by decide); (conv => lhs; simp [execOp, go_sem, hc, e27, kc w hC])) ?_
  refine w_is (fun w => Below.refl _ w) _ (.inl rfl) (fun ρ w hC hc hfn hf => by have e28 : ρ (.tmp 28) = _ := hf 28 (by decide); (conv => lhs; simp [execOp, go_sem, hc, e28, hw])) ?_
  refine w_make (fun v w => Bs w v ([i])) (fun _ _ _ h hb => Bs_below h hb) (.inl rfl) (fun ρ w hC hc hfn hf => by have e29 : ρ (.tmp 29) = _ := hf 29 (by decide); exact ⟨_, _, by (conv => lhs; simp [execOp, go_sem, hc, e29]), hC.alloc hC.size _, (Below.refl _ w).alloc (Nat.le_refl _) _, bs_lit1 _ _ (by omega) _ rfl⟩) ?_
  refine w_make (fun v w => Rows w v [[1], i8 t, [o, r], i8 d, [i]]) (fun _ _ _ h hb => h.below hb) (.inl rfl) (fun ρ w hC hc hfn hf => by have e13 := hf 13 (by decide); have e16 := hf 16 (by decide); have e23 := hf 23 (by decide); have e26 := hf 26 (by decide); have e30 := hf 30 (by decide); obtain ⟨a13, l13, c13, q13⟩ := Bs_form e13; obtain ⟨a16, l16, c16, q16⟩ := Bs_form e16; obtain ⟨a23, l23, c23, q23⟩ := Bs_form e23; obtain ⟨a26, l26, c26, q26⟩ := Bs_form e26; obtain ⟨a30, l30, c30, q30⟩ := Bs_form e30; exact ⟨_, _, by (conv => lhs; simp [execOp, go_sem, hc, q13, q16, q23, q26, q30]), hC.alloc hC.size _, (Below.refl _ w).alloc (Nat.le_refl _) _, rows5 _ _ _ _ _ _ _ _ _ _ _ _ _ rfl (by rw [← q13]; exact e13) (by rw [← q16]; exact e16) (by rw [← q23]; exact e23) (by rw [← q26]; exact e26) (by rw [← q30]; exact e30)⟩) ?_
  refine w_call (fun v w => Bs w v ([[1], i8 t, [o, r], i8 d, [i]].flatten)) (fun _ _ _ h hb => Bs_below h hb) 117 (.inl rfl) (fun ρ w hC hc hfn hf => by have e31 := hf 31 (by decide); exact ⟨_, by (conv => lhs; simp [execOp, resolve, invoke, go_sem, hc, hfn]), both_rows hC e31 (by simp [l8]) (by simp)⟩) ?_
  refine w_copyT (fun w => Below.refl _ w) (fun v w => Bs w v ([[1], i8 t, [o, r], i8 d, [i]].flatten)) (fun _ _ _ h hb => Bs_below h hb) 32 (.inr rfl) (.inl rfl) rfl (by decide) ?_
  refine w_is (fun w => Below.refl _ w) _ (.inl rfl) (fun ρ w hC hc hfn hf => by (conv => lhs; simp [execOp, go_sem, hc])) ?_
  intro A W4 hC hn hd hf
  have y0 : A.eval (.tmp 0) = _ := Eq.trans (hf 0) (by conv => lhs; simp [go_sem])
  have y1 : A.eval (.tmp 1) = _ := Eq.trans (hf 1) (by conv => lhs; simp [go_sem])
  have y2 := hf 2
  have y3 : A.eval (.tmp 3) = _ := hf 3
  have y4 : A.eval (.tmp 4) = _ := Eq.trans (hf 4) (by conv => lhs; simp [go_sem])
  have y5 : A.eval (.tmp 5) = _ := Eq.trans (hf 5) (by conv => lhs; simp [go_sem])
  have y6 : A.eval (.tmp 6) = _ := Eq.trans (hf 6) (by conv => lhs; simp [go_sem])
  have y7 : A.eval (.tmp 7) = _ := Eq.trans (hf 7) (by conv => lhs; simp [go_sem])
  have y8 : A.eval (.tmp 8) = _ := Eq.trans (hf 8) (by conv => lhs; simp [go_sem])
  have y9 : A.eval (.tmp 9) = _ := Eq.trans (hf 9) (by conv => lhs; simp [go_sem])
  have y10 : A.eval (.tmp 10) = _ := Eq.trans (hf 10) (by conv => lhs; simp [go_sem])
  have y11 : A.eval (.tmp 11) = _ := Eq.trans (hf 11) (by conv => lhs; simp [go_sem])
  have y12 : A.eval (.tmp 12) = _ := Eq.trans (hf 12) (by conv => lhs; simp [go_sem])
  have y13 := hf 13
  have y14 : A.eval (.tmp 14) = _ := hf 14
  have y15 : A.eval (.tmp 15) = _ := hf 15
  have y16 := hf 16
  have y17 : A.eval (.tmp 17) = _ := hf 17
  have y18 : A.eval (.tmp 18) = _ := hf 18
  have y19 : A.eval (.tmp 19) = _ := hf 19
  have y20 : A.eval (.tmp 20) = _ := hf 20
  have y21 : A.eval (.tmp 21) = _ := hf 21
  have y22 : A.eval (.tmp 22) = _ := hf 22
  have y23 := hf 23
  have y24 : A.eval (.tmp 24) = _ := hf 24
  have y25 : A.eval (.tmp 25) = _ := hf 25
  have y26 := hf 26
  have y27 : A.eval (.tmp 27) = _ := hf 27
  have y28 : A.eval (.tmp 28) = _ := hf 28
  have y29 : A.eval (.tmp 29) = _ := hf 29
  have y30 := hf 30
  have y31 := hf 31
  have y32 := hf 32
  clear hf
  have hA := frame_eq hn
  rw [show List.range 33 = [0, 1, 2, 3, 4, 5, 6, 7, 8, 9, 10, 11, 12, 13, 14, 15, 16, 17, 18, 19, 20, 21, 22, 23, 24, 25, 26, 27, 28, 29, 30, 31, 32] from rfl, hd] at hA
  simp only [List.map_cons, List.map_nil, y0, y1, y3, y4, y5, y6, y7, y8, y9, y10, y11, y12, y14, y15, y17, y18, y19, y20, y21, y22, y24, y25, y27, y28, y29] at hA
  change (fun v w => Bs w v ([[1], i8 t, [o, r], i8 d, [i]].flatten)) (A.eval (.tmp 2)) W4 at y2
  change (fun v w => Bs w v ([1])) (A.eval (.tmp 13)) W4 at y13
  change (fun v w => Bs w v (i8 t)) (A.eval (.tmp 16)) W4 at y16
  change (fun v w => Bs w v ([o, r])) (A.eval (.tmp 23)) W4 at y23
  change (fun v w => Bs w v (i8 d)) (A.eval (.tmp 26)) W4 at y26
  change (fun v w => Bs w v ([i])) (A.eval (.tmp 30)) W4 at y30
  change (fun v w => Rows w v [[1], i8 t, [o, r], i8 d, [i]]) (A.eval (.tmp 31)) W4 at y31
  change (fun v w => Bs w v ([[1], i8 t, [o, r], i8 d, [i]].flatten)) (A.eval (.tmp 32)) W4 at y32
  clear y0 y1 y3 y4 y5 y6 y7 y8 y9 y10 y11 y12 y14 y15 y17 y18 y19 y20 y21 y22 y24 y25 y27 y28 y29
  generalize A.eval (.tmp 2) = v2 at *
  generalize A.eval (.tmp 13) = v13 at *
  generalize A.eval (.tmp 16) = v16 at *
  generalize A.eval (.tmp 23) = v23 at *
  generalize A.eval (.tmp 26) = v26 at *
  generalize A.eval (.tmp 30) = v30 at *
  generalize A.eval (.tmp 31) = v31 at *
  generalize A.eval (.tmp 32) = v32 at *
  clear hn hd
  subst hA
  go_wp2_with fail
  go_ret2
  refine ⟨_, rfl, ?_, HB.out.trans (hC.mono HB.out.size)⟩
  have e : htB false t o r d i = [[1], i8 t, [o, r], i8 d, [i]].flatten := by simp [htB]
  rw [e]
  assumption
theorem rbytes_any (n : Bool) (t o r d i : Int) (w : World) (ht : -9223372036854775808 ≤ t) (ht' : t < 9223372036854775808) (hd : -9223372036854775808 ≤ d) (hd' : d < 9223372036854775808) : Calls Tryz.prog 94 #[.agg #[.bool n, .int .i64 t, .int .i64 o, .int .i64 r, .int .i64 d, .int .i64 i]] w (RetB (htBs n t o r d i) (chk n t o r d i) w) := by
  by_cases h : HtOk n t o r d i
  · rw [htBs, if_pos h, chk_ok h]
    cases n with
    | true => exact rbytes_null t o r d i w h
    | false => exact rbytes_row t o r d i w h ht ht' hd hd'
  · rw [htBs, if_neg h, chk_no h]
    exact rbytes_no n t o r d i w h
end Go.Proofs.YtfiaghfaijlfjaaGreat

