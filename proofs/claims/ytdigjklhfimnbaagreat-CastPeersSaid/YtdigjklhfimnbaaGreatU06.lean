/- Texts Byt of this proof, in one. No conditions but on lengths. -/
import Derived.Test.YtdigjklhfimnbaaGreatRows
import Derived.Test.YtdigjklhfimnbaaGreatU03
import Derived.Test.YtdigjklhfimnbaaGreatU05
import Derived.Below
import Derived.BigQuiet
import Derived.Calls
import Derived.ChangeOld
import Derived.Deep.QuietTactic
import Derived.Laws.AppendOwnNone
import Derived.Laws.BytesArg
import Derived.Laws.StructEq
import Derived.Lib.Hide
import Derived.Lib.QuietBelow
import Derived.LoopTactic
import Derived.OpenShut
import Derived.Orders
import Derived.Outline
import Derived.ProofKit
import Derived.ShutString
import Derived.WalkKit
import Derived.WalkSpells
namespace Go.Proofs.YtdigjklhfimnbaaGreat
set_option maxRecDepth 100000
open Go.RowKit

theorem own_below {w w' : World} {base size n : Nat} {e : TypeId} {v : Value} {xs : List Value} (h : w.ownsRow base e size v n xs) (hb : Below w.heap.size w w') : w'.ownsRow base e size v n xs := by
  obtain ⟨h1, h2 | ⟨g, cap, cur, h2, h3, h4, h5⟩⟩ := h
  · exact ⟨h1, .inl h2⟩
  · refine ⟨h1, .inr ⟨g, cap, cur, h2, h3, ?_, h5⟩⟩
    rw [hb.block g (Array.getElem?_eq_some_iff.1 h4).1]; exact h4
def Byt (xs : List Int) : Prop := ∀ x ∈ xs, 0 ≤ x ∧ x < 256
theorem byt_app {xs ys : List Int} (h : Byt xs) (h' : Byt ys) : Byt (xs ++ ys) := fun x hx => by
  rcases List.mem_append.1 hx with hx | hx
  · exact h x hx
  · exact h' x hx
/-- append of bytes to a row of the call's own. -/
theorem app_any {ops : Array Oper} {rest : List Oper} {o : Oper} {a : Act} {Q : Exit → Act → World → Prop} {w : World} (hgd : o.guard = none) (s x : Operand)
    (ho : o.op = .call { callee := .builtin .append, args := #[s, x], argTypes := #[107, 107] }) (base : Nat) (xs ys : List Int)
    (hown : w.ownsRow base 5 1 (a.eval s) xs.length (xs.map (Value.int .u8))) (hx : Bs w (a.eval x) ys) (h63 : xs.length + ys.length ≤ 1000) (hbase : base ≤ w.heap.size)
    (h : ∀ v' w', w'.ownsRow base 5 1 v' (xs ++ ys).length ((xs ++ ys).map (Value.int .u8)) → Below base w w' → w.heap.size ≤ w'.heap.size → wpList Tryz.prog ops Q rest (a.put o.dst v') w') : wpList Tryz.prog ops Q (o :: rest) a w := by
  obtain ⟨i0, hi, hz0, hz1, hz2⟩ := info_parts Tryz.info5
  obtain ⟨_, _, ⟨ad, cap, hv, hz, rfl⟩ | ⟨b, off, cap, hv, hcap, hcs⟩⟩ := hx
  · cases ad with
    | none =>
      obtain rfl : cap = 0 := hz rfl
      refine wpList_append_own_none hgd s x 107 ho base 5 i0 1 Tryz.underlying107 hi _ _ _ rfl hown hv ?_
      rw [List.append_nil] at h
      exact h _ _ hown (Below.refl _ _) (Nat.le_refl _)
    | some ad =>
      refine wpList_append_own w hgd s x 107 ho base 5 i0 (.int .u8 0) 1 1 Tryz.underlying107 hi hz0 hz1 hz2 rfl (by decide) _ _ _ rfl hown ad 0 cap [] hv (by simp) (by simp) (by simp) (by unfold maxLen; omega) (by omega) hbase fun v' w1 hown1 hgrow _ => ?_
      refine h v' w1 (by simpa using hown1) ((Below.refl _ w).grown hgrow hbase (fun k hk => (hown.lt k hk).1)) hgrow.size
  · refine wpList_append_own w hgd s x 107 ho base 5 i0 (.int .u8 0) 1 1 Tryz.underlying107 hi hz0 hz1 hz2 rfl (by decide) _ _ _ rfl hown ⟨b, off, none⟩ ys.length cap (ys.map (Value.int .u8)) hv (by simp) (news_of hcs) (ones ys) (by unfold maxLen; omega) (by omega) hbase fun v' w1 hown1 hgrow _ => ?_
    refine h v' w1 ?_ ((Below.refl _ w).grown hgrow hbase (fun k hk => (hown.lt k hk).1)) hgrow.size
    rw [List.length_append, List.map_append]; exact hown1
theorem own_lit1 (w : World) (base : Nat) (x : Int) (hb : base ≤ w.heap.size) (g : Nat) (hg : g = w.heap.size) : (w.alloc (.cells #[.int .u8 x] 5)).ownsRow base 5 1 (.slice (some ⟨g, 0, none⟩) 1 1) [x].length ([x].map (Value.int .u8)) := by
  subst hg
  exact World.ownsRow_lit w #[.int .u8 x] 1 hb (by unfold maxLen; omega) rfl
theorem bs_lit1 (w : World) (x : Int) (hx : 0 ≤ x ∧ x < 256) (g : Nat) (hg : g = w.heap.size) : Bs (w.alloc (.cells #[.int .u8 x] 5)) (.slice (some ⟨g, 0, none⟩) 1 1) [x] :=
  Bs_of_own (own_lit1 w 0 x (Nat.zero_le _) g hg) (by simpa using hx) (by simp)
theorem own_lit2 (w : World) (base : Nat) (x y : Int) (hb : base ≤ w.heap.size) (g : Nat) (hg : g = w.heap.size) : (w.alloc (.cells #[.int .u8 x, .int .u8 y] 5)).ownsRow base 5 1 (.slice (some ⟨g, 0, none⟩) 2 2) [x, y].length ([x, y].map (Value.int .u8)) := by
  subst hg
  exact World.ownsRow_lit w #[.int .u8 x, .int .u8 y] 2 hb (by unfold maxLen; omega) rfl
theorem bs_lit2 (w : World) (x y : Int) (hx : 0 ≤ x ∧ x < 256) (hy : 0 ≤ y ∧ y < 256) (g : Nat) (hg : g = w.heap.size) : Bs (w.alloc (.cells #[.int .u8 x, .int .u8 y] 5)) (.slice (some ⟨g, 0, none⟩) 2 2) [x, y] :=
  Bs_of_own (own_lit2 w 0 x y (Nat.zero_le _) g hg) (by intro z hz; simp at hz; rcases hz with rfl | rfl <;> assumption) (by simp)
/-- The eight bytes of a number. -/
def i8 (v : Int) : List Int := lo (IntKind.u64.wrap v) 8
theorem i8_byt (v : Int) : Byt (i8 v) := fun x hx => by
  obtain ⟨k, _, rfl⟩ := List.mem_map.1 hx
  omega
theorem i8_len (v : Int) : (i8 v).length = 8 := by simp [i8, lo]
/-- The bytes of a height. -/
def htB (n : Bool) (t o r d i : Int) : List Int := if n then [0, i] else [1] ++ i8 t ++ [o, r] ++ i8 d ++ [i]
/-- It returns bytes and an error. -/
def RetB (xs : List Int) (err : Int) (w : World) (e : Ending) (w' : World) : Prop := ∃ v, e = .returned (.tuple #[v, .int .i64 err]) ∧ Bs w' v xs ∧ Below w.heap.size w w'
def htBs (n : Bool) (t o r d i : Int) : List Int := if HtOk n t o r d i then htB n t o r d i else []
theorem Cells6.old {w w' : World} {b B : Nat} {n : Bool} {t o r d i : Int} (h : Cells6 w b n t o r d i) (hb : Below B w w') (hB : b < B) : Cells6 w' b n t o r d i := by
  obtain ⟨h0, h1, h2, h3, h4, h5⟩ := h
  have k : ∀ {j : Nat} {v : Value}, w.cell? ⟨b, j, none⟩ = some v → w'.cell? ⟨b, j, none⟩ = some v := fun {j v} h => by rw [hb.cell (p := ⟨b, j, none⟩) hB]; exact h
  exact ⟨k h0, k h1, k h2, k h3, k h4, k h5⟩
theorem Cells6.allocs {w : World} {b : Nat} {n : Bool} {t o r d i : Int} (h : Cells6 w b n t o r d i) : (∀ O, (w.alloc O).cell? ⟨b, 0, none⟩ = some (.bool n)) ∧ (∀ O, (w.alloc O).cell? ⟨b, 1, none⟩ = some (.int .i64 t)) ∧ (∀ O, (w.alloc O).cell? ⟨b, 2, none⟩ = some (.int .i64 o)) ∧ (∀ O, (w.alloc O).cell? ⟨b, 3, none⟩ = some (.int .i64 r)) ∧ (∀ O, (w.alloc O).cell? ⟨b, 4, none⟩ = some (.int .i64 d)) ∧ (∀ O, (w.alloc O).cell? ⟨b, 5, none⟩ = some (.int .i64 i)) := by
  have k : ∀ O, Cells6 (w.alloc O) b n t o r d i := fun O => h.below ((Below.refl _ _).alloc (Nat.le_refl _) O)
  exact ⟨fun O => (k O).1, fun O => (k O).2.1, fun O => (k O).2.2.1, fun O => (k O).2.2.2.1, fun O => (k O).2.2.2.2.1, fun O => (k O).2.2.2.2.2⟩
set_option maxHeartbeats 4000000 in
theorem bytes_no (n : Bool) (t o r d i : Int) (w : World) (h : ¬ HtOk n t o r d i) : Calls Tryz.prog 243 #[.agg #[.bool n, .int .i64 t, .int .i64 o, .int .i64 r, .int .i64 d, .int .i64 i]] w (RetB [] 1 w) := by
  have hc := chk_no h
  clear h
  go_enter Tryz.func243, Tryz.ntmps243
  go_wp2_with (go_at_call 146; refine (check_any _ _ _ _ _ _ _).mono ?_; rintro e w' ⟨rfl, hb⟩; rw [hc]; have HB : Hid (Below w.heap.size w w') := ((Below.refl _ w).alloc (Nat.le_refl _) _).trans (hb.mono (by simp)); clear hb)
  go_ret2
  exact ⟨_, rfl, Bs_nil _, HB.out⟩
set_option maxHeartbeats 4000000 in
theorem bytes_null (t o r d i : Int) (w : World) (h : HtOk true t o r d i) : Calls Tryz.prog 243 #[.agg #[.bool true, .int .i64 t, .int .i64 o, .int .i64 r, .int .i64 d, .int .i64 i]] w (RetB [0, i] 0 w) := by
  have hc := chk_ok h
  have hi : 0 ≤ i ∧ i < 64 := h.1
  have hw : IntKind.u8.wrap i = i := by rw [IntKind.wrap_u8]; omega
  clear h
  go_enter Tryz.func243, Tryz.ntmps243
  go_wp2_with (go_at_call 146; refine (check_any _ _ _ _ _ _ _).mono ?_; rintro e w' ⟨rfl, hb⟩; rw [hc]; have ⟨c0, c1, c2, c3, c4, c5⟩ := (cells6_alloc w true t o r d i 37).below hb; have HB : Hid (Below w.heap.size w w') := ((Below.refl _ w).alloc (Nat.le_refl _) _).trans (hb.mono (by simp)); clear hb)
  go_ret2
  exact ⟨_, rfl, bs_lit2 _ _ _ (by omega) (by omega) _ rfl, HB.out.alloc HB.out.size _⟩
set_option maxHeartbeats 4000000 in
theorem bytes_row (t o r d i : Int) (w : World) (h : HtOk false t o r d i) : Calls Tryz.prog 243 #[.agg #[.bool false, .int .i64 t, .int .i64 o, .int .i64 r, .int .i64 d, .int .i64 i]] w (RetB (htB false t o r d i) 0 w) := by
  have hc := chk_ok h
  have hi : 0 ≤ i ∧ i < 64 := h.1
  have ho : RowOk t o r d := by rcases h.2 with h | h; · cases h.1
                                exact h.2
  have hoo : 0 ≤ o ∧ o < 64 := ho.2.2.1
  have hr : 0 ≤ r ∧ r < 256 := by have := ho.2.2.2.1; omega
  have hw : IntKind.u8.wrap i = i := by rw [IntKind.wrap_u8]; omega
  have hwo : IntKind.u8.wrap o = o := by rw [IntKind.wrap_u8]; omega
  have hwr : IntKind.u8.wrap r = r := by rw [IntKind.wrap_u8]; omega
  clear h ho
  have l8 := i8_len
  go_enter Tryz.func243, Tryz.ntmps243
  go_wp2_with (first
    | (go_at_call 146; refine (check_any _ _ _ _ _ _ _).mono ?_; rintro e w0 ⟨rfl, hb⟩; rw [hc]; have K0 : Hid (Cells6 w0 w.heap.size false t o r d i) := (cells6_alloc w false t o r d i 37).below hb; have ⟨c0, c1, c2, c3, c4, c5⟩ := K0.out; have ⟨a0, a1, a2, a3, a4, a5⟩ := K0.out.allocs; have HB : Hid (Below w.heap.size w w0) := ((Below.refl _ w).alloc (Nat.le_refl _) _).trans (hb.mono (by simp)); have HL : Hid (w.heap.size < w0.heap.size) := Nat.lt_of_lt_of_le (by simp) hb.size; clear hb)
    | (go_at_call 242; refine (int_any t _).mono ?_; rintro e w1 ⟨r1, rfl, hr1, hb⟩; have O1 := Lib.hid (own_below (own_lit1 w0 w0.heap.size 1 (Nat.le_refl _) _ rfl) hb); have B1 := Lib.hid (Bs_of_own O1.out (by intro z hz; simp at hz; omega) (by simp)); have R1 : Hid (Bs w1 r1 (i8 t)) := hr1; have HB1 : Hid (Below w0.heap.size w0 w1) := ((Below.refl _ w0).alloc (Nat.le_refl _) _).trans (hb.mono (by simp)); have K1 := Lib.hid (K0.out.old HB1.out HL.out); clear hb hr1)
    | (at_builtin; refine app_any rfl (.tmp 17) (.tmp 20) rfl w0.heap.size [1] (i8 t) O1.out R1.out (by simp [l8]) HB1.out.size ?_; intro v2 w2 hown2 hb2 hs2; have O2 := Lib.hid hown2; have HB2 := Lib.hid (HB1.out.trans hb2); have K2 := Lib.hid (K0.out.old HB2.out HL.out); have ⟨d0, d1, d2, d3, d4, d5⟩ := K2.out; have ⟨e0, e1, e2, e3, e4, e5⟩ := K2.out.allocs; clear hown2 hb2 hs2)
    | (at_builtin; refine app_any rfl (.tmp 22) (.tmp 29) rfl w0.heap.size ([1] ++ i8 t) [o, r] (O2.out.alloc _) (bs_lit2 w2 o r (by omega) hr _ rfl) (by simp [l8]) (Nat.le_trans HB2.out.size (by simp)) ?_; intro v3 w3 hown3 hb3 hs3; have O3 := Lib.hid hown3; have HB3 := Lib.hid ((HB2.out.alloc HB2.out.size _).trans hb3); have K3 := Lib.hid (K0.out.old HB3.out HL.out); have ⟨f0, f1, f2, f3, f4, f5⟩ := K3.out; clear hown3 hb3 hs3)
    | (go_at_call 242; refine (int_any d _).mono ?_; rintro e w4 ⟨r4, rfl, hr4, hb⟩; have O4 := Lib.hid (own_below O3.out hb); have R4 : Hid (Bs w4 r4 (i8 d)) := hr4; have HB4 := Lib.hid (HB3.out.trans (hb.mono HB3.out.size)); clear hb hr4)
    | (at_builtin; refine app_any rfl (.tmp 31) (.tmp 34) rfl w0.heap.size ([1] ++ i8 t ++ [o, r]) (i8 d) O4.out R4.out (by simp [l8]) HB4.out.size ?_; intro v5 w5 hown5 hb5 hs5; have O5 := Lib.hid hown5; have HB5 := Lib.hid (HB4.out.trans hb5); have K5 := Lib.hid (K0.out.old HB5.out HL.out); have ⟨g0, g1, g2, g3, g4, g5⟩ := K5.out; have ⟨m0, m1, m2, m3, m4, m5⟩ := K5.out.allocs; clear hown5 hb5 hs5)
    | (at_builtin; refine app_any rfl (.tmp 36) (.tmp 40) rfl w0.heap.size ([1] ++ i8 t ++ [o, r] ++ i8 d) [i] (O5.out.alloc _) (bs_lit1 w5 i (by omega) _ rfl) (by simp [l8]) (Nat.le_trans HB5.out.size (by simp)) ?_; intro v6 w6 hown6 hb6 hs6; have O6 := Lib.hid hown6; have HB6 := Lib.hid ((HB5.out.alloc HB5.out.size _).trans hb6); clear hown6 hb6 hs6))
  go_ret2
  refine ⟨_, rfl, ?_, HB.out.trans (HB6.out.mono (Nat.le_of_lt HL.out))⟩
  have e : htB false t o r d i = [1] ++ i8 t ++ [o, r] ++ i8 d ++ [i] := rfl
  rw [e]
  exact Bs_of_own O6.out (byt_app (byt_app (byt_app (byt_app (by intro z hz; simp at hz; omega) (i8_byt t)) (by intro z hz; simp at hz; rcases hz with rfl | rfl <;> omega)) (i8_byt d)) (by intro z hz; simp at hz; omega)) (by simp [l8])
theorem bytes_any (n : Bool) (t o r d i : Int) (w : World) : Calls Tryz.prog 243 #[.agg #[.bool n, .int .i64 t, .int .i64 o, .int .i64 r, .int .i64 d, .int .i64 i]] w (RetB (htBs n t o r d i) (chk n t o r d i) w) := by
  by_cases h : HtOk n t o r d i
  · rw [htBs, if_pos h, chk_ok h]
    cases n with
    | true => exact bytes_null t o r d i w h
    | false => exact bytes_row t o r d i w h
  · rw [htBs, if_neg h, chk_no h]
    exact bytes_no n t o r d i w h
def Rows (w : World) (v : Value) (xss : List (List Int)) : Prop :=
  ∃ (g : Nat) (vs : List Value), v = .slice (some ⟨g, 0, none⟩) vs.length vs.length ∧ vs.length = xss.length ∧ (∀ i, i < vs.length → w.cell? ⟨g, i, none⟩ = some (vs.getD i undef)) ∧ ∀ i, i < vs.length → Bs w (vs.getD i undef) (xss.getD i [])
theorem Rows.below {w w' : World} {v : Value} {xss : List (List Int)} (h : Rows w v xss) (hb : Below w.heap.size w w') : Rows w' v xss := by
  obtain ⟨g, vs, h1, h2, h3, h4⟩ := h
  exact ⟨g, vs, h1, h2, fun i hi => by rw [hb.cell (World.block_lt_of_cell? w _ (h3 i hi))]; exact h3 i hi, fun i hi => Bs_below (h4 i hi) hb⟩
end Go.Proofs.YtdigjklhfimnbaaGreat
