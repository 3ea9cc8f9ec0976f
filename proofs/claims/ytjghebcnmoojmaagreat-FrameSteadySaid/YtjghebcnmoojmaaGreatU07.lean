/- A height as bytes. No conditions. Objects as arguments: what their values are. No conditions. Two objects: whether they are alike. No conditions. Packets: as arguments, in memory, '=='. No conditions. A packet's bytes: the reference's Bytes; a string as bytes. No conditions but on lengths. A packet out of bytes, as the document says it. No conditions. Mathematics of packets' bytes: what has bytes is parsed as itself; what is parsed has these bytes; no packet's bytes begin another one's. No conditions beyond those of the theorems. A packet out of bytes: the reference's Parse. No conditions. One form for each answer; what the program's functions answer, as a hypothesis; the document's example. No conditions but on lengths. -/
import Derived.Test.YtjghebcnmoojmaaGreatU05
import Derived.Test.YtjghebcnmoojmaaGreatU06
import Derived.Laws.StructEq
import Derived.ChangeKeysEq
import Derived.Lib.ConvBytes
namespace Go.Proofs.YtjghebcnmoojmaaGreat
set_option maxRecDepth 100000
open Go.RowKit Go.Sort

theorem own_below {w w' : World} {base size n : Nat} {e : TypeId} {v : Value} {xs : List Value} (h : w.ownsRow base e size v n xs) (hb : Below w.heap.size w w') : w'.ownsRow base e size v n xs := by
 obtain ⟨h1, h2 | ⟨g, cap, cur, h2, h3, h4, h5⟩⟩ := h
 ·exact ⟨h1, .inl h2⟩
 ·refine ⟨h1, .inr ⟨g, cap, cur, h2, h3, ?_, h5⟩⟩
  rw [hb.block g (Array.getElem?_eq_some_iff.1 h4).1]; exact h4
def Byt (xs : List Int) : Prop := ∀ x ∈ xs, 0 ≤ x ∧ x < 256
theorem byt_app {xs ys : List Int} (h : Byt xs) (h' : Byt ys) : Byt (xs ++ ys) := fun x hx => by
 rcases List.mem_append.1 hx with hx | hx
 ·exact h x hx
 ·exact h' x hx
theorem app_any {ops : Array Oper} {rest : List Oper} {o : Oper} {a : Act} {Q : Exit → Act → World → Prop} {w : World} (hgd : o.guard = none) (s x : Operand)
  (ho : o.op = .call { callee := .builtin .append, args := #[s, x], argTypes := #[26, 26] }) (base : Nat) (xs ys : List Int)
  (hown : w.ownsRow base 5 1 (a.eval s) xs.length (xs.map (Value.int .u8))) (hx : Bs w (a.eval x) ys) (h63 : xs.length + ys.length ≤ 1000) (hbase : base ≤ w.heap.size)
  (h : ∀ v' w', w'.ownsRow base 5 1 v' (xs ++ ys).length ((xs ++ ys).map (Value.int .u8)) → Below base w w' → w.heap.size ≤ w'.heap.size → wpList Tryz.prog ops Q rest (a.put o.dst v') w') : wpList Tryz.prog ops Q (o :: rest) a w := by
 obtain ⟨i0, hi, hz0, hz1, hz2⟩ := info_parts Tryz.info5
 obtain ⟨_, _, ⟨ad, cap, hv, hz, rfl⟩ | ⟨b, off, cap, hv, hcap, hcs⟩⟩ := hx
 ·cases ad with
  | none =>
   obtain rfl : cap = 0 := hz rfl
   refine wpList_append_own_none hgd s x 26 ho base 5 i0 1 Tryz.underlying26 hi _ _ _ rfl hown hv ?_
   rw [List.append_nil] at h
   exact h _ _ hown (Below.refl _ _) (Nat.le_refl _)
  | some ad =>
   refine wpList_append_own w hgd s x 26 ho base 5 i0 (.int .u8 0) 1 1 Tryz.underlying26 hi hz0 hz1 hz2 rfl (by decide) _ _ _ rfl hown ad 0 cap [] hv (by simp) (by simp) (by simp) (by unfold maxLen; omega) (by omega) hbase fun v' w1 hown1 hgrow _ => ?_
   refine h v' w1 (by simpa using hown1) ((Below.refl _ w).grown hgrow hbase (fun k hk => (hown.lt k hk).1)) hgrow.size
 ·refine wpList_append_own w hgd s x 26 ho base 5 i0 (.int .u8 0) 1 1 Tryz.underlying26 hi hz0 hz1 hz2 rfl (by decide) _ _ _ rfl hown ⟨b, off, none⟩ ys.length cap (ys.map (Value.int .u8)) hv (by simp) (news_of hcs) (ones ys) (by unfold maxLen; omega) (by omega) hbase fun v' w1 hown1 hgrow _ => ?_
  refine h v' w1 ?_ ((Below.refl _ w).grown hgrow hbase (fun k hk => (hown.lt k hk).1)) hgrow.size
  rw [List.length_append, List.map_append]; exact hown1
theorem own_lit1 (w : World) (base : Nat) (x : Int) (hb : base ≤ w.heap.size) (g : Nat) (hg : g = w.heap.size) : (w.alloc (.cells #[.int .u8 x] 5)).ownsRow base 5 1 (.slice (some ⟨g, 0, none⟩) 1 1) [x].length ([x].map (Value.int .u8)) := by
 subst hg
 exact World.ownsRow_lit w #[.int .u8 x] 1 hb (by unfold maxLen; omega) rfl
theorem bs_lit1 (w : World) (x : Int) (hx : 0 ≤ x ∧ x < 256) (g : Nat) (hg : g = w.heap.size) : Bs (w.alloc (.cells #[.int .u8 x] 5)) (.slice (some ⟨g, 0, none⟩) 1 1) [x] :=
 Bs_of_own (own_lit1 w 0 x (Nat.zero_le _) g hg) (by simpa using hx) (by simp)
theorem own_lit2 (w : World) (base : Nat) (x y : Int) (hb : base ≤ w.heap.size) (g : Nat) (hg : g = w.heap.size) : (w.alloc (.cells #[.int .u8 x, .int .u8 y] 5)).ownsRow base 5 1 (.slice (some ⟨g, 0, none⟩) 2 2) [x, y].length ([x, y].map (Value.int .u8)) := by
 subst hg
 exact World.ownsRow_lit w #[.int .u8 x, .int .u8 y] 2 hb (by unfold maxLen; omega) rfl
theorem bs_lit2 (w : World) (x y : Int) (hx : 0 ≤ x ∧ x < 256) (hy : 0 ≤ y ∧ y < 256) (g : Nat) (hg : g = w.heap.size) : Bs (w.alloc (.cells #[.int .u8 x, .int .u8 y] 5)) (.slice (some ⟨g, 0, none⟩) 2 2) [x, y] :=
 Bs_of_own (own_lit2 w 0 x y (Nat.zero_le _) g hg) (by intro z hz; simp at hz; rcases hz with rfl | rfl <;> assumption) (by simp)
def i8 (v : Int) : List Int := lo (IntKind.u64.wrap v) 8
theorem i8_byt (v : Int) : Byt (i8 v) := fun x hx => by
 obtain ⟨k, _, rfl⟩ := List.mem_map.1 hx
 omega
theorem i8_len (v : Int) : (i8 v).length = 8 := by simp [i8, lo]
def htB (n : Bool) (t o r d i : Int) : List Int := if n then [0, i] else [1] ++ i8 t ++ [o, r] ++ i8 d ++ [i]
def RetB (xs : List Int) (err : Int) (w : World) (e : Ending) (w' : World) : Prop := ∃ v, e = .returned (.tuple #[v, .int .i64 err]) ∧ Bs w' v xs ∧ Below w.heap.size w w'
def htBs (n : Bool) (t o r d i : Int) : List Int := if HtOk n t o r d i then htB n t o r d i else []
theorem Cells6.old {w w' : World} {b B : Nat} {n : Bool} {t o r d i : Int} (h : Cells6 w b n t o r d i) (hb : Below B w w') (hB : b < B) : Cells6 w' b n t o r d i := by
 obtain ⟨h0, h1, h2, h3, h4, h5⟩ := h
 have k : ∀ {j : Nat} {v : Value}, w.cell? ⟨b, j, none⟩ = some v → w'.cell? ⟨b, j, none⟩ = some v := fun {j v} h => by rw [hb.cell (p := ⟨b, j, none⟩) hB]; exact h
 exact ⟨k h0, k h1, k h2, k h3, k h4, k h5⟩
theorem Cells6.allocs {w : World} {b : Nat} {n : Bool} {t o r d i : Int} (h : Cells6 w b n t o r d i) : (∀ O, (w.alloc O).cell? ⟨b, 0, none⟩ = some (.bool n)) ∧ (∀ O, (w.alloc O).cell? ⟨b, 1, none⟩ = some (.int .i64 t)) ∧ (∀ O, (w.alloc O).cell? ⟨b, 2, none⟩ = some (.int .i64 o)) ∧ (∀ O, (w.alloc O).cell? ⟨b, 3, none⟩ = some (.int .i64 r)) ∧ (∀ O, (w.alloc O).cell? ⟨b, 4, none⟩ = some (.int .i64 d)) ∧ (∀ O, (w.alloc O).cell? ⟨b, 5, none⟩ = some (.int .i64 i)) := by
 have k : ∀ O, Cells6 (w.alloc O) b n t o r d i := fun O => h.below ((Below.refl _ _).alloc (Nat.le_refl _) O)
 exact ⟨fun O => (k O).1, fun O => (k O).2.1, fun O => (k O).2.2.1, fun O => (k O).2.2.2.1, fun O => (k O).2.2.2.2.1, fun O => (k O).2.2.2.2.2⟩
set_option maxHeartbeats 4000000 in
theorem bytes_no (n : Bool) (t o r d i : Int) (w : World) (h : ¬ HtOk n t o r d i) : Calls Tryz.prog 133 #[.agg #[.bool n, .int .i64 t, .int .i64 o, .int .i64 r, .int .i64 d, .int .i64 i]] w (RetB [] 1 w) := by
 have hc := chk_no h
 clear h
 go_enter Tryz.func133, Tryz.ntmps133
 go_wp2_with (go_at_call 151; refine (check_any _ _ _ _ _ _ _).mono ?_; rintro e w' ⟨rfl, hb⟩; rw [hc]; have HB : Hid (Below w.heap.size w w') := ((Below.refl _ w).alloc (Nat.le_refl _) _).trans (hb.mono (by simp)); clear hb)
 go_ret2
 exact ⟨_, rfl, Bs_nil _, HB.out⟩
set_option maxHeartbeats 4000000 in
theorem bytes_null (t o r d i : Int) (w : World) (h : HtOk true t o r d i) : Calls Tryz.prog 133 #[.agg #[.bool true, .int .i64 t, .int .i64 o, .int .i64 r, .int .i64 d, .int .i64 i]] w (RetB [0, i] 0 w) := by
 have hc := chk_ok h
 have hi : 0 ≤ i ∧ i < 64 := h.1
 have hw : IntKind.u8.wrap i = i := by rw [IntKind.wrap_u8]; omega
 clear h
 go_enter Tryz.func133, Tryz.ntmps133
 go_wp2_with (go_at_call 151; refine (check_any _ _ _ _ _ _ _).mono ?_; rintro e w' ⟨rfl, hb⟩; rw [hc]; have ⟨c0, c1, c2, c3, c4, c5⟩ := (cells6_alloc w true t o r d i 59).below hb; have HB : Hid (Below w.heap.size w w') := ((Below.refl _ w).alloc (Nat.le_refl _) _).trans (hb.mono (by simp)); clear hb)
 go_ret2
 exact ⟨_, rfl, bs_lit2 _ _ _ (by omega) (by omega) _ rfl, HB.out.alloc HB.out.size _⟩
set_option maxHeartbeats 4000000 in
theorem bytes_row (t o r d i : Int) (w : World) (h : HtOk false t o r d i) : Calls Tryz.prog 133 #[.agg #[.bool false, .int .i64 t, .int .i64 o, .int .i64 r, .int .i64 d, .int .i64 i]] w (RetB (htB false t o r d i) 0 w) := by
  have hc := chk_ok h
  have hi : 0 ≤ i ∧ i < 64 := h.1
  have ho : RowOk t o r d := by rcases h.2 with h | h; · cases h.1
                                exact h.2
  have hoo : 0 ≤ o ∧ o < 64 := ho.2.2.1
  have hr : 0 ≤ r ∧ r < 256 := by have := ho.2.2.2.1; omega
  have hw : IntKind.u8.wrap i = i := by rw [IntKind.wrap_u8]; omega
  have hwo : IntKind.u8.wrap o = o := by rw [IntKind.wrap_u8]; omega
  have hwr : IntKind.u8.wrap r = r := by rw [IntKind.wrap_u8]; omega
  clear h ho
  have l8 := i8_len
  go_enter Tryz.func133, Tryz.ntmps133
  go_wp2_with (first
    | (go_at_call 151; refine (check_any _ _ _ _ _ _ _).mono ?_; rintro e w0 ⟨rfl, hb⟩; rw [hc]; have K0 : Hid (Cells6 w0 w.heap.size false t o r d i) := (cells6_alloc w false t o r d i 59).below hb; have ⟨c0, c1, c2, c3, c4, c5⟩ := K0.out; have ⟨a0, a1, a2, a3, a4, a5⟩ := K0.out.allocs; have HB : Hid (Below w.heap.size w w0) := ((Below.refl _ w).alloc (Nat.le_refl _) _).trans (hb.mono (by simp)); have HL : Hid (w.heap.size < w0.heap.size) := Nat.lt_of_lt_of_le (by simp) hb.size; clear hb)
    | (go_at_call 132; refine (int_any t _).mono ?_; rintro e w1 ⟨r1, rfl, hr1, hb⟩; have O1 := Lib.hid (own_below (own_lit1 w0 w0.heap.size 1 (Nat.le_refl _) _ rfl) hb); have B1 := Lib.hid (Bs_of_own O1.out (by intro z hz; simp at hz; omega) (by simp)); have R1 : Hid (Bs w1 r1 (i8 t)) := hr1; have HB1 : Hid (Below w0.heap.size w0 w1) := ((Below.refl _ w0).alloc (Nat.le_refl _) _).trans (hb.mono (by simp)); have K1 := Lib.hid (K0.out.old HB1.out HL.out); clear hb hr1)
    | (at_builtin; refine app_any rfl (.tmp 17) (.tmp 20) rfl w0.heap.size [1] (i8 t) O1.out R1.out (by simp [l8]) HB1.out.size ?_; intro v2 w2 hown2 hb2 hs2; have O2 := Lib.hid hown2; have HB2 := Lib.hid (HB1.out.trans hb2); have K2 := Lib.hid (K0.out.old HB2.out HL.out); have ⟨d0, d1, d2, d3, d4, d5⟩ := K2.out; have ⟨e0, e1, e2, e3, e4, e5⟩ := K2.out.allocs; clear hown2 hb2 hs2)
    | (at_builtin; refine app_any rfl (.tmp 22) (.tmp 29) rfl w0.heap.size ([1] ++ i8 t) [o, r] (O2.out.alloc _) (bs_lit2 w2 o r (by omega) hr _ rfl) (by simp [l8]) (Nat.le_trans HB2.out.size (by simp)) ?_; intro v3 w3 hown3 hb3 hs3; have O3 := Lib.hid hown3; have HB3 := Lib.hid ((HB2.out.alloc HB2.out.size _).trans hb3); have K3 := Lib.hid (K0.out.old HB3.out HL.out); have ⟨f0, f1, f2, f3, f4, f5⟩ := K3.out; clear hown3 hb3 hs3)
    | (go_at_call 132; refine (int_any d _).mono ?_; rintro e w4 ⟨r4, rfl, hr4, hb⟩; have O4 := Lib.hid (own_below O3.out hb); have R4 : Hid (Bs w4 r4 (i8 d)) := hr4; have HB4 := Lib.hid (HB3.out.trans (hb.mono HB3.out.size)); clear hb hr4)
    | (at_builtin; refine app_any rfl (.tmp 31) (.tmp 34) rfl w0.heap.size ([1] ++ i8 t ++ [o, r]) (i8 d) O4.out R4.out (by simp [l8]) HB4.out.size ?_; intro v5 w5 hown5 hb5 hs5; have O5 := Lib.hid hown5; have HB5 := Lib.hid (HB4.out.trans hb5); have K5 := Lib.hid (K0.out.old HB5.out HL.out); have ⟨g0, g1, g2, g3, g4, g5⟩ := K5.out; have ⟨m0, m1, m2, m3, m4, m5⟩ := K5.out.allocs; clear hown5 hb5 hs5)
    | (at_builtin; refine app_any rfl (.tmp 36) (.tmp 40) rfl w0.heap.size ([1] ++ i8 t ++ [o, r] ++ i8 d) [i] (O5.out.alloc _) (bs_lit1 w5 i (by omega) _ rfl) (by simp [l8]) (Nat.le_trans HB5.out.size (by simp)) ?_; intro v6 w6 hown6 hb6 hs6; have O6 := Lib.hid hown6; have HB6 := Lib.hid ((HB5.out.alloc HB5.out.size _).trans hb6); clear hown6 hb6 hs6))
  go_ret2
  refine ⟨_, rfl, ?_, HB.out.trans (HB6.out.mono (Nat.le_of_lt HL.out))⟩
  have e : htB false t o r d i = [1] ++ i8 t ++ [o, r] ++ i8 d ++ [i] := rfl
  rw [e]
  exact Bs_of_own O6.out (byt_app (byt_app (byt_app (byt_app (by intro z hz; simp at hz; omega) (i8_byt t)) (by intro z hz; simp at hz; rcases hz with rfl | rfl <;> omega)) (i8_byt d)) (by intro z hz; simp at hz; omega)) (by simp [l8])
theorem bytes_any (n : Bool) (t o r d i : Int) (w : World) : Calls Tryz.prog 133 #[.agg #[.bool n, .int .i64 t, .int .i64 o, .int .i64 r, .int .i64 d, .int .i64 i]] w (RetB (htBs n t o r d i) (chk n t o r d i) w) := by
 by_cases h : HtOk n t o r d i
 ·rw [htBs, if_pos h, chk_ok h]
  cases n with
  | true => exact bytes_null t o r d i w h
  | false => exact bytes_row t o r d i w h
 ·rw [htBs, if_neg h, chk_no h]
  exact bytes_no n t o r d i w h
def Rows (w : World) (v : Value) (xss : List (List Int)) : Prop :=
 ∃ (g : Nat) (vs : List Value), v = .slice (some ⟨g, 0, none⟩) vs.length vs.length ∧ vs.length = xss.length ∧ (∀ i, i < vs.length → w.cell? ⟨g, i, none⟩ = some (vs.getD i undef)) ∧ ∀ i, i < vs.length → Bs w (vs.getD i undef) (xss.getD i [])
theorem Rows.below {w w' : World} {v : Value} {xss : List (List Int)} (h : Rows w v xss) (hb : Below w.heap.size w w') : Rows w' v xss := by
 obtain ⟨g, vs, h1, h2, h3, h4⟩ := h
 exact ⟨g, vs, h1, h2, fun i hi => by rw [hb.cell (World.block_lt_of_cell? w _ (h3 i hi))]; exact h3 i hi, fun i hi => Bs_below (h4 i hi) hb⟩
theorem Bs_form {w : World} {v : Value} {xs : List Int} (h : Bs w v xs) : ∃ a l c, v = .slice a l c := by
 obtain ⟨_, _, ⟨a, c, h, _, _⟩ | ⟨b, o, c, h, _⟩⟩ := h
 ·exact ⟨_, _, _, h⟩
 ·exact ⟨_, _, _, h⟩
end Go.Proofs.YtjghebcnmoojmaaGreat

namespace Go.Proofs.YtjghebcnmoojmaaGreat
set_option maxRecDepth 100000
open Go.RowKit Go.WideShapes Go.ChangeShapes

theorem under37 : Tryz.prog.underlying 63 = some (.struct (Tryz.prog.fieldsOf 63)) := by kernel_rfl
end Go.Proofs.YtjghebcnmoojmaaGreat

namespace Go.Proofs.YtjghebcnmoojmaaGreat
set_option maxRecDepth 100000
open Go.RowKit

theorem eqF_part {P : Program} {w : World} {d : Nat} {xs ys : Array Value} {f : Field} {fs : List Field} {x y : Value} {T : TypeId} {off : Nat} {e : Bool}
  (h : (f.name == "_", f.type, f.offset) = (false, T, off)) (hx : (part T xs off).run P w = .ok x w) (hy : (part T ys off).run P w = .ok y w) (he : (Op.equalIn d T x y).run P w = .ok e w) :
  (Op.eqFields d xs ys (f :: fs)).run P w = if e then (Op.eqFields d xs ys fs).run P w else .ok false w := by
 simp only [Prod.mk.injEq, beq_eq_false_iff_ne] at h
 obtain ⟨h1, h2, h3⟩ := h
 simp only [Op.eqFields, h2, h3]
 rw [if_pos h1]
 simp only [Sem.run_bind, hx, hy, he, Result.andThen_ok, Sem.run_ite, Sem.run_pure]
 cases e <;> simp
theorem run_eq23d (D : Nat) (n m : Bool) (t o r d i t' o' r' d' i' : Int) (w : World) :
  (Op.equalIn (D + 1 + 1) 59 (.agg #[.bool n, .int .i64 t, .int .i64 o, .int .i64 r, .int .i64 d, .int .i64 i]) (.agg #[.bool m, .int .i64 t', .int .i64 o', .int .i64 r', .int .i64 d', .int .i64 i'])).run Tryz.prog w
   = .ok (eqH n t o r d i m t' o' r' d' i') w := by
 rw [run_equalIn_agg w (D + 1) 59 _ _ under23 (by kernel_rfl)]
 have hf := fields23
 generalize (Tryz.prog.fieldsOf 59).toList = fs at *
 have a3 : (isAgg 3).run Tryz.prog w = .ok false w := by kernel_rfl
 have a4 : (isAgg 4).run Tryz.prog w = .ok false w := by kernel_rfl
 obtain ⟨f0, _, rfl, g0, hf⟩ := List.map_eq_cons_iff.1 hf
 obtain ⟨f1, _, rfl, g1, hf⟩ := List.map_eq_cons_iff.1 hf
 obtain ⟨f2, _, rfl, g2, hf⟩ := List.map_eq_cons_iff.1 hf
 obtain ⟨f3, _, rfl, g3, hf⟩ := List.map_eq_cons_iff.1 hf
 obtain ⟨f4, _, rfl, g4, hf⟩ := List.map_eq_cons_iff.1 hf
 obtain ⟨f5, _, rfl, g5, hf⟩ := List.map_eq_cons_iff.1 hf
 obtain rfl := List.map_eq_nil_iff.1 hf
 rw [eqF_cell g0 a4 rfl rfl (run_equalIn_bool' w D 4 n m (by kernel_rfl)), eqF_cell g1 a3 rfl rfl (run_equalIn_int w D 3 .i64 .i64 t t' (by kernel_rfl)),
  eqF_cell g2 a3 rfl rfl (run_equalIn_int w D 3 .i64 .i64 o o' (by kernel_rfl)), eqF_cell g3 a3 rfl rfl (run_equalIn_int w D 3 .i64 .i64 r r' (by kernel_rfl)),
  eqF_cell g4 a3 rfl rfl (run_equalIn_int w D 3 .i64 .i64 d d' (by kernel_rfl)), eqF_cell g5 a3 rfl rfl (run_equalIn_int w D 3 .i64 .i64 i i' (by kernel_rfl))]
 simp only [Op.eqFields, Sem.run_pure, eqH]
 cases n == m <;> cases t == t' <;> cases o == o' <;> cases r == r' <;> cases d == d' <;> cases i == i' <;> rfl
theorem run_eq25d (D : Nat) (t o r t' o' r' : Int) (w : World) :
  (Op.equalIn (D + 1 + 1) 61 (.agg #[.int .i64 t, .int .i64 o, .int .i64 r]) (.agg #[.int .i64 t', .int .i64 o', .int .i64 r'])).run Tryz.prog w = .ok (eqL t o r t' o' r') w := by
 rw [run_equalIn_agg w (D + 1) 61 _ _ under25 (by kernel_rfl)]
 have hf := fields25
 generalize (Tryz.prog.fieldsOf 61).toList = fs at *
 have a3 : (isAgg 3).run Tryz.prog w = .ok false w := by kernel_rfl
 obtain ⟨f1, _, rfl, g1, hf⟩ := List.map_eq_cons_iff.1 hf
 obtain ⟨f2, _, rfl, g2, hf⟩ := List.map_eq_cons_iff.1 hf
 obtain ⟨f3, _, rfl, g3, hf⟩ := List.map_eq_cons_iff.1 hf
 obtain rfl := List.map_eq_nil_iff.1 hf
 rw [eqF_cell g1 a3 rfl rfl (run_equalIn_int w D 3 .i64 .i64 t t' (by kernel_rfl)), eqF_cell g2 a3 rfl rfl (run_equalIn_int w D 3 .i64 .i64 o o' (by kernel_rfl)), eqF_cell g3 a3 rfl rfl (run_equalIn_int w D 3 .i64 .i64 r r' (by kernel_rfl))]
 simp only [Op.eqFields, Sem.run_pure, eqL]
 cases t == t' <;> cases o == o' <;> cases r == r' <;> rfl
theorem fields37 : ((Tryz.prog.fieldsOf 63).toList.map fun f => (f.name == "_", f.type, f.offset)) = [(false, 3, 0), (false, 3, 1), (false, 59, 2), (false, 61, 8), (false, 3, 11)] := by kernel_rfl
def eqO (k x : Int) (n : Bool) (t o r d i p q s m : Int) (k' x' : Int) (n' : Bool) (t' o' r' d' i' p' q' s' m' : Int) : Bool := k == k' && (x == x' && (eqH n t o r d i n' t' o' r' d' i' && (eqL p q s p' q' s' && m == m')))
theorem eqO_iff {k x : Int} {n : Bool} {t o r d i p q s m : Int} {k' x' : Int} {n' : Bool} {t' o' r' d' i' p' q' s' m' : Int} : eqO k x n t o r d i p q s m k' x' n' t' o' r' d' i' p' q' s' m' = true ↔ k = k' ∧ x = x' ∧ n = n' ∧ t = t' ∧ o = o' ∧ r = r' ∧ d = d' ∧ i = i' ∧ p = p' ∧ q = q' ∧ s = s' ∧ m = m' := by
 simp only [eqO, Bool.and_eq_true, beq_iff_eq, eqH_iff, eqL_iff, and_assoc]
theorem part23 (w : World) (k x : Int) (n : Bool) (t o r d i p q s m : Int) : (part 59 #[.int .i64 k, .int .i64 x, .bool n, .int .i64 t, .int .i64 o, .int .i64 r, .int .i64 d, .int .i64 i, .int .i64 p, .int .i64 q, .int .i64 s, .int .i64 m] 2).run Tryz.prog w = .ok (.agg #[.bool n, .int .i64 t, .int .i64 o, .int .i64 r, .int .i64 d, .int .i64 i]) w := by
 have h : (isAgg 59).run Tryz.prog w = .ok true w := by kernel_rfl
 have hc : (Go.sizeOf 59).run Tryz.prog w = .ok 6 w := by kernel_rfl
 simp only [part, Sem.run_bind, h, hc, Result.andThen_ok, if_true, Sem.run_pure]
 rfl
theorem part35 (w : World) (k x : Int) (n : Bool) (t o r d i p q s m : Int) : (part 61 #[.int .i64 k, .int .i64 x, .bool n, .int .i64 t, .int .i64 o, .int .i64 r, .int .i64 d, .int .i64 i, .int .i64 p, .int .i64 q, .int .i64 s, .int .i64 m] 8).run Tryz.prog w = .ok (.agg #[.int .i64 p, .int .i64 q, .int .i64 s]) w := by
 have h : (isAgg 61).run Tryz.prog w = .ok true w := by kernel_rfl
 have hc : (Go.sizeOf 61).run Tryz.prog w = .ok 3 w := by kernel_rfl
 simp only [part, Sem.run_bind, h, hc, Result.andThen_ok, if_true, Sem.run_pure]
 rfl
theorem run_eq37 (k x : Int) (n : Bool) (t o r d i p q s m : Int) (k' x' : Int) (n' : Bool) (t' o' r' d' i' p' q' s' m' : Int) (w : World) : (Op.equalIn 10000 63 (.agg #[.int .i64 k, .int .i64 x, .bool n, .int .i64 t, .int .i64 o, .int .i64 r, .int .i64 d, .int .i64 i, .int .i64 p, .int .i64 q, .int .i64 s, .int .i64 m]) (.agg #[.int .i64 k', .int .i64 x', .bool n', .int .i64 t', .int .i64 o', .int .i64 r', .int .i64 d', .int .i64 i', .int .i64 p', .int .i64 q', .int .i64 s', .int .i64 m'])).run Tryz.prog w = .ok (eqO k x n t o r d i p q s m k' x' n' t' o' r' d' i' p' q' s' m') w := by
 rw [run_equalIn_agg w 9999 63 _ _ under37 (by kernel_rfl)]
 have hf := fields37
 generalize (Tryz.prog.fieldsOf 63).toList = fs at *
 have a3 : (isAgg 3).run Tryz.prog w = .ok false w := by kernel_rfl
 obtain ⟨f0, _, rfl, g0, hf⟩ := List.map_eq_cons_iff.1 hf
 obtain ⟨f1, _, rfl, g1, hf⟩ := List.map_eq_cons_iff.1 hf
 obtain ⟨f2, _, rfl, g2, hf⟩ := List.map_eq_cons_iff.1 hf
 obtain ⟨f3, _, rfl, g3, hf⟩ := List.map_eq_cons_iff.1 hf
 obtain ⟨f4, _, rfl, g4, hf⟩ := List.map_eq_cons_iff.1 hf
 obtain rfl := List.map_eq_nil_iff.1 hf
 rw [eqF_cell g0 a3 rfl rfl (run_equalIn_int w 9998 3 .i64 .i64 k k' (by kernel_rfl)), eqF_cell g1 a3 rfl rfl (run_equalIn_int w 9998 3 .i64 .i64 x x' (by kernel_rfl)),
  eqF_part g2 (part23 w k x n t o r d i p q s m) (part23 w k' x' n' t' o' r' d' i' p' q' s' m') (run_eq23d 9997 n n' t o r d i t' o' r' d' i' w),
  eqF_part g3 (part35 w k x n t o r d i p q s m) (part35 w k' x' n' t' o' r' d' i' p' q' s' m') (run_eq25d 9997 p q s p' q' s' w),
  eqF_cell g4 a3 rfl rfl (run_equalIn_int w 9998 3 .i64 .i64 m m' (by kernel_rfl))]
 simp only [Op.eqFields, Sem.run_pure, eqO]
 cases k == k' <;> cases x == x' <;> cases eqH n t o r d i n' t' o' r' d' i' <;> cases eqL p q s p' q' s' <;> cases m == m' <;> rfl
theorem guard37 (op : BinOp) (x y : Operand) (xs ys : Array Value) (w : World) : (eqGuard op 63 x y (.agg xs) (.agg ys)).run Tryz.prog w = .ok () w :=
 run_eqGuard_agg w op 63 x y xs ys (by kernel_rfl)
end Go.Proofs.YtjghebcnmoojmaaGreat

namespace Go.Proofs.YtjghebcnmoojmaaGreat
set_option maxRecDepth 100000
open Go.RowKit Go.WideShapes Go.ChangeShapes

abbrev Pk := Int × Int × Int × Int × ByteArray
theorem underPK : Tryz.prog.underlying 48 = some (.struct (Tryz.prog.fieldsOf 48)) := by kernel_rfl
theorem pkF_cell {P : Program} {w : World} {d : Nat} {xs ys : Array Value} {f : Field} {fs : List Field} {x y : Value} {T : TypeId} {off : Nat} {e : Bool}
  (h : (f.name == "_", f.type, f.offset) = (false, T, off)) (ha : (isAgg T).run P w = .ok false w) (hx : xs[off]? = some x) (hy : ys[off]? = some y) (he : (Op.equalIn d T x y).run P w = .ok e w) :
  (Op.eqFields d xs ys (f :: fs)).run P w = if e then (Op.eqFields d xs ys fs).run P w else .ok false w := by
 simp only [Prod.mk.injEq, beq_eq_false_iff_ne] at h
 obtain ⟨h1, h2, h3⟩ := h
 have p : ∀ (zs : Array Value) (z : Value), zs[off]? = some z → (part T zs off).run P w = .ok z w := by
  intro zs z hz
  simp only [part, Sem.run_bind, ha, Result.andThen_ok, Bool.false_eq_true, if_false, hz, Sem.run_pure]
 simp only [Op.eqFields, h2, h3]
 rw [if_pos h1]
 simp only [Sem.run_bind, p xs x hx, p ys y hy, he, Result.andThen_ok, Sem.run_ite, Sem.run_pure]
 cases e <;> simp
theorem fieldsPK : ((Tryz.prog.fieldsOf 48).toList.map fun f => (f.name == "_", f.type, f.offset)) = [(false, 3, 0), (false, 3, 1), (false, 3, 2), (false, 3, 3), (false, 9, 4)] := by kernel_rfl
def eqK (a b c d : Int) (x : ByteArray) (a' b' c' d' : Int) (x' : ByteArray) : Bool := a == a' && (b == b' && (c == c' && (d == d' && x.toList == x'.toList)))
theorem run_eqPK (a b c d : Int) (x : ByteArray) (a' b' c' d' : Int) (x' : ByteArray) (w : World) :
  (Op.equalIn 10000 48 (.agg #[.int .i64 a, .int .i64 b, .int .i64 c, .int .i64 d, .string x]) (.agg #[.int .i64 a', .int .i64 b', .int .i64 c', .int .i64 d', .string x'])).run Tryz.prog w = .ok (eqK a b c d x a' b' c' d' x') w := by
 rw [run_equalIn_agg w 9999 48 _ _ underPK (by kernel_rfl)]
 have hf := fieldsPK
 generalize (Tryz.prog.fieldsOf 48).toList = fs at *
 have a3 : (isAgg 3).run Tryz.prog w = .ok false w := by kernel_rfl
 have a9 : (isAgg 9).run Tryz.prog w = .ok false w := by kernel_rfl
 obtain ⟨f0, _, rfl, g0, hf⟩ := List.map_eq_cons_iff.1 hf
 obtain ⟨f1, _, rfl, g1, hf⟩ := List.map_eq_cons_iff.1 hf
 obtain ⟨f2, _, rfl, g2, hf⟩ := List.map_eq_cons_iff.1 hf
 obtain ⟨f3, _, rfl, g3, hf⟩ := List.map_eq_cons_iff.1 hf
 obtain ⟨f4, _, rfl, g4, hf⟩ := List.map_eq_cons_iff.1 hf
 obtain rfl := List.map_eq_nil_iff.1 hf
 rw [pkF_cell g0 a3 rfl rfl (run_equalIn_int w 9998 3 .i64 .i64 a a' (by kernel_rfl)), pkF_cell g1 a3 rfl rfl (run_equalIn_int w 9998 3 .i64 .i64 b b' (by kernel_rfl)), pkF_cell g2 a3 rfl rfl (run_equalIn_int w 9998 3 .i64 .i64 c c' (by kernel_rfl)), pkF_cell g3 a3 rfl rfl (run_equalIn_int w 9998 3 .i64 .i64 d d' (by kernel_rfl)), pkF_cell g4 a9 rfl rfl (run_equalIn_string w 9998 9 x x' (by kernel_rfl))]
 simp only [Op.eqFields, Sem.run_pure, eqK]
 cases a == a' <;> cases b == b' <;> cases c == c' <;> cases d == d' <;> cases x.toList == x'.toList <;> rfl
theorem guardPK (op : BinOp) (x y : Operand) (xs ys : Array Value) (w : World) : (eqGuard op 48 x y (.agg xs) (.agg ys)).run Tryz.prog w = .ok () w :=
 run_eqGuard_agg w op 48 x y xs ys (by kernel_rfl)
theorem neqPK (a b c d : Int) (x : ByteArray) (a' b' c' d' : Int) (x' : ByteArray) (w : World) : (binOp .neq 48 (.agg #[.int .i64 a, .int .i64 b, .int .i64 c, .int .i64 d, .string x]) (.agg #[.int .i64 a', .int .i64 b', .int .i64 c', .int .i64 d', .string x'])).run Tryz.prog w = .ok (.bool (!eqK a b c d x a' b' c' d' x')) w := by
 rw [run_neq_struct, run_eqPK]; rfl
theorem eqlPK (a b c d : Int) (x : ByteArray) (a' b' c' d' : Int) (x' : ByteArray) (w : World) : (binOp .eql 48 (.agg #[.int .i64 a, .int .i64 b, .int .i64 c, .int .i64 d, .string x]) (.agg #[.int .i64 a', .int .i64 b', .int .i64 c', .int .i64 d', .string x'])).run Tryz.prog w = .ok (.bool (eqK a b c d x a' b' c' d' x')) w := by
 rw [run_eql_struct, run_eqPK]; rfl
def OwnP (w : World) (b : Nat) (s d t n : Int) (x : ByteArray) : Prop := (w.cell? ⟨b, 0, none⟩ = some (.int .i64 s) ∧ w.cell? ⟨b, 1, none⟩ = some (.int .i64 d) ∧ w.cell? ⟨b, 2, none⟩ = some (.int .i64 t) ∧ w.cell? ⟨b, 3, none⟩ = some (.int .i64 n) ∧ w.cell? ⟨b, 4, none⟩ = some (.string x)) ∧ ∀ j, w.frozen? ⟨b, j, none⟩ = false
theorem ownp_alloc (w : World) (s d t n : Int) (x : ByteArray) (T : TypeId) (g : Nat) (hg : g = w.heap.size) : OwnP (w.alloc (.cells #[.int .i64 s, .int .i64 d, .int .i64 t, .int .i64 n, .string x] T)) g s d t n x := by
 subst hg
 exact ⟨⟨by simp, by simp, by simp, by simp, by simp⟩, fun j => by simp⟩
theorem OwnP.lt {w : World} {b : Nat} {s d t n : Int} {x : ByteArray} (h : OwnP w b s d t n x) : b < w.heap.size := World.block_lt_of_cell? w _ h.1.1
theorem OwnP.low {w w' : World} {b S : Nat} {s d t n : Int} {x : ByteArray} (h : OwnP w b s d t n x) (hb : b < S) (hB : Below S w w') : OwnP w' b s d t n x :=
 ⟨⟨(hB.cell (p := ⟨b, 0, none⟩) hb).trans h.1.1, (hB.cell (p := ⟨b, 1, none⟩) hb).trans h.1.2.1, (hB.cell (p := ⟨b, 2, none⟩) hb).trans h.1.2.2.1, (hB.cell (p := ⟨b, 3, none⟩) hb).trans h.1.2.2.2.1, (hB.cell (p := ⟨b, 4, none⟩) hb).trans h.1.2.2.2.2⟩, fun j => (hB.frozen (p := ⟨b, j, none⟩) hb).trans (h.2 j)⟩
theorem OwnP.below {w w' : World} {b : Nat} {s d t n : Int} {x : ByteArray} (h : OwnP w b s d t n x) (hb : Below w.heap.size w w') : OwnP w' b s d t n x := h.low h.lt hb
def put5 (w : World) (b : Nat) (s d t n : Int) (x : ByteArray) : World := ((((w.setCell ⟨b, 0, none⟩ (.int .i64 s)).setCell ⟨b, 1, none⟩ (.int .i64 d)).setCell ⟨b, 2, none⟩ (.int .i64 t)).setCell ⟨b, 3, none⟩ (.int .i64 n)).setCell ⟨b, 4, none⟩ (.string x)
theorem OwnP.set {w : World} {b : Nat} {s d t n : Int} {x : ByteArray} (h : OwnP w b s d t n x) (s' d' t' n' : Int) (x' : ByteArray) : OwnP (put5 w b s' d' t' n' x') b s' d' t' n' x' := by
 obtain ⟨⟨h0, h1, h2, h3, h4⟩, hf⟩ := h
 unfold put5
 refine ⟨⟨?_, ?_, ?_, ?_, ?_⟩, fun j => ?_⟩ <;> simp [go_sem, hf, h0, h1, h2, h3, h4]
theorem bel_put5 {B : Nat} {u w : World} {b : Nat} (h : Below B u w) (hB : B ≤ b) (s d t n : Int) (x : ByteArray) : Below B u (put5 w b s d t n x) :=
 ((((h.setCell (p := ⟨b, 0, none⟩) hB _).setCell (p := ⟨b, 1, none⟩) hB _).setCell (p := ⟨b, 2, none⟩) hB _).setCell (p := ⟨b, 3, none⟩) hB _).setCell (p := ⟨b, 4, none⟩) hB _
def PkOk (s d t n : Int) (x : ByteArray) : Prop := (0 ≤ s ∧ s < 64) ∧ (0 ≤ d ∧ d < 64) ∧ (0 ≤ t ∧ t ≤ 255) ∧ (0 ≤ n ∧ n ≤ 65535) ∧ x.size ≤ 256
instance (s d t n : Int) (x : ByteArray) : Decidable (PkOk s d t n x) := by unfold PkOk; infer_instance
end Go.Proofs.YtjghebcnmoojmaaGreat

namespace Go.Proofs.YtjghebcnmoojmaaGreat
set_option maxRecDepth 100000
open Go.RowKit Go.Lib

def bl (x : ByteArray) : List Int := x.data.toList.map fun b => (b.toNat : Int)
theorem bl_len (x : ByteArray) : (bl x).length = x.size := by unfold bl; rw [List.length_map, Array.length_toList]; rfl
theorem bl_byt (x : ByteArray) : ∀ v ∈ bl x, 0 ≤ v ∧ v < 256 := fun v hv => by
 obtain ⟨b, _, rfl⟩ := List.mem_map.1 hv
 have := b.toNat_lt
 omega
def hdB (s d t n k : Int) : List Int := [s, d, t, n / 256, n % 256, k / 256, k % 256]
def pkB (s d t n : Int) (x : ByteArray) : List Int := hdB s d t n x.size ++ bl x
theorem hd_byt {s d t n : Int} {x : ByteArray} (h : PkOk s d t n x) : ∀ v ∈ hdB s d t n x.size, 0 ≤ v ∧ v < 256 := fun v hv => by
 obtain ⟨h1, h2, h3, h4, h5⟩ := h
 simp only [hdB, List.mem_cons, List.not_mem_nil, or_false] at hv
 rcases hv with rfl | rfl | rfl | rfl | rfl | rfl | rfl <;> omega
theorem pkB_len (s d t n : Int) (x : ByteArray) : (pkB s d t n x).length = 7 + x.size := by
 unfold pkB; rw [List.length_append, bl_len]; rfl
theorem pkB_byt {s d t n : Int} {x : ByteArray} (h : PkOk s d t n x) : ∀ v ∈ pkB s d t n x, 0 ≤ v ∧ v < 256 := fun v hv => by
 rcases List.mem_append.1 hv with h1 | h1
 ·exact hd_byt h v h1
 ·exact bl_byt x v h1
end Go.Proofs.YtjghebcnmoojmaaGreat

namespace Go.Proofs.YtjghebcnmoojmaaGreat
set_option maxRecDepth 100000
open Go.RowKit

def szP (j : Nat) : Int := [1, 1, 1, 2, 2].getD j 0
def pP (xs : List Int) (q : Int) : Nat → Int
 | 0 => q
 | j + 1 => (getS xs (pP xs q j) (szP j)).2.1
def pV (xs : List Int) (q : Int) (j : Nat) : Int := (getS xs (pP xs q j) (szP j)).1
def pE (xs : List Int) (q : Int) (j : Nat) : Int := (getS xs (pP xs q j) (szP j)).2.2
def sub (xs : List Int) (q k : Int) : ByteArray := strOfNums ((xs.drop q.toNat).take k.toNat)
def endP (xs : List Int) (s d t n k q : Int) : Int ⊕ (Pk × Int) :=
 if k > 256 then .inl 4
 else if (xs.length : Int) - q < k then .inl 6
 else if PkOk s d t n (sub xs q k) then .inr ((s, d, t, n, sub xs q k), q + k) else .inl 4
def pkPF (xs : List Int) (q : Int) : Int ⊕ (Pk × Int) :=
 if pE xs q 0 ≠ 0 then .inl (pE xs q 0) else if pE xs q 1 ≠ 0 then .inl (pE xs q 1) else if pE xs q 2 ≠ 0 then .inl (pE xs q 2) else if pE xs q 3 ≠ 0 then .inl (pE xs q 3) else if pE xs q 4 ≠ 0 then .inl (pE xs q 4)
 else endP xs (pV xs q 0) (pV xs q 1) (pV xs q 2) (pV xs q 3) (pV xs q 4) (pP xs q 5)
theorem pkPF_err {xs : List Int} {q : Int} {j : Nat} (hj : j < 5) (h0 : ∀ i, i < j → pE xs q i = 0) (h : pE xs q j ≠ 0) : pkPF xs q = .inl (pE xs q j) := by
 unfold pkPF
 have : j = 0 ∨ j = 1 ∨ j = 2 ∨ j = 3 ∨ j = 4 := by omega
 rcases this with rfl | rfl | rfl | rfl | rfl
 ·rw [if_pos h]
 ·rw [if_neg (not_not_intro (h0 0 (by decide))), if_pos h]
 ·rw [if_neg (not_not_intro (h0 0 (by decide))), if_neg (not_not_intro (h0 1 (by decide))), if_pos h]
 ·rw [if_neg (not_not_intro (h0 0 (by decide))), if_neg (not_not_intro (h0 1 (by decide))), if_neg (not_not_intro (h0 2 (by decide))), if_pos h]
 ·rw [if_neg (not_not_intro (h0 0 (by decide))), if_neg (not_not_intro (h0 1 (by decide))), if_neg (not_not_intro (h0 2 (by decide))), if_neg (not_not_intro (h0 3 (by decide))), if_pos h]
theorem pkPF_go {xs : List Int} {q : Int} (h0 : ∀ i, i < 5 → pE xs q i = 0) : pkPF xs q = endP xs (pV xs q 0) (pV xs q 1) (pV xs q 2) (pV xs q 3) (pV xs q 4) (pP xs q 5) := by
 unfold pkPF
 rw [if_neg (not_not_intro (h0 0 (by decide))), if_neg (not_not_intro (h0 1 (by decide))), if_neg (not_not_intro (h0 2 (by decide))), if_neg (not_not_intro (h0 3 (by decide))), if_neg (not_not_intro (h0 4 (by decide)))]
theorem getS_in {xs : List Int} {k n : Int} (h : (getS xs k n).2.2 = 0) : 0 ≤ k ∧ (getS xs k n).2.1 = k + n ∧ k + n ≤ xs.length ∧ 1 ≤ n := by
 unfold getS at h ⊢
 split at h
 ·simp at h
 ·rename_i h1
  split at h
  ·simp at h
  ·rename_i h2
   rw [if_neg h1, if_neg h2]
   exact ⟨by omega, rfl, by omega, by omega⟩
theorem pP_in {xs : List Int} {q : Int} (h0 : ∀ i, i < 5 → pE xs q i = 0) : 0 ≤ q ∧ pP xs q 5 = q + 7 ∧ q + 7 ≤ xs.length := by
 have a0 := getS_in (xs := xs) (k := pP xs q 0) (n := szP 0) (h0 0 (by decide))
 have a1 := getS_in (xs := xs) (k := pP xs q 1) (n := szP 1) (h0 1 (by decide))
 have a2 := getS_in (xs := xs) (k := pP xs q 2) (n := szP 2) (h0 2 (by decide))
 have a3 := getS_in (xs := xs) (k := pP xs q 3) (n := szP 3) (h0 3 (by decide))
 have a4 := getS_in (xs := xs) (k := pP xs q 4) (n := szP 4) (h0 4 (by decide))
 have b0 : pP xs q 1 = pP xs q 0 + 1 := a0.2.1
 have b1 : pP xs q 2 = pP xs q 1 + 1 := a1.2.1
 have b2 : pP xs q 3 = pP xs q 2 + 1 := a2.2.1
 have b3 : pP xs q 4 = pP xs q 3 + 2 := a3.2.1
 have b4 : pP xs q 5 = pP xs q 4 + 2 := a4.2.1
 have c0 : pP xs q 0 = q := rfl
 have d0 := a0.1
 have d4 : pP xs q 4 + 2 ≤ xs.length := a4.2.2.1
 omega
theorem pV_bd {xs : List Int} (hx : ∀ x ∈ xs, 0 ≤ x ∧ x < 256) (q : Int) {j : Nat} (hj : j < 5) : 0 ≤ pV xs q j ∧ pV xs q j ≤ 65535 := by
 unfold pV getS
 split
 ·simp
 ·split
  ·simp
  ·have h1 := seg_bd hx (pP xs q j).toNat (szP j).toNat
   have h2 : pow256 (szP j).toNat ≤ 65536 := by
    have : j = 0 ∨ j = 1 ∨ j = 2 ∨ j = 3 ∨ j = 4 := by omega
    rcases this with rfl | rfl | rfl | rfl | rfl <;> decide
   show 0 ≤ segN xs _ _ ∧ segN xs _ _ ≤ 65535
   omega
def pkR (r : Int ⊕ (Pk × Int)) : Pk := match r with
 | .inl _ => (0, 0, 0, 0, ⟨#[]⟩)
 | .inr (p, _) => p
def pkT (r : Int ⊕ (Pk × Int)) : Int := match r with
 | .inl _ => 0
 | .inr (_, to) => to
def pkE (r : Int ⊕ (Pk × Int)) : Int := match r with
 | .inl e => e
 | .inr _ => 0
theorem bs_window {w : World} {b o cap : Nat} {xs : List Int} (h : Bs w (.slice (some ⟨b, o, none⟩) xs.length cap) xs) (i k : Nat) (hik : i + k ≤ xs.length) (c' : Nat) (hc' : k ≤ c') : Bs w (.slice (some ⟨b, o + i, none⟩) k c') ((xs.drop i).take k) := by
 have hl : ((xs.drop i).take k).length = k := by rw [List.length_take, List.length_drop]; omega
 obtain ⟨h1, h2, ⟨a, cap', hv, -, rfl⟩ | ⟨b', o', cap', hv, hc, hcell⟩⟩ := h
 ·have hk : k = 0 := by simp at hik; omega
  subst hk
  exact ⟨by simp, by simp, .inl ⟨_, _, rfl, (fun h => by cases h), by simp⟩⟩
 ·simp only [Value.slice.injEq, Option.some.injEq, Addr.mk.injEq, and_true, true_and] at hv
  obtain ⟨⟨rfl, rfl⟩, rfl⟩ := hv
  refine ⟨fun x hx => h1 x (List.drop_subset _ _ (List.take_subset _ _ hx)), by omega, .inr ⟨b, o + i, c', by rw [hl], by rw [hl]; exact hc', fun j hj => ?_⟩⟩
  rw [hl] at hj
  rw [Nat.add_assoc, hcell (i + j) (by omega)]
  simp [List.getD, hj]
theorem bs_win {w : World} {b o cap : Nat} {xs : List Int} (h : Bs w (.slice (some ⟨b, o, none⟩) xs.length cap) xs) (i k : Nat) (hik : i + k ≤ xs.length) (hc : xs.length ≤ cap) : Bs w (.slice (if cap = i then some ⟨b, o, none⟩ else some ⟨b, o + i, none⟩) k (cap - i)) ((xs.drop i).take k) := by
 split
 ·have hk : k = 0 := by omega
  subst hk
  exact ⟨by simp, by simp, .inl ⟨_, _, rfl, (fun h => by cases h), by simp⟩⟩
 ·exact bs_window h i k hik (cap - i) (by omega)
end Go.Proofs.YtjghebcnmoojmaaGreat

namespace Go.Proofs.YtjghebcnmoojmaaGreat
set_option maxRecDepth 100000

theorem g8_fwd {f m xs : List Int} {v : Int} {n : Nat} {q z : Int} (hxs : xs = f ++ (lo v n ++ m)) (hq : q = (f.length : Int)) (hz : z = (n : Int)) (h1 : 1 ≤ n) (h7 : n ≤ 7) (hv : 0 ≤ v ∧ v < pow256 n) : getS xs q z = (v, q + z, 0) := by
 subst hxs; subst hq; subst hz
 have hp : PutOk v (n : Int) := ⟨by omega, by omega, hv.1, by simpa using hv.2⟩
 have := back_get f m hp
 have hB : putB v (n : Int) = lo v n := by unfold putB; rw [if_pos hp]; simp
 rw [hB] at this
 exact this
theorem g8_inv {xs : List Int} (hx : ∀ x ∈ xs, 0 ≤ x ∧ x < 256) {n K : Nat} (h : (getS xs (K : Int) (n : Int)).2.2 = 0) :
  K + n ≤ xs.length ∧ (getS xs (K : Int) (n : Int)).2.1 = ((K + n : Nat) : Int) ∧ lo (getS xs (K : Int) (n : Int)).1 n = (xs.drop K).take n := by
 unfold getS at h ⊢
 split at h
 ·simp at h
 ·rename_i hn
  rw [if_neg hn]
  split at h
  ·simp at h
  ·rename_i hl
   rw [if_neg hl]
   have hlen : K + n ≤ xs.length := by omega
   refine ⟨hlen, by simp, ?_⟩
   unfold segN
   simp only [Int.toNat_natCast]
   have hl2 : ((xs.drop K).take n).length = n := by simp; omega
   have := lo_be ((xs.drop K).take n) (fun x hx' => hx x (List.drop_subset _ _ (List.take_subset _ _ hx')))
   rw [hl2] at this
   exact this
theorem lo8_one {v : Int} (h : 0 ≤ v ∧ v ≤ 255) : lo v 1 = [v] := by
 unfold lo
 simp
 omega
theorem lo8_two {v : Int} (h : 0 ≤ v ∧ v ≤ 65535) : lo v 2 = [v / 256, v % 256] := by
 have e : lo v 2 = [v / 256 ^ 1 % 256, v / 256 ^ 0 % 256] := rfl
 rw [e, Int.pow_succ, Int.pow_zero, Int.one_mul, Int.ediv_one]
 have : v / 256 % 256 = v / 256 := by omega
 rw [this]
theorem strOf_bl (x : ByteArray) : strOfNums (bl x) = x := by
 apply ByteArray.ext
 unfold strOfNums bl
 simp only [List.map_map]
 have : ((fun n : Int => UInt8.ofNat n.toNat) ∘ fun b : UInt8 => (b.toNat : Int)) = id := by
  funext b
  simp
 rw [this, List.map_id]
theorem bl_str {xs : List Int} (h : ∀ v ∈ xs, 0 ≤ v ∧ v < 256) : bl (strOfNums xs) = xs := by
 unfold strOfNums bl
 rw [List.toList_toArray, List.map_map]
 conv => rhs; rw [← List.map_id xs]
 apply List.map_congr_left
 intro v hv
 have := h v hv
 simp
 omega
theorem sub_size {xs : List Int} {i k : Nat} (h : i + k ≤ xs.length) : (strOfNums ((xs.drop i).take k)).size = k := by
 rw [strOfNums_size, List.length_take, List.length_drop]; omega
theorem hd_lo {s d t n k : Int} (hs : 0 ≤ s ∧ s ≤ 255) (hd : 0 ≤ d ∧ d ≤ 255) (ht : 0 ≤ t ∧ t ≤ 255) (hn : 0 ≤ n ∧ n ≤ 65535) (hk : 0 ≤ k ∧ k ≤ 65535) (m : List Int) : hdB s d t n k ++ m = lo s 1 ++ (lo d 1 ++ (lo t 1 ++ (lo n 2 ++ (lo k 2 ++ m)))) := by
 rw [lo8_one hs, lo8_one hd, lo8_one ht, lo8_two hn, lo8_two hk]; rfl
theorem hd_fwd {f m xs : List Int} {s d t n k q : Int} (hs : 0 ≤ s ∧ s ≤ 255) (hd : 0 ≤ d ∧ d ≤ 255) (ht : 0 ≤ t ∧ t ≤ 255) (hn : 0 ≤ n ∧ n ≤ 65535) (hk : 0 ≤ k ∧ k ≤ 65535) (hxs : xs = f ++ (hdB s d t n k ++ m)) (hq : q = (f.length : Int)) :
  (∀ i, i < 5 → pE xs q i = 0) ∧ pP xs q 5 = q + 7 ∧ pV xs q 0 = s ∧ pV xs q 1 = d ∧ pV xs q 2 = t ∧ pV xs q 3 = n ∧ pV xs q 4 = k := by
 rw [hd_lo hs hd ht hn hk] at hxs
 have g0 : getS xs q 1 = (s, q + 1, 0) := g8_fwd hxs hq rfl (by decide) (by decide) ⟨hs.1, by have := hs.2; show s < 256 * 1; omega⟩
 have g1 : getS xs (q + 1) 1 = (d, q + 1 + 1, 0) := g8_fwd (f := f ++ lo s 1) (m := lo t 1 ++ (lo n 2 ++ (lo k 2 ++ m))) (by rw [hxs]; simp) (by rw [hq]; simp [lo_len]) rfl (by decide) (by decide) ⟨hd.1, by have := hd.2; show d < 256 * 1; omega⟩
 have g2 : getS xs (q + 1 + 1) 1 = (t, q + 1 + 1 + 1, 0) := g8_fwd (f := f ++ lo s 1 ++ lo d 1) (m := lo n 2 ++ (lo k 2 ++ m)) (by rw [hxs]; simp) (by rw [hq]; simp [lo_len]; omega) rfl (by decide) (by decide) ⟨ht.1, by have := ht.2; show t < 256 * 1; omega⟩
 have g3 : getS xs (q + 1 + 1 + 1) 2 = (n, q + 1 + 1 + 1 + 2, 0) := g8_fwd (f := f ++ lo s 1 ++ lo d 1 ++ lo t 1) (m := lo k 2 ++ m) (by rw [hxs]; simp) (by rw [hq]; simp [lo_len]; omega) rfl (by decide) (by decide) ⟨hn.1, by have := hn.2; show n < 256 * (256 * 1); omega⟩
 have g4 : getS xs (q + 1 + 1 + 1 + 2) 2 = (k, q + 1 + 1 + 1 + 2 + 2, 0) := g8_fwd (f := f ++ lo s 1 ++ lo d 1 ++ lo t 1 ++ lo n 2) (m := m) (by rw [hxs]; simp) (by rw [hq]; simp [lo_len]; omega) rfl (by decide) (by decide) ⟨hk.1, by have := hk.2; show k < 256 * (256 * 1); omega⟩
 have p1 : pP xs q 1 = q + 1 := by show (getS xs q 1).2.1 = _; rw [g0]
 have p2 : pP xs q 2 = q + 1 + 1 := by show (getS xs (pP xs q 1) 1).2.1 = _; rw [p1, g1]
 have p3 : pP xs q 3 = q + 1 + 1 + 1 := by show (getS xs (pP xs q 2) 1).2.1 = _; rw [p2, g2]
 have p4 : pP xs q 4 = q + 1 + 1 + 1 + 2 := by show (getS xs (pP xs q 3) 2).2.1 = _; rw [p3, g3]
 have p5 : pP xs q 5 = q + 1 + 1 + 1 + 2 + 2 := by show (getS xs (pP xs q 4) 2).2.1 = _; rw [p4, g4]
 refine ⟨fun i hi => ?_, by rw [p5]; omega, by show (getS xs q 1).1 = _; rw [g0], by show (getS xs (pP xs q 1) 1).1 = _; rw [p1, g1], by show (getS xs (pP xs q 2) 1).1 = _; rw [p2, g2], by show (getS xs (pP xs q 3) 2).1 = _; rw [p3, g3], by show (getS xs (pP xs q 4) 2).1 = _; rw [p4, g4]⟩
 have : i = 0 ∨ i = 1 ∨ i = 2 ∨ i = 3 ∨ i = 4 := by omega
 rcases this with rfl | rfl | rfl | rfl | rfl
 ·show (getS xs q 1).2.2 = 0; rw [g0]
 ·show (getS xs (pP xs q 1) 1).2.2 = 0; rw [p1, g1]
 ·show (getS xs (pP xs q 2) 1).2.2 = 0; rw [p2, g2]
 ·show (getS xs (pP xs q 3) 2).2.2 = 0; rw [p3, g3]
 ·show (getS xs (pP xs q 4) 2).2.2 = 0; rw [p4, g4]
theorem pkPF_fwd {f m : List Int} {s d t n : Int} {x : ByteArray} (h : PkOk s d t n x) : pkPF (f ++ (pkB s d t n x ++ m)) f.length = .inr ((s, d, t, n, x), (f.length : Int) + (7 + x.size)) := by
 obtain ⟨h0, h1, h2, h3, h4⟩ := h
 obtain ⟨xs, hxs⟩ : ∃ xs, f ++ (pkB s d t n x ++ m) = xs := ⟨_, rfl⟩
 have hx1 : xs = f ++ (hdB s d t n x.size ++ (bl x ++ m)) := by rw [← hxs, pkB, List.append_assoc]
 obtain ⟨e, p5, v0, v1, v2, v3, v4⟩ := hd_fwd (q := (f.length : Int)) (by omega) (by omega) h2 h3 ⟨Int.natCast_nonneg _, by omega⟩ hx1 rfl
 rw [hxs, pkPF_go e, v0, v1, v2, v3, v4, p5]
 have hsub : sub xs ((f.length : Int) + 7) (x.size : Int) = x := by
  unfold sub
  have e1 : ((f.length : Int) + 7).toNat = (f ++ hdB s d t n x.size).length := by simp [hdB]; omega
  have e2 : xs = (f ++ hdB s d t n x.size) ++ (bl x ++ m) := by rw [hx1, List.append_assoc]
  rw [e1, e2, List.drop_left, Int.toNat_natCast, ← bl_len, List.take_left]
  exact strOf_bl x
 have hlen : (xs.length : Int) - ((f.length : Int) + 7) = x.size + m.length := by
  rw [hx1]; simp [hdB, bl_len]; omega
 unfold endP
 rw [if_neg (by omega), if_neg (by rw [hlen]; omega), hsub, if_pos ⟨h0, h1, h2, h3, h4⟩]
 simp
 omega
theorem pkPF_inv {xs : List Int} (hx : ∀ v ∈ xs, 0 ≤ v ∧ v < 256) {s d t n : Int} {x : ByteArray} {to : Int} (h : pkPF xs 0 = .inr ((s, d, t, n, x), to)) :
  PkOk s d t n x ∧ ∃ K : Nat, to = (K : Int) ∧ 7 ≤ K ∧ K ≤ xs.length ∧ pkB s d t n x = xs.take K := by
 have he : ∀ i, i < 5 → pE xs 0 i = 0 := fun i hi => by
  rcases Classical.em (pE xs 0 i = 0) with h9 | h9
  ·exact h9
  ·exfalso
   induction i using Nat.strongRecOn with
   | _ i ih =>
    rcases Classical.em (∃ j, j < i ∧ pE xs 0 j ≠ 0) with ⟨j, hj, hj2⟩ | hno
    ·exact ih j hj (by omega) hj2
    ·rw [pkPF_err hi (fun j hj => Classical.byContradiction fun hh => hno ⟨j, hj, hh⟩) h9] at h
     cases h
 rw [pkPF_go he] at h
 obtain ⟨_, p5, hl⟩ := pP_in he
 have b4 := pV_bd hx 0 (j := 4) (by decide)
 have b3 := pV_bd hx 0 (j := 3) (by decide)
 have q0 : pP xs 0 0 = ((0 : Nat) : Int) := rfl
 have a0 := g8_inv hx (K := 0) (n := 1) (he 0 (by decide))
 have q1 : pP xs 0 1 = ((1 : Nat) : Int) := a0.2.1
 have a1 := g8_inv hx (K := 1) (n := 1) (by have := he 1 (by decide); unfold pE at this; rw [q1] at this; exact this)
 have q2 : pP xs 0 2 = ((2 : Nat) : Int) := by rw [pP, q1]; exact a1.2.1
 have a2 := g8_inv hx (K := 2) (n := 1) (by have := he 2 (by decide); unfold pE at this; rw [q2] at this; exact this)
 have q3 : pP xs 0 3 = ((3 : Nat) : Int) := by rw [pP, q2]; exact a2.2.1
 have a3 := g8_inv hx (K := 3) (n := 2) (by have := he 3 (by decide); unfold pE at this; rw [q3] at this; exact this)
 have q4 : pP xs 0 4 = ((5 : Nat) : Int) := by rw [pP, q3]; exact a3.2.1
 have a4 := g8_inv hx (K := 5) (n := 2) (by have := he 4 (by decide); unfold pE at this; rw [q4] at this; exact this)
 have w0 : lo (pV xs 0 0) 1 = (xs.drop 0).take 1 := a0.2.2
 have w1 : lo (pV xs 0 1) 1 = (xs.drop 1).take 1 := by unfold pV; rw [q1]; exact a1.2.2
 have w2 : lo (pV xs 0 2) 1 = (xs.drop 2).take 1 := by unfold pV; rw [q2]; exact a2.2.2
 have w3 : lo (pV xs 0 3) 2 = (xs.drop 3).take 2 := by unfold pV; rw [q3]; exact a3.2.2
 have w4 : lo (pV xs 0 4) 2 = (xs.drop 5).take 2 := by unfold pV; rw [q4]; exact a4.2.2
 generalize pV xs 0 0 = m0 at *
 generalize pV xs 0 1 = m1 at *
 generalize pV xs 0 2 = m2 at *
 generalize pV xs 0 3 = m3 at *
 generalize pV xs 0 4 = m4 at *
 rw [p5] at h
 unfold endP at h
 split at h
 ·cases h
 ·rename_i k1
  split at h
  ·cases h
  ·rename_i k2
   split at h
   ·rename_i hok
    simp only [Sum.inr.injEq, Prod.mk.injEq] at h
    obtain ⟨⟨rfl, rfl, rfl, rfl, rfl⟩, rfl⟩ := h
    obtain ⟨k, rfl⟩ := Int.eq_ofNat_of_zero_le b4.1
    have hk : 7 + k ≤ xs.length := by omega
    have hsz : (sub xs (0 + 7) (k : Int)).size = k := by unfold sub; exact sub_size hk
    refine ⟨hok, 7 + k, by omega, by omega, hk, ?_⟩
    have hb : bl (sub xs (0 + 7) (k : Int)) = (xs.drop 7).take k := by
     unfold sub
     exact bl_str (fun v hv => hx v (List.drop_subset _ _ (List.take_subset _ _ hv)))
    obtain ⟨o0, o1, o2, o3, -⟩ := hok
    unfold pkB
    rw [hsz, hb]
    have e1 := hd_lo (s := m0) (d := m1) (t := m2) (n := m3) (k := (k : Int)) (by omega) (by omega) o2 o3 ⟨Int.natCast_nonneg _, by omega⟩ ((xs.drop 7).take k)
    rw [e1, w0, w1, w2, w3, w4]
    rw [show xs.take (7 + k) = (xs.drop 0).take (7 + k) by simp]
    have st : ∀ i a b (r : List Int), (xs.drop (i + a)).take b = r → (xs.drop i).take a ++ r = (xs.drop i).take (a + b) := fun i a b r hr => by
     rw [List.take_add, List.drop_drop, ← hr]
    rw [st 5 2 k _ rfl, st 3 2 (2 + k) _ rfl, st 2 1 (2 + (2 + k)) _ rfl, st 1 1 (1 + (2 + (2 + k))) _ rfl, st 0 1 (1 + (1 + (2 + (2 + k)))) _ rfl]
    congr 1
    omega
   ·cases h
end Go.Proofs.YtjghebcnmoojmaaGreat

namespace Go.Proofs.YtjghebcnmoojmaaGreat
set_option maxRecDepth 100000
open Go.RowKit

theorem Bs_len2 {w : World} {a : Option Addr} {l c : Nat} {xs : List Int} (h : Bs w (.slice a l c) xs) : l = xs.length ∧ (xs.length ≤ c ∨ xs = []) := by
 obtain ⟨_, _, ⟨a', c', h1, _, rfl⟩ | ⟨b, o, c', h1, h2, _⟩⟩ := h
 ·simp only [Value.slice.injEq] at h1; exact ⟨h1.2.1, .inr rfl⟩
 ·simp only [Value.slice.injEq] at h1; exact ⟨h1.2.1, .inl (by omega)⟩
end Go.Proofs.YtjghebcnmoojmaaGreat

namespace Go.Proofs.YtjghebcnmoojmaaGreat
set_option maxRecDepth 100000
open Go.RowKit

def byP (s d t n : Int) (x : ByteArray) : List Int := if PkOk s d t n x then pkB s d t n x else []
def kP (s d t n : Int) (x : ByteArray) : Int := if PkOk s d t n x then 0 else 1
end Go.Proofs.YtjghebcnmoojmaaGreat
