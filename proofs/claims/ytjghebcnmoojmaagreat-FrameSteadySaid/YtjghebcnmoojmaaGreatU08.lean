/- Acks: in memory, as arguments; which one is right; '==' of them. No conditions. Echoes and beacons: in memory, as arguments; the reference's Epoch, Own, Heard, Same. No conditions but on lengths. Beacons: the reference's Same and Own; '==' of echoes. No conditions but on lengths. Which rows of acks are right: the reference's Right. No conditions but on lengths. Variables of an ack; what came as an ack: the reference's Of. No conditions but on lengths. The program's small functions: what is two bytes long, which acks are right, which bit tells of a number, which number is ahead. No conditions. Whether Ids rise; which rows of acks are right: the program's Check. No conditions but on lengths. Rows of acks: the reference's Same. No conditions but on lengths. -/
import Derived.Test.YtjghebcnmoojmaaGreatU07
import Derived.Laws.StructEq
namespace Go.Proofs.YtjghebcnmoojmaaGreat
set_option maxRecDepth 100000
open Go.RowKit Go.WideShapes Go.ChangeShapes

def ak (y : Int × Int × Int × Int) : List Value := [.int .i64 y.1, .int .i64 y.2.1, .int .i64 y.2.2.1, .int .i64 y.2.2.2]
theorem infoAK : (Tryz.prog.info? 120).map (fun i => (i.zero, i.size, i.bytes)) = some (some (.agg #[.int .i64 0, .int .i64 0, .int .i64 0, .int .i64 0]), 4, 32) := by kernel_rfl
theorem underAS : Tryz.prog.underlying 46 = some (.slice 120) := by kernel_rfl
theorem underAK : Tryz.prog.underlying 120 = some (.struct (Tryz.prog.fieldsOf 120)) := by kernel_rfl
theorem cellsAK : Tryz.prog.cellsOf 120 = 4 := by kernel_rfl
theorem ak_ones (y : Int × Int × Int × Int) : ∀ u ∈ ak y, u.oneCell' = true := by
 intro u hu
 simp only [ak, List.mem_cons, List.not_mem_nil, or_false] at hu
 rcases hu with rfl | rfl | rfl | rfl <;> rfl
noncomputable def RA : RowT where
 α := Int × Int × Int × Int
 d := (0, 0, 0, 0)
 cl := ak
 K := 4
 T := 120
 SL := 46
 zero := .agg #[.int .i64 0, .int .i64 0, .int .i64 0, .int .i64 0]
 bytes := 32
 hcl := fun _ => rfl
 hK := by decide
 hone := ak_ones
 hSL := underAS
 hinfo := infoAK
 hz := rfl
 hb := by decide
 hc := cellsAK
def As (w : World) (v : Value) (ys : List (Int × Int × Int × Int)) : Prop := Gs RA w v ys
def aflat (ys : List (Int × Int × Int × Int)) : List Value := ys.flatMap ak
theorem As.below {w w' : World} {v : Value} {ys : List (Int × Int × Int × Int)} (h : As w v ys) (hb : Below w.heap.size w w') : As w' v ys := Gs.below (R := RA) h hb
theorem As.alloc {w : World} {v : Value} {ys : List (Int × Int × Int × Int)} (h : As w v ys) (O : Obj) : As (w.alloc O) v ys := Gs.alloc (R := RA) h O
theorem As.form {w : World} {v : Value} {ys : List (Int × Int × Int × Int)} (h : As w v ys) : ∃ a c, v = .slice a ys.length c := Gs.form (R := RA) h
theorem As_nil (w : World) : As w (.slice none 0 0) [] := Gs_nil (R := RA) w
def Cells4a (w : World) (b o : Nat) (y : Int × Int × Int × Int) : Prop := w.cell? ⟨b, o, none⟩ = some (.int .i64 y.1) ∧ w.cell? ⟨b, o + 1, none⟩ = some (.int .i64 y.2.1) ∧ w.cell? ⟨b, o + 2, none⟩ = some (.int .i64 y.2.2.1) ∧ w.cell? ⟨b, o + 3, none⟩ = some (.int .i64 y.2.2.2)
theorem ak_of {w : World} {b o : Nat} {y : Int × Int × Int × Int} (h : GC RA w b o y) : Cells4a w b o y := ⟨h 0 (by decide), h 1 (by decide), h 2 (by decide), h 3 (by decide)⟩
theorem Cells4a.below {w w' : World} {b o : Nat} {y : Int × Int × Int × Int} (h : Cells4a w b o y) (hb : Below w.heap.size w w') : Cells4a w' b o y := by
 obtain ⟨h0, h1, h2, h3⟩ := h
 exact ⟨by rw [hb.cell (World.block_lt_of_cell? w _ h0)]; exact h0, by rw [hb.cell (World.block_lt_of_cell? w _ h1)]; exact h1, by rw [hb.cell (World.block_lt_of_cell? w _ h2)]; exact h2, by rw [hb.cell (World.block_lt_of_cell? w _ h3)]; exact h3⟩
theorem As.at {w : World} {a : Option Addr} {c : Nat} {ys : List (Int × Int × Int × Int)} (h : As w (.slice a ys.length c) ys) {i : Nat} (hi : i < ys.length) : ∃ b off, a = some ⟨b, off, none⟩ ∧ b < w.heap.size ∧ Cells4a w b (off + i * 4) (ys.getD i (0, 0, 0, 0)) := by
 obtain ⟨b, off, h1, h2, h3⟩ := Gs.at (R := RA) h hi
 exact ⟨b, off, h1, h2, ak_of h3⟩
theorem As.all {w : World} {b off c : Nat} {ys : List (Int × Int × Int × Int)} (h : As w (.slice (some ⟨b, off, none⟩) ys.length c) ys) {i : Nat} (hi : i < ys.length) : b < w.heap.size ∧ Cells4a w b (off + i * 4) (ys.getD i (0, 0, 0, 0)) := by
 obtain ⟨h2, h3⟩ := Gs.all (R := RA) h hi
 exact ⟨h2, ak_of h3⟩
theorem As_of_own {w : World} {base n : Nat} {v : Value} {ys : List (Int × Int × Int × Int)} (h : w.ownsRow base 120 4 v n (aflat ys)) : As w v ys ∧ n = ys.length := Gs_of_own (R := RA) h
theorem arow_ext {ys zs : List (Int × Int × Int × Int)} (hl : ys.length = zs.length) (h : ∀ i, i < ys.length → ys.getD i (0, 0, 0, 0) = zs.getD i (0, 0, 0, 0)) : ys = zs := grow_ext (R := RA) hl h
theorem aown_nil (w : World) (base : Nat) : w.ownsRow base 120 4 (.slice none 0 0) 0 (aflat []) := gown_nil (R := RA) w base
def EpOk (n : Int) : Prop := 0 ≤ n ∧ n ≤ 4294967295
instance (n : Int) : Decidable (EpOk n) := by unfold EpOk; infer_instance
def AkOne (y : Int × Int × Int × Int) : Prop := (0 ≤ y.1 ∧ y.1 < 64) ∧ EpOk y.2.1 ∧ (0 ≤ y.2.2.1 ∧ y.2.2.1 ≤ 65535) ∧ (0 ≤ y.2.2.2 ∧ y.2.2.2 ≤ 65535)
instance (y : Int × Int × Int × Int) : Decidable (AkOne y) := by unfold AkOne; infer_instance
theorem akF_cell {P : Program} {w : World} {d : Nat} {xs ys : Array Value} {f : Field} {fs : List Field} {x y : Value} {T : TypeId} {off : Nat} {e : Bool}
  (h : (f.name == "_", f.type, f.offset) = (false, T, off)) (ha : (isAgg T).run P w = .ok false w) (hx : xs[off]? = some x) (hy : ys[off]? = some y) (he : (Op.equalIn d T x y).run P w = .ok e w) :
  (Op.eqFields d xs ys (f :: fs)).run P w = if e then (Op.eqFields d xs ys fs).run P w else .ok false w := by
 simp only [Prod.mk.injEq, beq_eq_false_iff_ne] at h
 obtain ⟨h1, h2, h3⟩ := h
 have p : ∀ (zs : Array Value) (z : Value), zs[off]? = some z → (part T zs off).run P w = .ok z w := by
  intro zs z hz
  simp only [part, Sem.run_bind, ha, Result.andThen_ok, Bool.false_eq_true, if_false, hz, Sem.run_pure]
 simp only [Op.eqFields, h2, h3]
 rw [if_pos h1]
 simp only [Sem.run_bind, p xs x hx, p ys y hy, he, Result.andThen_ok, Sem.run_ite, Sem.run_pure]
 cases e <;> simp
theorem fieldsAK : ((Tryz.prog.fieldsOf 120).toList.map fun f => (f.name == "_", f.type, f.offset)) = [(false, 3, 0), (false, 3, 1), (false, 3, 2), (false, 3, 3)] := by kernel_rfl
theorem run_eqAK (a b c d a' b' c' d' : Int) (w : World) :
  (Op.equalIn 10000 120 (.agg #[.int .i64 a, .int .i64 b, .int .i64 c, .int .i64 d]) (.agg #[.int .i64 a', .int .i64 b', .int .i64 c', .int .i64 d'])).run Tryz.prog w = .ok (a == a' && (b == b' && (c == c' && d == d'))) w := by
 rw [run_equalIn_agg w 9999 120 _ _ underAK (by kernel_rfl)]
 have hf := fieldsAK
 generalize (Tryz.prog.fieldsOf 120).toList = fs at *
 have a3 : (isAgg 3).run Tryz.prog w = .ok false w := by kernel_rfl
 obtain ⟨f0, _, rfl, g0, hf⟩ := List.map_eq_cons_iff.1 hf
 obtain ⟨f1, _, rfl, g1, hf⟩ := List.map_eq_cons_iff.1 hf
 obtain ⟨f2, _, rfl, g2, hf⟩ := List.map_eq_cons_iff.1 hf
 obtain ⟨f3, _, rfl, g3, hf⟩ := List.map_eq_cons_iff.1 hf
 obtain rfl := List.map_eq_nil_iff.1 hf
 rw [akF_cell g0 a3 rfl rfl (run_equalIn_int w 9998 3 .i64 .i64 a a' (by kernel_rfl)), akF_cell g1 a3 rfl rfl (run_equalIn_int w 9998 3 .i64 .i64 b b' (by kernel_rfl)), akF_cell g2 a3 rfl rfl (run_equalIn_int w 9998 3 .i64 .i64 c c' (by kernel_rfl)), akF_cell g3 a3 rfl rfl (run_equalIn_int w 9998 3 .i64 .i64 d d' (by kernel_rfl))]
 simp only [Op.eqFields, Sem.run_pure]
 cases a == a' <;> cases b == b' <;> cases c == c' <;> cases d == d' <;> rfl
theorem guardAK (op : BinOp) (x y : Operand) (xs ys : Array Value) (w : World) : (eqGuard op 120 x y (.agg xs) (.agg ys)).run Tryz.prog w = .ok () w :=
 run_eqGuard_agg w op 120 x y xs ys (by kernel_rfl)
def eqA (a b c d a' b' c' d' : Int) : Bool := a == a' && (b == b' && (c == c' && d == d'))
theorem eqA_iff {a b c d a' b' c' d' : Int} : eqA a b c d a' b' c' d' = true ↔ (a, b, c, d) = (a', b', c', d') := by simp [eqA]
theorem neqAK (a b c d a' b' c' d' : Int) (w : World) : (binOp .neq 120 (.agg #[.int .i64 a, .int .i64 b, .int .i64 c, .int .i64 d]) (.agg #[.int .i64 a', .int .i64 b', .int .i64 c', .int .i64 d'])).run Tryz.prog w = .ok (.bool (!eqA a b c d a' b' c' d')) w := by
 rw [run_neq_struct, run_eqAK]; rfl
end Go.Proofs.YtjghebcnmoojmaaGreat

namespace Go.Proofs.YtjghebcnmoojmaaGreat
set_option maxRecDepth 100000
open Go.RowKit Go.WideShapes Go.ChangeShapes

def ec (y : Int × Int) : List Value := [.int .i64 y.1, .int .i64 y.2]
theorem infoEC : (Tryz.prog.info? 113).map (fun i => (i.zero, i.size, i.bytes)) = some (some (.agg #[.int .i64 0, .int .i64 0]), 2, 16) := by kernel_rfl
theorem underES : Tryz.prog.underlying 40 = some (.slice 113) := by kernel_rfl
theorem underEC : Tryz.prog.underlying 113 = some (.struct (Tryz.prog.fieldsOf 113)) := by kernel_rfl
theorem cellsEC : Tryz.prog.cellsOf 113 = 2 := by kernel_rfl
theorem ec_ones (y : Int × Int) : ∀ u ∈ ec y, u.oneCell' = true := by
 intro u hu
 simp only [ec, List.mem_cons, List.not_mem_nil, or_false] at hu
 rcases hu with rfl | rfl <;> rfl
noncomputable def RE : RowT where
 α := Int × Int
 d := (0, 0)
 cl := ec
 K := 2
 T := 113
 SL := 40
 zero := .agg #[.int .i64 0, .int .i64 0]
 bytes := 16
 hcl := fun _ => rfl
 hK := by decide
 hone := ec_ones
 hSL := underES
 hinfo := infoEC
 hz := rfl
 hb := by decide
 hc := cellsEC
def Es (w : World) (v : Value) (ys : List (Int × Int)) : Prop := Gs RE w v ys
def eflat (ys : List (Int × Int)) : List Value := ys.flatMap ec
theorem Es.below {w w' : World} {v : Value} {ys : List (Int × Int)} (h : Es w v ys) (hb : Below w.heap.size w w') : Es w' v ys := Gs.below (R := RE) h hb
theorem Es.alloc {w : World} {v : Value} {ys : List (Int × Int)} (h : Es w v ys) (O : Obj) : Es (w.alloc O) v ys := Gs.alloc (R := RE) h O
theorem Es.form {w : World} {v : Value} {ys : List (Int × Int)} (h : Es w v ys) : ∃ a c, v = .slice a ys.length c := Gs.form (R := RE) h
theorem es_of {w : World} {b o : Nat} {y : Int × Int} (h : GC RE w b o y) : w.cell? ⟨b, o, none⟩ = some (.int .i64 y.1) ∧ w.cell? ⟨b, o + 1, none⟩ = some (.int .i64 y.2) := ⟨h 0 (by decide), h 1 (by decide)⟩
theorem Es.at {w : World} {a : Option Addr} {c : Nat} {ys : List (Int × Int)} (h : Es w (.slice a ys.length c) ys) {i : Nat} (hi : i < ys.length) : ∃ b off, a = some ⟨b, off, none⟩ ∧ b < w.heap.size ∧ w.cell? ⟨b, off + i * 2, none⟩ = some (.int .i64 (ys.getD i (0, 0)).1) ∧ w.cell? ⟨b, off + i * 2 + 1, none⟩ = some (.int .i64 (ys.getD i (0, 0)).2) := by
 obtain ⟨b, off, h1, h2, h3⟩ := Gs.at (R := RE) h hi
 exact ⟨b, off, h1, h2, es_of h3⟩
theorem Es.all {w : World} {b off c : Nat} {ys : List (Int × Int)} (h : Es w (.slice (some ⟨b, off, none⟩) ys.length c) ys) {i : Nat} (hi : i < ys.length) : b < w.heap.size ∧ w.cell? ⟨b, off + i * 2, none⟩ = some (.int .i64 (ys.getD i (0, 0)).1) ∧ w.cell? ⟨b, off + i * 2 + 1, none⟩ = some (.int .i64 (ys.getD i (0, 0)).2) := by
 obtain ⟨h2, h3⟩ := Gs.all (R := RE) h hi
 exact ⟨h2, es_of h3⟩
theorem Es_of_own {w : World} {base n : Nat} {v : Value} {ys : List (Int × Int)} (h : w.ownsRow base 113 2 v n (eflat ys)) : Es w v ys ∧ n = ys.length := Gs_of_own (R := RE) h
theorem erow_ext {ys zs : List (Int × Int)} (hl : ys.length = zs.length) (h : ∀ i, i < ys.length → ys.getD i (0, 0) = zs.getD i (0, 0)) : ys = zs := grow_ext (R := RE) hl h
theorem eown_nil (w : World) (base : Nat) : w.ownsRow base 113 2 (.slice none 0 0) 0 (eflat []) := gown_nil (R := RE) w base
instance (n : Int) : Decidable (EpOk n) := by unfold EpOk; infer_instance
end Go.Proofs.YtjghebcnmoojmaaGreat

namespace Go.Proofs.YtjghebcnmoojmaaGreat
set_option maxRecDepth 100000
open Go.RowKit

theorem ecF_cell {P : Program} {w : World} {d : Nat} {xs ys : Array Value} {f : Field} {fs : List Field} {x y : Value} {T : TypeId} {off : Nat} {e : Bool}
  (h : (f.name == "_", f.type, f.offset) = (false, T, off)) (ha : (isAgg T).run P w = .ok false w) (hx : xs[off]? = some x) (hy : ys[off]? = some y) (he : (Op.equalIn d T x y).run P w = .ok e w) :
  (Op.eqFields d xs ys (f :: fs)).run P w = if e then (Op.eqFields d xs ys fs).run P w else .ok false w := by
 simp only [Prod.mk.injEq, beq_eq_false_iff_ne] at h
 obtain ⟨h1, h2, h3⟩ := h
 have p : ∀ (zs : Array Value) (z : Value), zs[off]? = some z → (part T zs off).run P w = .ok z w := by
  intro zs z hz
  simp only [part, Sem.run_bind, ha, Result.andThen_ok, Bool.false_eq_true, if_false, hz, Sem.run_pure]
 simp only [Op.eqFields, h2, h3]
 rw [if_pos h1]
 simp only [Sem.run_bind, p xs x hx, p ys y hy, he, Result.andThen_ok, Sem.run_ite, Sem.run_pure]
 cases e <;> simp
theorem fieldsEC : ((Tryz.prog.fieldsOf 113).toList.map fun f => (f.name == "_", f.type, f.offset)) = [(false, 3, 0), (false, 3, 1)] := by kernel_rfl
theorem run_eqEC (a b a' b' : Int) (w : World) :
  (Op.equalIn 10000 113 (.agg #[.int .i64 a, .int .i64 b]) (.agg #[.int .i64 a', .int .i64 b'])).run Tryz.prog w = .ok (a == a' && b == b') w := by
 rw [run_equalIn_agg w 9999 113 _ _ underEC (by kernel_rfl)]
 have hf := fieldsEC
 generalize (Tryz.prog.fieldsOf 113).toList = fs at *
 have a3 : (isAgg 3).run Tryz.prog w = .ok false w := by kernel_rfl
 obtain ⟨f0, _, rfl, g0, hf⟩ := List.map_eq_cons_iff.1 hf
 obtain ⟨f1, _, rfl, g1, hf⟩ := List.map_eq_cons_iff.1 hf
 obtain rfl := List.map_eq_nil_iff.1 hf
 rw [ecF_cell g0 a3 rfl rfl (run_equalIn_int w 9998 3 .i64 .i64 a a' (by kernel_rfl)), ecF_cell g1 a3 rfl rfl (run_equalIn_int w 9998 3 .i64 .i64 b b' (by kernel_rfl))]
 simp only [Op.eqFields, Sem.run_pure]
 cases a == a' <;> cases b == b' <;> rfl
theorem guardEC (op : BinOp) (x y : Operand) (xs ys : Array Value) (w : World) : (eqGuard op 113 x y (.agg xs) (.agg ys)).run Tryz.prog w = .ok () w :=
 run_eqGuard_agg w op 113 x y xs ys (by kernel_rfl)
def eqE (a b a' b' : Int) : Bool := a == a' && b == b'
theorem eqE_iff {a b a' b' : Int} : eqE a b a' b' = true ↔ (a, b) = (a', b') := by simp [eqE]
theorem neqEC (a b a' b' : Int) (w : World) : (binOp .neq 113 (.agg #[.int .i64 a, .int .i64 b]) (.agg #[.int .i64 a', .int .i64 b'])).run Tryz.prog w = .ok (.bool (!eqE a b a' b')) w := by
 rw [run_neq_struct, run_eqEC]; rfl
theorem rsame_shut (M M' : Int) (v u : Value) (ys zs : List (Int × Int)) (w : World) (hy : Es w v ys) (hz : Es w u zs) (h : (M != M') = true ∨ (M != M') = false ∧ ((ys.length : Int) != (zs.length : Int)) = true) :
  Calls Tryz.prog 43 #[.agg #[.int .i64 M, v], .agg #[.int .i64 M', u]] w fun e w' => e = .returned (.bool false) ∧ Below w.heap.size w w' := by
 obtain ⟨a, c, rfl⟩ := hy.form
 obtain ⟨a', c', rfl⟩ := hz.form
 clear hy hz
 rcases h with h | ⟨h, h2⟩
 ·go_enter Tryz.func43, Tryz.ntmps43
  go_wp2_with fail
  go_ret
  exact ⟨rfl, ((Below.refl _ _).alloc (Nat.le_refl _) _).alloc (by simp) _⟩
 ·go_enter Tryz.func43, Tryz.ntmps43
  go_wp2_with fail
  go_ret
  exact ⟨rfl, ((Below.refl _ _).alloc (Nat.le_refl _) _).alloc (by simp) _⟩
set_option maxHeartbeats 8000000 in
theorem rsame_loop (M : Int) (v u : Value) (ys zs : List (Int × Int)) (w : World) (hy : Es w v ys) (hz : Es w u zs) (hl : ys.length ≤ 3000) (hne : ys.length = zs.length) :
  Calls Tryz.prog 43 #[.agg #[.int .i64 M, v], .agg #[.int .i64 M, u]] w fun e w' => (∃ b : Bool, e = .returned (.bool b) ∧ (b = true ↔ ys = zs)) ∧ Below w.heap.size w w' := by
 obtain ⟨a, c, rfl⟩ := hy.form
 obtain ⟨a', c', rfl⟩ := hz.form
 have hM : (M != M) = false := by simp
 have hL : ((ys.length : Int) != (zs.length : Int)) = false := by rw [hne]; simp
 have k0 : ((w.alloc (.cells #[.int .i64 M, .slice a ys.length c] 42)).alloc (.cells #[.int .i64 M, .slice a' zs.length c'] 42)).cell? ⟨w.heap.size, 1, none⟩ = some (.slice a ys.length c) := by simp
 have k1 : ((w.alloc (.cells #[.int .i64 M, .slice a ys.length c] 42)).alloc (.cells #[.int .i64 M, .slice a' zs.length c'] 42)).cell? ⟨w.heap.size + 1, 1, none⟩ = some (.slice a' zs.length c') := by simp
 have HY := Lib.hid ((hy.alloc (.cells #[.int .i64 M, .slice a ys.length c] 42)).alloc (.cells #[.int .i64 M, .slice a' zs.length c'] 42))
 have HZ := Lib.hid ((hz.alloc (.cells #[.int .i64 M, .slice a ys.length c] 42)).alloc (.cells #[.int .i64 M, .slice a' zs.length c'] 42))
 have HB : Hid (Below w.heap.size w ((w.alloc (.cells #[.int .i64 M, .slice a ys.length c] 42)).alloc (.cells #[.int .i64 M, .slice a' zs.length c'] 42))) := ((Below.refl _ w).alloc (Nat.le_refl _) _).alloc (by simp) _
 have HN := Lib.hid hne
 clear hy hz hne
 go_enter Tryz.func43, Tryz.ntmps43
 go_wp2_with fail
 obtain ⟨V, hV⟩ : ∃ V, (w.alloc (.cells #[.int .i64 M, .slice a ys.length c] 42)).alloc (.cells #[.int .i64 M, .slice a' zs.length c'] 42) = V := ⟨_, rfl⟩
 rw [hV] at k0 k1 HY HZ HB
 simp only [hV]
 clear hV
 go_loopw [5] (fun i wr => ∃ k : Nat, k ≤ ys.length ∧ i = .int .i64 k ∧ (∀ i, i < k → ys.getD i (0, 0) = zs.getD i (0, 0)) ∧ Below V.heap.size V wr) (fun i _ => ys.length - (intOf i).toNat)
 case atStart => exact ⟨0, Nat.zero_le _, rfl, fun i h => absurd h (Nat.not_lt_zero _), Below.refl _ _⟩
 case round =>
  obtain ⟨k, hk, rfl, hsame, hbel⟩ := hrel
  have HS := Lib.hid hsame
  have HW := Lib.hid hbel
  have c0 : wr.cell? ⟨w.heap.size, 1, none⟩ = some (.slice a ys.length c) := by rw [hbel.cell (World.block_lt_of_cell? V _ k0)]; exact k0
  have c1 : wr.cell? ⟨w.heap.size + 1, 1, none⟩ = some (.slice a' zs.length c') := by rw [hbel.cell (World.block_lt_of_cell? V _ k1)]; exact k1
  clear hsame hbel
  by_cases hlt : k < ys.length
  ·obtain ⟨b, off, rfl, hB, p0, p1⟩ := (HY.out.below HW.out).at hlt
   have hlt2 : k < zs.length := by have := HN.out; omega
   obtain ⟨b2, off2, rfl, hB2, q0, q1⟩ := (HZ.out.below HW.out).at hlt2
   obtain ⟨⟨y1, y2⟩, hyk⟩ : ∃ y, ys.getD k (0, 0) = y := ⟨_, rfl⟩
   obtain ⟨⟨z1, z2⟩, hzk⟩ : ∃ z, zs.getD k (0, 0) = z := ⟨_, rfl⟩
   rw [hyk] at p0 p1
   rw [hzk] at q0 q1
   simp only at p0 p1 q0 q1
   have HK := Lib.hid hyk
   have HK2 := Lib.hid hzk
   clear hyk hzk
   have E1 := guardEC
   have E2 := neqEC
   obtain ⟨q, hq⟩ : ∃ q, eqE y1 y2 z1 z2 = q := ⟨_, rfl⟩
   have HQ : Hid (q = true ↔ (y1, y2) = (z1, z2)) := by rw [← hq]; exact eqE_iff
   go_wp2_with fail
   go_region
   cases q with
   | true =>
    go_wp2_with fail
    go_roundw
    case rel =>
     refine ⟨k + 1, by omega, by go_num, ?_, HW.out.drew⟩
     intro j hj
     by_cases h : j < k
     ·exact HS.out j h
     ·obtain rfl : j = k := by omega
      rw [HK.out, HK2.out]; exact HQ.out.1 rfl
    case measure => simp [intOf]; omega
   | false =>
    go_wp2_with fail
    go_ret
    refine ⟨⟨false, rfl, ⟨(fun h => by cases h), fun h => ?_⟩⟩, (HB.out.trans (HW.out.mono HB.out.size)).drew⟩
    subst h
    exact absurd (HQ.out.2 (HK.out.symm.trans HK2.out)) (by decide)
  ·obtain rfl : k = ys.length := by omega
   go_wp2_with fail
   go_ret
   exact ⟨⟨true, rfl, ⟨fun _ => erow_ext HN.out HS.out, fun _ => rfl⟩⟩, HB.out.trans (HW.out.mono HB.out.size)⟩
theorem rsame_any (M M' : Int) (v u : Value) (ys zs : List (Int × Int)) (w : World) (hy : Es w v ys) (hz : Es w u zs) (hl : ys.length ≤ 3000) :
  Calls Tryz.prog 43 #[.agg #[.int .i64 M, v], .agg #[.int .i64 M', u]] w fun e w' => (∃ b : Bool, e = .returned (.bool b) ∧ (b = true ↔ M = M' ∧ ys = zs)) ∧ Below w.heap.size w w' := by
 by_cases hM : M = M'
 ·subst hM
  by_cases hn : ys.length = zs.length
  ·exact (rsame_loop M v u ys zs w hy hz hl hn).mono fun e w' ⟨⟨b, h1, h2⟩, h3⟩ => ⟨⟨b, h1, by rw [h2]; simp⟩, h3⟩
  ·exact (rsame_shut M M v u ys zs w hy hz (.inr ⟨by simp, by simpa using fun h => hn (by omega)⟩)).mono fun e w' ⟨h1, h2⟩ => ⟨⟨false, h1, ⟨(fun h => by cases h), fun h => absurd (congrArg List.length h.2) hn⟩⟩, h2⟩
 ·exact (rsame_shut M M' v u ys zs w hy hz (.inl (by simpa using hM))).mono fun e w' ⟨h1, h2⟩ => ⟨⟨false, h1, ⟨(fun h => by cases h), fun h => absurd h.1 hM⟩⟩, h2⟩
def OwnB2 (w : World) (b : Nat) (M : Int) (v : Value) : Prop := (w.cell? ⟨b, 0, none⟩ = some (.int .i64 M) ∧ w.cell? ⟨b, 1, none⟩ = some v) ∧ ∀ j, w.frozen? ⟨b, j, none⟩ = false
theorem ownb2_alloc (w : World) (M : Int) (v : Value) (T : TypeId) (g : Nat) (hg : g = w.heap.size) : OwnB2 (w.alloc (.cells #[.int .i64 M, v] T)) g M v := by
 subst hg
 exact ⟨⟨by simp, by simp⟩, fun j => by simp⟩
theorem OwnB2.lt {w : World} {b : Nat} {M : Int} {v : Value} (h : OwnB2 w b M v) : b < w.heap.size := World.block_lt_of_cell? w _ h.1.1
theorem OwnB2.below {w w' : World} {b : Nat} {M : Int} {v : Value} (h : OwnB2 w b M v) (hb : Below w.heap.size w w') : OwnB2 w' b M v :=
 ⟨⟨(hb.cell (p := ⟨b, 0, none⟩) h.lt).trans h.1.1, (hb.cell (p := ⟨b, 1, none⟩) h.lt).trans h.1.2⟩, fun j => (hb.frozen (p := ⟨b, j, none⟩) h.lt).trans (h.2 j)⟩
theorem OwnB2.low {w w' : World} {b S : Nat} {M : Int} {v : Value} (h : OwnB2 w b M v) (hb : b < S) (hB : Below S w w') : OwnB2 w' b M v :=
 ⟨⟨(hB.cell (p := ⟨b, 0, none⟩) hb).trans h.1.1, (hB.cell (p := ⟨b, 1, none⟩) hb).trans h.1.2⟩, fun j => (hB.frozen (p := ⟨b, j, none⟩) hb).trans (h.2 j)⟩
theorem OwnB2.set1 {w : World} {b : Nat} {M : Int} {v : Value} (h : OwnB2 w b M v) (v' : Value) : OwnB2 (w.setCell ⟨b, 1, none⟩ v') b M v' := by
 obtain ⟨⟨h0, h1⟩, hf⟩ := h
 refine ⟨⟨?_, ?_⟩, fun j => ?_⟩ <;> simp [go_sem, hf, h0, h1]
theorem gown_apart {w : World} {b S size n : Nat} {e : TypeId} {v u : Value} {xs : List Value} (h : w.ownsRow S e size v n xs) (hb : b < S) (j : Nat) : (w.setCell ⟨b, j, none⟩ u).ownsRow S e size v n xs := by
 refine ⟨h.1, ?_⟩
 rcases h.2 with h2 | ⟨g, cap, cur, rfl, h3, hg, rest⟩
 ·exact .inl h2
 ·exact .inr ⟨g, cap, cur, rfl, h3, (Below.heap_setCell w ⟨b, j, none⟩ u g (by show g ≠ b; omega)).trans hg, rest⟩
end Go.Proofs.YtjghebcnmoojmaaGreat

namespace Go.Proofs.YtjghebcnmoojmaaGreat
set_option maxRecDepth 100000
open Go.RowKit

def AkAt (ys : List (Int × Int × Int × Int)) (i : Nat) : Prop := AkOne (ys.getD i (0, 0, 0, 0)) ∧ (0 < i → (ys.getD (i - 1) (0, 0, 0, 0)).1 < (ys.getD i (0, 0, 0, 0)).1)
instance (ys : List (Int × Int × Int × Int)) (i : Nat) : Decidable (AkAt ys i) := by unfold AkAt; infer_instance
def AksOk (ys : List (Int × Int × Int × Int)) : Prop := (∀ i, i < ys.length → AkAt ys i) ∧ 1 ≤ ys.length ∧ ys.length ≤ 64
instance (ys : List (Int × Int × Int × Int)) : Decidable (AksOk ys) := by unfold AksOk; infer_instance
end Go.Proofs.YtjghebcnmoojmaaGreat

namespace Go.Proofs.YtjghebcnmoojmaaGreat
set_option maxRecDepth 100000
open Go.RowKit

def OwnA (w : World) (b : Nat) (y : Int × Int × Int × Int) : Prop := (w.cell? ⟨b, 0, none⟩ = some (.int .i64 y.1) ∧ w.cell? ⟨b, 1, none⟩ = some (.int .i64 y.2.1) ∧ w.cell? ⟨b, 2, none⟩ = some (.int .i64 y.2.2.1) ∧ w.cell? ⟨b, 3, none⟩ = some (.int .i64 y.2.2.2)) ∧ ∀ j, w.frozen? ⟨b, j, none⟩ = false
theorem owna_alloc (w : World) (i p x m : Int) (T : TypeId) (g : Nat) (hg : g = w.heap.size) : OwnA (w.alloc (.cells #[.int .i64 i, .int .i64 p, .int .i64 x, .int .i64 m] T)) g (i, p, x, m) := by
 subst hg
 refine ⟨⟨by simp, by simp, by simp, by simp⟩, fun j => by simp⟩
theorem OwnA.lt {w : World} {b : Nat} {y : Int × Int × Int × Int} (h : OwnA w b y) : b < w.heap.size := World.block_lt_of_cell? w _ h.1.1
theorem OwnA.low {w w' : World} {b S : Nat} {y : Int × Int × Int × Int} (h : OwnA w b y) (hb : b < S) (hB : Below S w w') : OwnA w' b y :=
 ⟨⟨(hB.cell (p := ⟨b, 0, none⟩) hb).trans h.1.1, (hB.cell (p := ⟨b, 1, none⟩) hb).trans h.1.2.1, (hB.cell (p := ⟨b, 2, none⟩) hb).trans h.1.2.2.1, (hB.cell (p := ⟨b, 3, none⟩) hb).trans h.1.2.2.2⟩, fun j => (hB.frozen (p := ⟨b, j, none⟩) hb).trans (h.2 j)⟩
theorem OwnA.below {w w' : World} {b : Nat} {y : Int × Int × Int × Int} (h : OwnA w b y) (hb : Below w.heap.size w w') : OwnA w' b y := h.low h.lt hb
def put4 (w : World) (b : Nat) (i p x m : Int) : World := (((w.setCell ⟨b, 0, none⟩ (.int .i64 i)).setCell ⟨b, 1, none⟩ (.int .i64 p)).setCell ⟨b, 2, none⟩ (.int .i64 x)).setCell ⟨b, 3, none⟩ (.int .i64 m)
theorem OwnA.set {w : World} {b : Nat} {y : Int × Int × Int × Int} (h : OwnA w b y) (i p x m : Int) : OwnA (put4 w b i p x m) b (i, p, x, m) := by
 obtain ⟨⟨h0, h1, h2, h3⟩, hf⟩ := h
 unfold put4
 refine ⟨⟨?_, ?_, ?_, ?_⟩, fun j => ?_⟩ <;> simp [go_sem, hf, h0, h1, h2, h3]
end Go.Proofs.YtjghebcnmoojmaaGreat

namespace Go.Proofs.YtjghebcnmoojmaaGreat
set_option maxRecDepth 100000
open Go.RowKit

def shB (n : Int) : Bool := decide (0 ≤ n) && decide (n ≤ 65535)
theorem akshort_any (n : Int) (w : World) : Calls Tryz.prog 152 #[.int .i64 n] w fun e w' => e = .returned (.bool (shB n)) ∧ w = w' := by
 unfold shB
 by_cases h1 : 0 ≤ n
 ·by_cases h2 : n ≤ 65535
  ·go_enter Tryz.func152, Tryz.ntmps152
   go_wp2
   go_ret
   exact ⟨by simp [h1, h2], rfl⟩
  ·have d2 : decide (n ≤ 65535) = false := decide_eq_false h2
   go_enter Tryz.func152, Tryz.ntmps152
   go_wp2
   go_ret
   exact ⟨by simp, rfl⟩
 ·have d1 : decide (0 ≤ n) = false := decide_eq_false h1
  go_enter Tryz.func152, Tryz.ntmps152
  go_wp2
  go_ret
  exact ⟨by simp, rfl⟩
theorem shB_iff (n : Int) : shB n = true ↔ 0 ≤ n ∧ n ≤ 65535 := by simp [shB]
set_option maxHeartbeats 8000000 in
theorem akone_fix (i p n m : Int) (Q : Bool) (hQ : Q = true ↔ AkOne (i, p, n, m)) (w : World) :
  Calls Tryz.prog 135 #[.agg #[.int .i64 i, .int .i64 p, .int .i64 n, .int .i64 m]] w fun e w' => e = .returned (.bool Q) ∧ Below w.heap.size w w' := by
 unfold AkOne EpOk at hQ
 simp only at hQ
 rw [← shB_iff n, ← shB_iff m] at hQ
 have CN := Lib.hid (akshort_any n)
 have CM := Lib.hid (akshort_any m)
 have HB : Hid (Below w.heap.size w (w.alloc (.cells #[.int .i64 i, .int .i64 p, .int .i64 n, .int .i64 m] 120))) := (Below.refl _ w).alloc (Nat.le_refl _) _
 generalize shB n = qn at *
 generalize shB m = qm at *
 by_cases h0 : 0 ≤ i
 ·skip
  by_cases h1 : i < 64
  ·skip
   by_cases h2 : 0 ≤ p
   ·skip
    by_cases h3 : p ≤ 4294967295
    ·skip
     cases qn with
     | false =>
      have HQ : Hid (Q = false) := by
       cases Q with
       | false => rfl
       | true => have h9 := hQ.1 rfl; first | (exact absurd h9.2.2.1 (by decide)) | omega
      clear hQ
      go_enter Tryz.func135, Tryz.ntmps135
      go_wp2_with fail
      refine (CN.out _).mono ?_
      rintro e w' ⟨rfl, hw⟩
      subst hw
      go_wp2_with fail
      go_ret
      exact ⟨by rw [HQ.out]; rfl, HB.out⟩
     | true =>
      have HQ : Hid (Q = qm) := by
       show Q = qm
       rw [Bool.eq_iff_iff, hQ]
       exact ⟨fun h => h.2.2.2, fun h => ⟨⟨h0, h1⟩, ⟨h2, h3⟩, rfl, h⟩⟩
      clear hQ
      go_enter Tryz.func135, Tryz.ntmps135
      go_wp2_with fail
      refine (CN.out _).mono ?_
      rintro e w' ⟨rfl, hw⟩
      subst hw
      go_wp2_with fail
      refine (CM.out _).mono ?_
      rintro e w' ⟨rfl, hw⟩
      subst hw
      go_wp2_with fail
      go_ret
      exact ⟨by rw [HQ.out]; rfl, HB.out⟩
    ·skip
     have d : decide (p ≤ 4294967295) = false := decide_eq_false h3
     have HQ : Hid (Q = false) := by
      cases Q with
      | false => rfl
      | true => have h9 := hQ.1 rfl; first | (exact absurd h9.1 (by decide)) | omega
     clear hQ
     go_enter Tryz.func135, Tryz.ntmps135
     go_wp2_with fail
     go_ret
     exact ⟨by rw [HQ.out]; rfl, HB.out⟩
   ·skip
    have d : decide (0 ≤ p) = false := decide_eq_false h2
    have HQ : Hid (Q = false) := by
     cases Q with
     | false => rfl
     | true => have h9 := hQ.1 rfl; first | (exact absurd h9.1 (by decide)) | omega
    clear hQ
    go_enter Tryz.func135, Tryz.ntmps135
    go_wp2_with fail
    go_ret
    exact ⟨by rw [HQ.out]; rfl, HB.out⟩
  ·skip
   have d : decide (i < 64) = false := decide_eq_false h1
   have HQ : Hid (Q = false) := by
    cases Q with
    | false => rfl
    | true => have h9 := hQ.1 rfl; first | (exact absurd h9.1 (by decide)) | omega
   clear hQ
   go_enter Tryz.func135, Tryz.ntmps135
   go_wp2_with fail
   go_ret
   exact ⟨by rw [HQ.out]; rfl, HB.out⟩
 ·skip
  have d : decide (0 ≤ i) = false := decide_eq_false h0
  have HQ : Hid (Q = false) := by
   cases Q with
   | false => rfl
   | true => have h9 := hQ.1 rfl; first | (exact absurd h9.1 (by decide)) | omega
  clear hQ
  go_enter Tryz.func135, Tryz.ntmps135
  go_wp2_with fail
  go_ret
  exact ⟨by rw [HQ.out]; rfl, HB.out⟩
end Go.Proofs.YtjghebcnmoojmaaGreat

namespace Go.Proofs.YtjghebcnmoojmaaGreat
set_option maxRecDepth 100000
open Go.RowKit

def preI (ys : List (Int × Int × Int × Int)) (i : Nat) : Int := if i = 0 then -1 else (ys.getD (i - 1) (0, 0, 0, 0)).1
def Rise (ys : List (Int × Int × Int × Int)) : Prop := ∀ i, i < ys.length → preI ys i < (ys.getD i (0, 0, 0, 0)).1
instance (ys : List (Int × Int × Int × Int)) : Decidable (Rise ys) := by unfold Rise; infer_instance
theorem rise_ge {ys : List (Int × Int × Int × Int)} (h : Rise ys) : ∀ i, i < ys.length → (i : Int) ≤ (ys.getD i (0, 0, 0, 0)).1
 | 0, hi => by have := h 0 hi; simp only [preI, if_true] at this; omega
 | i + 1, hi => by
  have h1 := rise_ge h i (by omega)
  have h2 := h (i + 1) hi
  simp only [preI, Nat.add_sub_cancel] at h2
  rw [if_neg (by omega)] at h2
  omega
theorem aksok_iff (ys : List (Int × Int × Int × Int)) : AksOk ys ↔ ys.length ≠ 0 ∧ Rise ys ∧ ∀ i, i < ys.length → AkOne (ys.getD i (0, 0, 0, 0)) := by
 constructor
 ·rintro ⟨h1, h2, h3⟩
  refine ⟨by omega, fun i hi => ?_, fun i hi => (h1 i hi).1⟩
  unfold preI
  by_cases h : i = 0
  ·rw [if_pos h]
   have := (h1 i hi).1.1.1
   omega
  ·rw [if_neg h]; exact (h1 i hi).2 (by omega)
 ·rintro ⟨h1, h2, h3⟩
  refine ⟨fun i hi => ⟨h3 i hi, fun h => ?_⟩, by omega, ?_⟩
  ·have := h2 i hi
   unfold preI at this
   rwa [if_neg (by omega)] at this
  ·have h4 := rise_ge h2 (ys.length - 1) (by omega)
   have h5 := (h3 (ys.length - 1) (by omega)).1.2
   omega
set_option maxHeartbeats 8000000 in
theorem akrise_fix (v : Value) (ys : List (Int × Int × Int × Int)) (Q : Bool) (hQ : Q = true ↔ Rise ys) (w : World) (hy : As w v ys) (hl : ys.length ≤ 3000) :
  Calls Tryz.prog 134 #[v] w fun e w' => e = .returned (.bool Q) ∧ Below w.heap.size w w' := by
 obtain ⟨a, c, rfl⟩ := hy.form
 have HQ := Lib.hid hQ
 have HY := Lib.hid hy
 clear hy hQ
 go_enter Tryz.func134, Tryz.ntmps134
 go_wp2_with fail
 go_loopw [3, 8] (fun p i wr => ∃ k : Nat, k ≤ ys.length ∧ i = .int .i64 k ∧ p = .int .i64 (preI ys k) ∧ (∀ i, i < k → preI ys i < (ys.getD i (0, 0, 0, 0)).1) ∧ Below w.heap.size w wr) (fun _ i _ => ys.length - (intOf i).toNat)
 case atStart => exact ⟨0, Nat.zero_le _, rfl, rfl, fun i h => absurd h (Nat.not_lt_zero _), Below.refl _ _⟩
 case round =>
  obtain ⟨k, hk, rfl, rfl, hok, hbel⟩ := hrel
  have HO := Lib.hid hok
  have HW := Lib.hid hbel
  clear hok hbel
  by_cases hlt : k < ys.length
  ·have YV := Lib.hid (HY.out.below HW.out)
   obtain ⟨b, off, rfl, hB, p0⟩ := YV.out.at hlt
   obtain ⟨⟨y1, y2, y3, y4⟩, hyk⟩ : ∃ y, ys.getD k (0, 0, 0, 0) = y := ⟨_, rfl⟩
   have HS : Hid (preI ys (k + 1) = y1) := by
    show _ = _
    unfold preI
    rw [if_neg (by omega), Nat.add_sub_cancel, hyk]
   obtain ⟨P, hP⟩ : ∃ P, preI ys k = P := ⟨_, rfl⟩
   rw [hyk] at p0
   rw [hP]
   have HK := Lib.hid hyk
   have HP := Lib.hid hP
   have HA : Hid (Below w.heap.size w (wr.alloc (.cells #[.int .i64 y1, .int .i64 y2, .int .i64 y3, .int .i64 y4] 120))) := HW.out.alloc HW.out.size _
   clear hyk hP
   obtain ⟨p0, p1, p2, p3⟩ := p0
   simp only at p0 p1 p2 p3
   by_cases g : y1 ≤ P
   ·have F : Hid (Q = false) := by
     show Q = false
     cases hq : Q with
     | false => rfl
     | true => have h9 := (HQ.out.1 hq) k hlt; rw [HK.out, HP.out] at h9; simp only at h9; omega
    go_wp2_with fail
    go_ret
    exact ⟨by rw [F.out]; rfl, HA.out⟩
   ·have g' : decide (y1 ≤ P) = false := decide_eq_false g
    go_wp2_with fail
    go_roundw
    case rel =>
     refine ⟨k + 1, by omega, by go_num, by rw [HS.out], fun j hj => ?_, HA.out⟩
     by_cases h : j < k
     ·exact HO.out j h
     ·obtain rfl : j = k := by omega
      rw [HK.out, HP.out]; simp only; omega
    case measure => simp [intOf]; omega
  ·obtain rfl : k = ys.length := by omega
   have F : Hid (Q = true) := HQ.out.2 HO.out
   go_wp2_with fail
   go_ret
   exact ⟨by rw [F.out]; rfl, HW.out⟩
def errQ : Bool → Int
 | true => 0
 | false => 1
set_option maxHeartbeats 8000000 in
theorem akcheck_fix (v : Value) (ys : List (Int × Int × Int × Int)) (Q : Bool) (hQ : Q = true ↔ AksOk ys) (w : World) (hy : As w v ys) (hl : ys.length ≤ 3000) :
  Calls Tryz.prog 104 #[v] w fun e w' => e = .returned (.int .i64 (errQ Q)) ∧ Below w.heap.size w w' := by
 obtain ⟨a, c, rfl⟩ := hy.form
 rw [aksok_iff] at hQ
 have HQ := Lib.hid hQ
 have HY := Lib.hid hy
 clear hQ
 by_cases h0 : ys.length = 0
 ·have F : Hid (Q = false) := by
   show Q = false
   cases hq : Q with
   | false => rfl
   | true => exact absurd h0 (HQ.out.1 hq).1
  have h0' : ((ys.length : Int) == 0) = true := by simp [h0]
  go_enter Tryz.func104, Tryz.ntmps104
  go_wp2_with fail
  go_ret
  exact ⟨by rw [F.out]; rfl, Below.refl _ _⟩
 ·have h0' : ((ys.length : Int) == 0) = false := beq_eq_false_iff_ne.2 (by omega)
  have HN := Lib.hid h0
  obtain ⟨q, hq⟩ : ∃ q : Bool, q = true ↔ Rise ys := ⟨decide (Rise ys), decide_eq_true_iff⟩
  have CR := Lib.hid (akrise_fix (.slice a ys.length c) ys q hq w hy hl)
  have HR := Lib.hid hq
  clear hq hy
  go_enter Tryz.func104, Tryz.ntmps104
  go_wp2_with fail
  refine CR.out.mono ?_
  rintro e w2 ⟨rfl, hb⟩
  have HB := Lib.hid hb
  clear hb CR h0'
  cases q with
  | false =>
   have F : Hid (Q = false) := by
    show Q = false
    cases hq : Q with
    | false => rfl
    | true => have h9 := HR.out.2 (HQ.out.1 hq).2.1; cases h9
   go_wp2_with fail
   go_ret
   exact ⟨by rw [F.out]; rfl, HB.out⟩
  | true =>
   have HR2 : Hid (Rise ys) := HR.out.1 rfl
   go_wp2_with fail
   go_loopw [15] (fun i wr => ∃ k : Nat, k ≤ ys.length ∧ i = .int .i64 k ∧ (∀ i, i < k → AkOne (ys.getD i (0, 0, 0, 0))) ∧ Below w.heap.size w wr) (fun i _ => ys.length - (intOf i).toNat)
   case atStart => exact ⟨0, Nat.zero_le _, rfl, fun i h => absurd h (Nat.not_lt_zero _), HB.out⟩
   case round =>
    obtain ⟨k, hk, rfl, hok, hbel⟩ := hrel
    have HO := Lib.hid hok
    have HW := Lib.hid hbel
    clear hok hbel
    by_cases hlt : k < ys.length
    ·have YV := Lib.hid (HY.out.below HW.out)
     obtain ⟨b, off, rfl, hB, p0⟩ := YV.out.at hlt
     obtain ⟨⟨y1, y2, y3, y4⟩, hyk⟩ : ∃ y, ys.getD k (0, 0, 0, 0) = y := ⟨_, rfl⟩
     rw [hyk] at p0
     have HK := Lib.hid hyk
     have HA : Hid (Below w.heap.size w (wr.alloc (.cells #[.int .i64 y1, .int .i64 y2, .int .i64 y3, .int .i64 y4] 120))) := HW.out.alloc HW.out.size _
     obtain ⟨q2, hq2⟩ : ∃ q : Bool, q = true ↔ AkOne (y1, y2, y3, y4) := ⟨decide (AkOne (y1, y2, y3, y4)), decide_eq_true_iff⟩
     have CO := Lib.hid (fun W => akone_fix y1 y2 y3 y4 q2 hq2 W)
     have HE := Lib.hid hq2
     clear hyk hq2
     obtain ⟨p0, p1, p2, p3⟩ := p0
     simp only at p0 p1 p2 p3
     go_wp2_with fail
     refine (CO.out _).mono ?_
     rintro e w3 ⟨rfl, hb⟩
     have HB3 : Hid (Below w.heap.size w w3) := HA.out.trans (hb.mono HA.out.size)
     clear hb
     cases q2 with
     | false =>
      have F : Hid (Q = false) := by
       show Q = false
       cases hq : Q with
       | false => rfl
       | true => have h9 := (HQ.out.1 hq).2.2 k hlt; rw [HK.out] at h9; have h8 := HE.out.2 h9; cases h8
      go_wp2_with fail
      go_ret
      exact ⟨by rw [F.out]; rfl, HB3.out⟩
     | true =>
      have HE2 : Hid (AkOne (y1, y2, y3, y4)) := HE.out.1 rfl
      go_wp2_with fail
      go_roundw
      case rel =>
       refine ⟨k + 1, by omega, by go_num, fun j hj => ?_, HB3.out⟩
       by_cases h : j < k
       ·exact HO.out j h
       ·obtain rfl : j = k := by omega
        rw [HK.out]; exact HE2.out
      case measure => simp [intOf]; omega
    ·obtain rfl : k = ys.length := by omega
     have F : Hid (Q = true) := HQ.out.2 ⟨HN.out, HR2.out, HO.out⟩
     go_wp2_with fail
     go_ret
     exact ⟨by rw [F.out]; rfl, HW.out⟩
end Go.Proofs.YtjghebcnmoojmaaGreat

namespace Go.Proofs.YtjghebcnmoojmaaGreat
set_option maxRecDepth 100000
open Go.RowKit

set_option maxHeartbeats 8000000 in
theorem rsameA_any (v u : Value) (ys zs : List (Int × Int × Int × Int)) (w : World) (hy : As w v ys) (hz : As w u zs) (hl : ys.length ≤ 3000) :
  Calls Tryz.prog 62 #[v, u] w fun e w' => (∃ b : Bool, e = .returned (.bool b) ∧ (b = true ↔ ys = zs)) ∧ Below w.heap.size w w' := by
 obtain ⟨a, c, rfl⟩ := hy.form
 obtain ⟨a', c', rfl⟩ := hz.form
 have HY := Lib.hid hy
 have HZ := Lib.hid hz
 clear hy hz
 by_cases hne : ys.length = zs.length
 ·have hL : ((ys.length : Int) != (zs.length : Int)) = false := by rw [hne]; simp
  have HN := Lib.hid hne
  clear hne
  go_enter Tryz.func62, Tryz.ntmps62
  go_wp2_with fail
  go_loopw [5] (fun i wr => ∃ k : Nat, k ≤ ys.length ∧ i = .int .i64 k ∧ (∀ i, i < k → ys.getD i (0, 0, 0, 0) = zs.getD i (0, 0, 0, 0)) ∧ Below w.heap.size w wr) (fun i _ => ys.length - (intOf i).toNat)
  case atStart => exact ⟨0, Nat.zero_le _, rfl, fun i h => absurd h (Nat.not_lt_zero _), Below.refl _ _⟩
  case round =>
   obtain ⟨k, hk, rfl, hsame, hbel⟩ := hrel
   have HS := Lib.hid hsame
   have HW := Lib.hid hbel
   clear hsame hbel
   by_cases hlt : k < ys.length
   ·obtain ⟨b, off, rfl, hB, p0, p1, p2, p3⟩ := (HY.out.below HW.out).at hlt
    have hlt2 : k < zs.length := by have := HN.out; omega
    obtain ⟨b2, off2, rfl, hB2, q0, q1, q2, q3⟩ := (HZ.out.below HW.out).at hlt2
    obtain ⟨⟨y1, y2, y3, y4⟩, hyk⟩ : ∃ y, ys.getD k (0, 0, 0, 0) = y := ⟨_, rfl⟩
    obtain ⟨⟨z1, z2, z3, z4⟩, hzk⟩ : ∃ z, zs.getD k (0, 0, 0, 0) = z := ⟨_, rfl⟩
    rw [hyk] at p0 p1 p2 p3
    rw [hzk] at q0 q1 q2 q3
    simp only at p0 p1 p2 p3 q0 q1 q2 q3
    have HK := Lib.hid hyk
    have HK2 := Lib.hid hzk
    clear hyk hzk
    have E1 := guardAK
    have E2 := neqAK
    obtain ⟨q, hq⟩ : ∃ q, eqA y1 y2 y3 y4 z1 z2 z3 z4 = q := ⟨_, rfl⟩
    have HQ : Hid (q = true ↔ (y1, y2, y3, y4) = (z1, z2, z3, z4)) := by rw [← hq]; exact eqA_iff
    go_wp2_with fail
    go_region
    cases q with
    | true =>
     go_wp2_with fail
     go_roundw
     case rel =>
      refine ⟨k + 1, by omega, by go_num, ?_, HW.out.drew⟩
      intro j hj
      by_cases h : j < k
      ·exact HS.out j h
      ·obtain rfl : j = k := by omega
       rw [HK.out, HK2.out]; exact HQ.out.1 rfl
     case measure => simp [intOf]; omega
    | false =>
     go_wp2_with fail
     go_ret
     refine ⟨⟨false, rfl, ⟨(fun h => by cases h), fun h => ?_⟩⟩, HW.out.drew⟩
     subst h
     exact absurd (HQ.out.2 (HK.out.symm.trans HK2.out)) (by decide)
   ·obtain rfl : k = ys.length := by omega
    go_wp2_with fail
    go_ret
    exact ⟨⟨true, rfl, ⟨fun _ => arow_ext HN.out HS.out, fun _ => rfl⟩⟩, HW.out⟩
 ·have hL : ((ys.length : Int) != (zs.length : Int)) = true := by simpa using fun h : (ys.length : Int) = zs.length => hne (by omega)
  go_enter Tryz.func62, Tryz.ntmps62
  go_wp2_with fail
  go_ret
  exact ⟨⟨false, rfl, ⟨(fun h => by cases h), fun h => absurd (congrArg List.length h) hne⟩⟩, Below.refl _ _⟩
end Go.Proofs.YtjghebcnmoojmaaGreat
