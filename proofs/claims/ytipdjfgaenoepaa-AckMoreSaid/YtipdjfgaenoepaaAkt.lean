/- Acks: in memory, as arguments; which one is right; '==' of them. No conditions. -/
import Derived.Test.YtipdjfgaenoepaaGrw
import Derived.Test.YtipdjfgaenoepaaFcl
import Derived.Laws.StructEq
namespace Go.Proofs.Ytipdjfgaenoepaa
set_option maxRecDepth 100000
open Go.RowKit Go.WideShapes Go.ChangeShapes

/-- An ack: whose, of which epoch, what is next, which came. -/
def ak (y : Int × Int × Int × Int) : List Value := [.int .i64 y.1, .int .i64 y.2.1, .int .i64 y.2.2.1, .int .i64 y.2.2.2]
theorem infoAK : (Try.prog.info? 30).map (fun i => (i.zero, i.size, i.bytes)) = some (some (.agg #[.int .i64 0, .int .i64 0, .int .i64 0, .int .i64 0]), 4, 32) := by kernel_rfl
theorem underAS : Try.prog.underlying 22 = some (.slice 30) := by kernel_rfl
theorem underAK : Try.prog.underlying 30 = some (.struct (Try.prog.fieldsOf 30)) := by kernel_rfl
theorem cellsAK : Try.prog.cellsOf 30 = 4 := by kernel_rfl
theorem ak_ones (y : Int × Int × Int × Int) : ∀ u ∈ ak y, u.oneCell' = true := by
  intro u hu
  simp only [ak, List.mem_cons, List.not_mem_nil, or_false] at hu
  rcases hu with rfl | rfl | rfl | rfl <;> rfl
/-- Rows of acks. -/
noncomputable def RA : RowT where
  α := Int × Int × Int × Int
  d := (0, 0, 0, 0)
  cl := ak
  K := 4
  T := 30
  SL := 22
  zero := .agg #[.int .i64 0, .int .i64 0, .int .i64 0, .int .i64 0]
  bytes := 32
  hcl := fun _ => rfl
  hK := by decide
  hone := ak_ones
  hSL := underAS
  hinfo := infoAK
  hz := rfl
  hb := by decide
  hc := cellsAK
/-- A slice of acks that reads as ys. -/
def As (w : World) (v : Value) (ys : List (Int × Int × Int × Int)) : Prop := Gs RA w v ys
def aflat (ys : List (Int × Int × Int × Int)) : List Value := ys.flatMap ak
theorem As.below {w w' : World} {v : Value} {ys : List (Int × Int × Int × Int)} (h : As w v ys) (hb : Below w.heap.size w w') : As w' v ys := Gs.below (R := RA) h hb
theorem As.alloc {w : World} {v : Value} {ys : List (Int × Int × Int × Int)} (h : As w v ys) (O : Obj) : As (w.alloc O) v ys := Gs.alloc (R := RA) h O
theorem As.form {w : World} {v : Value} {ys : List (Int × Int × Int × Int)} (h : As w v ys) : ∃ a c, v = .slice a ys.length c := Gs.form (R := RA) h
theorem As_nil (w : World) : As w (.slice none 0 0) [] := Gs_nil (R := RA) w
/-- The four cells of an ack. -/
def Cells4 (w : World) (b o : Nat) (y : Int × Int × Int × Int) : Prop := w.cell? ⟨b, o, none⟩ = some (.int .i64 y.1) ∧ w.cell? ⟨b, o + 1, none⟩ = some (.int .i64 y.2.1) ∧ w.cell? ⟨b, o + 2, none⟩ = some (.int .i64 y.2.2.1) ∧ w.cell? ⟨b, o + 3, none⟩ = some (.int .i64 y.2.2.2)
theorem ak_of {w : World} {b o : Nat} {y : Int × Int × Int × Int} (h : GC RA w b o y) : Cells4 w b o y := ⟨h 0 (by decide), h 1 (by decide), h 2 (by decide), h 3 (by decide)⟩
theorem Cells4.below {w w' : World} {b o : Nat} {y : Int × Int × Int × Int} (h : Cells4 w b o y) (hb : Below w.heap.size w w') : Cells4 w' b o y := by
  obtain ⟨h0, h1, h2, h3⟩ := h
  exact ⟨by rw [hb.cell (World.block_lt_of_cell? w _ h0)]; exact h0, by rw [hb.cell (World.block_lt_of_cell? w _ h1)]; exact h1, by rw [hb.cell (World.block_lt_of_cell? w _ h2)]; exact h2, by rw [hb.cell (World.block_lt_of_cell? w _ h3)]; exact h3⟩
theorem As.at {w : World} {a : Option Addr} {c : Nat} {ys : List (Int × Int × Int × Int)} (h : As w (.slice a ys.length c) ys) {i : Nat} (hi : i < ys.length) : ∃ b off, a = some ⟨b, off, none⟩ ∧ b < w.heap.size ∧ Cells4 w b (off + i * 4) (ys.getD i (0, 0, 0, 0)) := by
  obtain ⟨b, off, h1, h2, h3⟩ := Gs.at (R := RA) h hi
  exact ⟨b, off, h1, h2, ak_of h3⟩
theorem As.all {w : World} {b off c : Nat} {ys : List (Int × Int × Int × Int)} (h : As w (.slice (some ⟨b, off, none⟩) ys.length c) ys) {i : Nat} (hi : i < ys.length) : b < w.heap.size ∧ Cells4 w b (off + i * 4) (ys.getD i (0, 0, 0, 0)) := by
  obtain ⟨h2, h3⟩ := Gs.all (R := RA) h hi
  exact ⟨h2, ak_of h3⟩
theorem As_of_own {w : World} {base n : Nat} {v : Value} {ys : List (Int × Int × Int × Int)} (h : w.ownsRow base 30 4 v n (aflat ys)) : As w v ys ∧ n = ys.length := Gs_of_own (R := RA) h
theorem arow_ext {ys zs : List (Int × Int × Int × Int)} (hl : ys.length = zs.length) (h : ∀ i, i < ys.length → ys.getD i (0, 0, 0, 0) = zs.getD i (0, 0, 0, 0)) : ys = zs := grow_ext (R := RA) hl h
theorem aown_nil (w : World) (base : Nat) : w.ownsRow base 30 4 (.slice none 0 0) 0 (aflat []) := gown_nil (R := RA) w base

/-! ### As an argument -/
theorem ak_form {H : Type} {enc : TypeId × Value → H} {w : World} {base n' : Nat} {spare : Nat → Bool} {held : Bool} {cs : List Value} {X : DataW H × List MemPlace} (hl4 : cs.length = 4)
    (hf : DataW.trod enc Try.prog w base spare held n' 30 cs = some X) : ∃ y : Int × Int × Int × Int, cs = ak y := by
  obtain ⟨c0, c1, c2, c3, rfl⟩ : ∃ c0 c1 c2 c3, cs = [c0, c1, c2, c3] := by
    match cs, hl4 with
    | [c0, c1, c2, c3], _ => exact ⟨c0, c1, c2, c3, rfl⟩
  clear hl4
  obtain ⟨xs, M, _, _, _, hl, hx⟩ := DataW.trod_struct underAK hf
  obtain ⟨x0, rfl, _⟩ := int_cell (cell_form (j := 0) (T := 3) (O := 0) (v := c0) hl hx (by kernel_rfl) (by kernel_rfl) rfl)
  obtain ⟨x1, rfl, _⟩ := int_cell (cell_form (j := 1) (T := 3) (O := 1) (v := c1) hl hx (by kernel_rfl) (by kernel_rfl) rfl)
  obtain ⟨x2, rfl, _⟩ := int_cell (cell_form (j := 2) (T := 3) (O := 2) (v := c2) hl hx (by kernel_rfl) (by kernel_rfl) rfl)
  obtain ⟨x3, rfl, _⟩ := int_cell (cell_form (j := 3) (T := 3) (O := 3) (v := c3) hl hx (by kernel_rfl) (by kernel_rfl) rfl)
  exact ⟨(x0, x1, x2, x3), rfl⟩
/-- Rows of acks as an argument. -/
theorem as_form {H : Type} {enc : TypeId × Value → H} {w : World} {base : Nat} {spare : Nat → Bool} {held : Bool} {x : Option Addr} {l c : Nat} {d : DataW H} {p : List MemPlace}
    (h : DataW.Trod enc Try.prog w base spare held 22 (.slice x l c) d p) : ∃ ys : List (Int × Int × Int × Int), ys.length = l ∧ As w (.slice x l c) ys := by
  obtain ⟨fuel, hf⟩ := h
  obtain ⟨a, cap, ys, h1, h2⟩ := gs_trod (R := RA) (u := .slice x l c) (fun n' cs X h1 h2 => ak_form h1 h2) hf
  simp only [Value.slice.injEq] at h1
  exact ⟨ys, h1.2.1.symm, h2⟩

/-! ### The reference's Epoch -/
def EpOk (n : Int) : Prop := 0 ≤ n ∧ n ≤ 4294967295
instance (n : Int) : Decidable (EpOk n) := by unfold EpOk; infer_instance
theorem repoch_fix (n : Int) (q : Bool) (hq : q = true ↔ EpOk n) (w : World) : Calls Try.prog 42 #[.int .i64 n] w fun e w' => e = .returned (.bool q) ∧ w = w' := by
  unfold EpOk at hq
  by_cases h1 : 0 ≤ n
  · by_cases h2 : n ≤ 4294967295
    · obtain rfl : q = true := hq.2 ⟨h1, h2⟩
      clear hq
      go_enter Try.func42, Try.ntmps42
      go_wp2
      go_ret
      exact ⟨rfl, rfl⟩
    · obtain rfl : q = false := by cases q with
        | false => rfl
        | true => exact absurd (hq.1 rfl).2 h2
      clear hq
      go_enter Try.func42, Try.ntmps42
      go_wp2
      go_ret
      exact ⟨rfl, rfl⟩
  · obtain rfl : q = false := by cases q with
      | false => rfl
      | true => exact absurd (hq.1 rfl).1 h1
    clear hq
    go_enter Try.func42, Try.ntmps42
    go_wp2
    go_ret
    exact ⟨rfl, rfl⟩

/-! ### One ack -/
def AkOne (y : Int × Int × Int × Int) : Prop := (0 ≤ y.1 ∧ y.1 < 64) ∧ EpOk y.2.1 ∧ (0 ≤ y.2.2.1 ∧ y.2.2.1 ≤ 65535) ∧ (0 ≤ y.2.2.2 ∧ y.2.2.2 ≤ 65535)
instance (y : Int × Int × Int × Int) : Decidable (AkOne y) := by unfold AkOne; infer_instance
set_option maxHeartbeats 8000000 in
theorem rone_fix (i p n m : Int) (Q : Bool) (hQ : Q = true ↔ AkOne (i, p, n, m)) (w : World) :
    Calls Try.prog 32 #[.agg #[.int .i64 i, .int .i64 p, .int .i64 n, .int .i64 m]] w fun e w' => e = .returned (.bool Q) ∧ Below w.heap.size w w' := by
  obtain ⟨q, hq⟩ : ∃ q : Bool, q = true ↔ EpOk p := ⟨decide (EpOk p), decide_eq_true_iff⟩
  unfold AkOne at hQ
  simp only at hQ
  rw [← hq] at hQ
  have HB : Hid (Below w.heap.size w (w.alloc (.cells #[.int .i64 i, .int .i64 p, .int .i64 n, .int .i64 m] 30))) := (Below.refl _ w).alloc (Nat.le_refl _) _
  by_cases h0 : 0 ≤ i
  · by_cases h1 : i < 64
    · cases q with
      | false =>
        obtain rfl : Q = false := by
          cases Q with
          | false => rfl
          | true => have := hQ.1 rfl; first | (exact absurd this.2.1 (by decide)) | omega
        clear hQ
        have HQ := Lib.hid hq
        clear hq
        go_enter Try.func32, Try.ntmps32
        go_wp2_with (go_at_call 42; refine (repoch_fix p false HQ.out _).mono ?_; rintro e w' ⟨rfl, rfl⟩)
        go_ret
        exact ⟨rfl, HB.out⟩
      | true =>
        by_cases h3 : 0 ≤ n
        · by_cases h4 : n ≤ 65535
          · by_cases h5 : 0 ≤ m
            · by_cases h6 : m ≤ 65535
              · obtain rfl : Q = true := hQ.2 ⟨⟨h0, h1⟩, rfl, ⟨h3, h4⟩, h5, h6⟩
                clear hQ
                have HQ := Lib.hid hq
                clear hq
                go_enter Try.func32, Try.ntmps32
                go_wp2_with (go_at_call 42; refine (repoch_fix p true HQ.out _).mono ?_; rintro e w' ⟨rfl, rfl⟩)
                go_ret
                exact ⟨rfl, HB.out⟩
              · obtain rfl : Q = false := by
                  cases Q with
                  | false => rfl
                  | true => have := hQ.1 rfl; first | (exact absurd this.2.1 (by decide)) | omega
                have d6 : decide (m ≤ 65535) = false := decide_eq_false h6
                clear hQ
                have HQ := Lib.hid hq
                clear hq
                go_enter Try.func32, Try.ntmps32
                go_wp2_with (go_at_call 42; refine (repoch_fix p true HQ.out _).mono ?_; rintro e w' ⟨rfl, rfl⟩)
                go_ret
                exact ⟨rfl, HB.out⟩
            · obtain rfl : Q = false := by
                cases Q with
                | false => rfl
                | true => have := hQ.1 rfl; first | (exact absurd this.2.1 (by decide)) | omega
              clear hQ
              have HQ := Lib.hid hq
              clear hq
              go_enter Try.func32, Try.ntmps32
              go_wp2_with (go_at_call 42; refine (repoch_fix p true HQ.out _).mono ?_; rintro e w' ⟨rfl, rfl⟩)
              go_ret
              exact ⟨rfl, HB.out⟩
          · obtain rfl : Q = false := by
              cases Q with
              | false => rfl
              | true => have := hQ.1 rfl; first | (exact absurd this.2.1 (by decide)) | omega
            clear hQ
            have HQ := Lib.hid hq
            clear hq
            go_enter Try.func32, Try.ntmps32
            go_wp2_with (go_at_call 42; refine (repoch_fix p true HQ.out _).mono ?_; rintro e w' ⟨rfl, rfl⟩)
            go_ret
            exact ⟨rfl, HB.out⟩
        · obtain rfl : Q = false := by
            cases Q with
            | false => rfl
            | true => have := hQ.1 rfl; first | (exact absurd this.2.1 (by decide)) | omega
          clear hQ
          have HQ := Lib.hid hq
          clear hq
          go_enter Try.func32, Try.ntmps32
          go_wp2_with (go_at_call 42; refine (repoch_fix p true HQ.out _).mono ?_; rintro e w' ⟨rfl, rfl⟩)
          go_ret
          exact ⟨rfl, HB.out⟩
    · obtain rfl : Q = false := by
        cases Q with
        | false => rfl
        | true => have := hQ.1 rfl; first | (exact absurd this.2.1 (by decide)) | omega
      clear hQ
      have HQ := Lib.hid hq
      clear hq
      go_enter Try.func32, Try.ntmps32
      go_wp2_with fail
      go_ret
      exact ⟨rfl, HB.out⟩
  · obtain rfl : Q = false := by
      cases Q with
      | false => rfl
      | true => have := hQ.1 rfl; first | (exact absurd this.2.1 (by decide)) | omega
    clear hQ
    have HQ := Lib.hid hq
    clear hq
    go_enter Try.func32, Try.ntmps32
    go_wp2_with fail
    go_ret
    exact ⟨rfl, HB.out⟩

/-! ### '==' -/
theorem akF_cell {P : Program} {w : World} {d : Nat} {xs ys : Array Value} {f : Field} {fs : List Field} {x y : Value} {T : TypeId} {off : Nat} {e : Bool}
    (h : (f.name == "_", f.type, f.offset) = (false, T, off)) (ha : (isAgg T).run P w = .ok false w) (hx : xs[off]? = some x) (hy : ys[off]? = some y) (he : (Op.equalIn d T x y).run P w = .ok e w) :
    (Op.eqFields d xs ys (f :: fs)).run P w = if e then (Op.eqFields d xs ys fs).run P w else .ok false w := by
  simp only [Prod.mk.injEq, beq_eq_false_iff_ne] at h
  obtain ⟨h1, h2, h3⟩ := h
  have p : ∀ (zs : Array Value) (z : Value), zs[off]? = some z → (part T zs off).run P w = .ok z w := by
    intro zs z hz
    simp only [part, Sem.run_bind, ha, Result.andThen_ok, Bool.false_eq_true, if_false, hz, Sem.run_pure]
  simp only [Op.eqFields, h2, h3]
  rw [if_pos h1]
  simp only [Sem.run_bind, p xs x hx, p ys y hy, he, Result.andThen_ok, Sem.run_ite, Sem.run_pure]
  cases e <;> simp
theorem fieldsAK : ((Try.prog.fieldsOf 30).toList.map fun f => (f.name == "_", f.type, f.offset)) = [(false, 3, 0), (false, 3, 1), (false, 3, 2), (false, 3, 3)] := by kernel_rfl
theorem run_eqAK (a b c d a' b' c' d' : Int) (w : World) :
    (Op.equalIn 10000 30 (.agg #[.int .i64 a, .int .i64 b, .int .i64 c, .int .i64 d]) (.agg #[.int .i64 a', .int .i64 b', .int .i64 c', .int .i64 d'])).run Try.prog w = .ok (a == a' && (b == b' && (c == c' && d == d'))) w := by
  rw [run_equalIn_agg w 9999 30 _ _ underAK (by kernel_rfl)]
  have hf := fieldsAK
  generalize (Try.prog.fieldsOf 30).toList = fs at *
  have a3 : (isAgg 3).run Try.prog w = .ok false w := by kernel_rfl
  obtain ⟨f0, _, rfl, g0, hf⟩ := List.map_eq_cons_iff.1 hf
  obtain ⟨f1, _, rfl, g1, hf⟩ := List.map_eq_cons_iff.1 hf
  obtain ⟨f2, _, rfl, g2, hf⟩ := List.map_eq_cons_iff.1 hf
  obtain ⟨f3, _, rfl, g3, hf⟩ := List.map_eq_cons_iff.1 hf
  obtain rfl := List.map_eq_nil_iff.1 hf
  rw [akF_cell g0 a3 rfl rfl (run_equalIn_int w 9998 3 .i64 .i64 a a' (by kernel_rfl)), akF_cell g1 a3 rfl rfl (run_equalIn_int w 9998 3 .i64 .i64 b b' (by kernel_rfl)), akF_cell g2 a3 rfl rfl (run_equalIn_int w 9998 3 .i64 .i64 c c' (by kernel_rfl)), akF_cell g3 a3 rfl rfl (run_equalIn_int w 9998 3 .i64 .i64 d d' (by kernel_rfl))]
  simp only [Op.eqFields, Sem.run_pure]
  cases a == a' <;> cases b == b' <;> cases c == c' <;> cases d == d' <;> rfl
theorem guardAK (op : BinOp) (x y : Operand) (xs ys : Array Value) (w : World) : (eqGuard op 30 x y (.agg xs) (.agg ys)).run Try.prog w = .ok () w :=
  run_eqGuard_agg w op 30 x y xs ys (by kernel_rfl)
def eqA (a b c d a' b' c' d' : Int) : Bool := a == a' && (b == b' && (c == c' && d == d'))
theorem eqA_iff {a b c d a' b' c' d' : Int} : eqA a b c d a' b' c' d' = true ↔ (a, b, c, d) = (a', b', c', d') := by simp [eqA]
theorem neqAK (a b c d a' b' c' d' : Int) (w : World) : (binOp .neq 30 (.agg #[.int .i64 a, .int .i64 b, .int .i64 c, .int .i64 d]) (.agg #[.int .i64 a', .int .i64 b', .int .i64 c', .int .i64 d'])).run Try.prog w = .ok (.bool (!eqA a b c d a' b' c' d')) w := by
  rw [run_neq_struct, run_eqAK]; rfl
theorem eqlAK (a b c d a' b' c' d' : Int) (w : World) : (binOp .eql 30 (.agg #[.int .i64 a, .int .i64 b, .int .i64 c, .int .i64 d]) (.agg #[.int .i64 a', .int .i64 b', .int .i64 c', .int .i64 d'])).run Try.prog w = .ok (.bool (eqA a b c d a' b' c' d')) w := by
  rw [run_eql_struct, run_eqAK]; rfl
#print axioms rone_fix
#print axioms as_form
#print axioms neqAK
end Go.Proofs.Ytipdjfgaenoepaa
