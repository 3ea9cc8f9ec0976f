/- Packets: as arguments, in memory, '=='. No conditions. -/
import Derived.Test.YtgcjmnjepnmaeaaRint
import Derived.Test.YtgcjmnjepnmaeaaFrm
import Derived.Laws.StructEq
import Derived.ChangeKeysEq
namespace Go.Proofs.Ytgcjmnjepnmaeaa
set_option maxRecDepth 100000
open Go.RowKit Go.WideShapes Go.ChangeShapes

/-- A packet: Src, Dst, Ttl, Number, Data. -/
abbrev Pk := Int × Int × Int × Int × ByteArray
theorem underPK : Try.prog.underlying 34 = some (.struct (Try.prog.fieldsOf 34)) := by kernel_rfl
theorem array5 {cs : Array Value} (h : cs.size = 5) : ∃ c0 c1 c2 c3 c4, cs = #[c0, c1, c2, c3, c4] := by
  obtain ⟨l⟩ := cs
  match l, h with
  | [c0, c1, c2, c3, c4], _ => exact ⟨c0, c1, c2, c3, c4, rfl⟩
theorem pk_form {H : Type} {enc : TypeId × Value → H} {w : World} {base b0 : Nat} {spare : Nat → Bool} {held : Bool} {r' : Reach} {v : Value} {d' : DataW H} {p' : List MemPlace}
    (hv : Value.okWide Try.prog w r' b0 34 v) (h : DataW.Trod enc Try.prog w base spare held 34 v d' p') :
    ∃ (s d t n : Int) (x : ByteArray), v = .agg #[.int .i64 s, .int .i64 d, .int .i64 t, .int .i64 n, .string x] ∧ (I64 s ∧ I64 d ∧ I64 t ∧ I64 n) ∧ x.size ≤ maxLen := by
  obtain ⟨cs, rfl, hs⟩ := okWide_struct underPK hv
  obtain ⟨c0, c1, c2, c3, c4, rfl⟩ := array5 (hs.trans (by kernel_rfl))
  obtain ⟨fuel, hf⟩ := h
  obtain ⟨xs, M, _, _, _, hl, hx⟩ := DataW.trod_struct underPK hf
  obtain ⟨s, rfl, h0⟩ := int_cell (cell_form (j := 0) (T := 3) (O := 0) (v := c0) hl hx (by kernel_rfl) (by kernel_rfl) rfl)
  obtain ⟨d, rfl, h1⟩ := int_cell (cell_form (j := 1) (T := 3) (O := 1) (v := c1) hl hx (by kernel_rfl) (by kernel_rfl) rfl)
  obtain ⟨t, rfl, h2⟩ := int_cell (cell_form (j := 2) (T := 3) (O := 2) (v := c2) hl hx (by kernel_rfl) (by kernel_rfl) rfl)
  obtain ⟨n, rfl, h3⟩ := int_cell (cell_form (j := 3) (T := 3) (O := 3) (v := c3) hl hx (by kernel_rfl) (by kernel_rfl) rfl)
  obtain ⟨y, hy⟩ := cell_form (j := 4) (T := 9) (O := 4) (v := c4) hl hx (by kernel_rfl) (by kernel_rfl) rfl
  obtain ⟨x, hc, _, hw⟩ := DataW.trod_string Try.underlying9 hy
  simp only [List.cons.injEq, and_true] at hc
  subst hc
  exact ⟨s, d, t, n, x, rfl, ⟨h0, h1, h2, h3⟩, hw⟩
theorem pkF_cell {P : Program} {w : World} {d : Nat} {xs ys : Array Value} {f : Field} {fs : List Field} {x y : Value} {T : TypeId} {off : Nat} {e : Bool}
    (h : (f.name == "_", f.type, f.offset) = (false, T, off)) (ha : (isAgg T).run P w = .ok false w) (hx : xs[off]? = some x) (hy : ys[off]? = some y) (he : (Op.equalIn d T x y).run P w = .ok e w) :
    (Op.eqFields d xs ys (f :: fs)).run P w = if e then (Op.eqFields d xs ys fs).run P w else .ok false w := by
  simp only [Prod.mk.injEq, beq_eq_false_iff_ne] at h
  obtain ⟨h1, h2, h3⟩ := h
  have p : ∀ (zs : Array Value) (z : Value), zs[off]? = some z → (part T zs off).run P w = .ok z w := by
    intro zs z hz
    simp only [part, Sem.run_bind, ha, Result.andThen_ok, Bool.false_eq_true, if_false, hz, Sem.run_pure]
  simp only [Op.eqFields, h2, h3]
  rw [if_pos h1]
  simp only [Sem.run_bind, p xs x hx, p ys y hy, he, Result.andThen_ok, Sem.run_ite, Sem.run_pure]
  cases e <;> simp
theorem fieldsPK : ((Try.prog.fieldsOf 34).toList.map fun f => (f.name == "_", f.type, f.offset)) = [(false, 3, 0), (false, 3, 1), (false, 3, 2), (false, 3, 3), (false, 9, 4)] := by kernel_rfl
def eqK (a b c d : Int) (x : ByteArray) (a' b' c' d' : Int) (x' : ByteArray) : Bool := a == a' && (b == b' && (c == c' && (d == d' && x.toList == x'.toList)))
theorem eqK_iff {a b c d : Int} {x : ByteArray} {a' b' c' d' : Int} {x' : ByteArray} : eqK a b c d x a' b' c' d' x' = true ↔ (a, b, c, d, x) = (a', b', c', d', x') := by simp [eqK, ByteArray.toList_eq, ByteArray.ext_iff]
theorem run_eqPK (a b c d : Int) (x : ByteArray) (a' b' c' d' : Int) (x' : ByteArray) (w : World) :
    (Op.equalIn 10000 34 (.agg #[.int .i64 a, .int .i64 b, .int .i64 c, .int .i64 d, .string x]) (.agg #[.int .i64 a', .int .i64 b', .int .i64 c', .int .i64 d', .string x'])).run Try.prog w = .ok (eqK a b c d x a' b' c' d' x') w := by
  rw [run_equalIn_agg w 9999 34 _ _ underPK (by kernel_rfl)]
  have hf := fieldsPK
  generalize (Try.prog.fieldsOf 34).toList = fs at *
  have a3 : (isAgg 3).run Try.prog w = .ok false w := by kernel_rfl
  have a9 : (isAgg 9).run Try.prog w = .ok false w := by kernel_rfl
  obtain ⟨f0, _, rfl, g0, hf⟩ := List.map_eq_cons_iff.1 hf
  obtain ⟨f1, _, rfl, g1, hf⟩ := List.map_eq_cons_iff.1 hf
  obtain ⟨f2, _, rfl, g2, hf⟩ := List.map_eq_cons_iff.1 hf
  obtain ⟨f3, _, rfl, g3, hf⟩ := List.map_eq_cons_iff.1 hf
  obtain ⟨f4, _, rfl, g4, hf⟩ := List.map_eq_cons_iff.1 hf
  obtain rfl := List.map_eq_nil_iff.1 hf
  rw [pkF_cell g0 a3 rfl rfl (run_equalIn_int w 9998 3 .i64 .i64 a a' (by kernel_rfl)), pkF_cell g1 a3 rfl rfl (run_equalIn_int w 9998 3 .i64 .i64 b b' (by kernel_rfl)), pkF_cell g2 a3 rfl rfl (run_equalIn_int w 9998 3 .i64 .i64 c c' (by kernel_rfl)), pkF_cell g3 a3 rfl rfl (run_equalIn_int w 9998 3 .i64 .i64 d d' (by kernel_rfl)), pkF_cell g4 a9 rfl rfl (run_equalIn_string w 9998 9 x x' (by kernel_rfl))]
  simp only [Op.eqFields, Sem.run_pure, eqK]
  cases a == a' <;> cases b == b' <;> cases c == c' <;> cases d == d' <;> cases x.toList == x'.toList <;> rfl
theorem guardPK (op : BinOp) (x y : Operand) (xs ys : Array Value) (w : World) : (eqGuard op 34 x y (.agg xs) (.agg ys)).run Try.prog w = .ok () w :=
  run_eqGuard_agg w op 34 x y xs ys (by kernel_rfl)
theorem neqPK (a b c d : Int) (x : ByteArray) (a' b' c' d' : Int) (x' : ByteArray) (w : World) : (binOp .neq 34 (.agg #[.int .i64 a, .int .i64 b, .int .i64 c, .int .i64 d, .string x]) (.agg #[.int .i64 a', .int .i64 b', .int .i64 c', .int .i64 d', .string x'])).run Try.prog w = .ok (.bool (!eqK a b c d x a' b' c' d' x')) w := by
  rw [run_neq_struct, run_eqPK]; rfl
theorem eqlPK (a b c d : Int) (x : ByteArray) (a' b' c' d' : Int) (x' : ByteArray) (w : World) : (binOp .eql 34 (.agg #[.int .i64 a, .int .i64 b, .int .i64 c, .int .i64 d, .string x]) (.agg #[.int .i64 a', .int .i64 b', .int .i64 c', .int .i64 d', .string x'])).run Try.prog w = .ok (.bool (eqK a b c d x a' b' c' d' x')) w := by
  rw [run_eql_struct, run_eqPK]; rfl
def OwnP (w : World) (b : Nat) (s d t n : Int) (x : ByteArray) : Prop := (w.cell? ⟨b, 0, none⟩ = some (.int .i64 s) ∧ w.cell? ⟨b, 1, none⟩ = some (.int .i64 d) ∧ w.cell? ⟨b, 2, none⟩ = some (.int .i64 t) ∧ w.cell? ⟨b, 3, none⟩ = some (.int .i64 n) ∧ w.cell? ⟨b, 4, none⟩ = some (.string x)) ∧ ∀ j, w.frozen? ⟨b, j, none⟩ = false
theorem ownp_alloc (w : World) (s d t n : Int) (x : ByteArray) (T : TypeId) (g : Nat) (hg : g = w.heap.size) : OwnP (w.alloc (.cells #[.int .i64 s, .int .i64 d, .int .i64 t, .int .i64 n, .string x] T)) g s d t n x := by
  subst hg
  exact ⟨⟨by simp, by simp, by simp, by simp, by simp⟩, fun j => by simp⟩
theorem OwnP.lt {w : World} {b : Nat} {s d t n : Int} {x : ByteArray} (h : OwnP w b s d t n x) : b < w.heap.size := World.block_lt_of_cell? w _ h.1.1
theorem OwnP.low {w w' : World} {b S : Nat} {s d t n : Int} {x : ByteArray} (h : OwnP w b s d t n x) (hb : b < S) (hB : Below S w w') : OwnP w' b s d t n x :=
  ⟨⟨(hB.cell (p := ⟨b, 0, none⟩) hb).trans h.1.1, (hB.cell (p := ⟨b, 1, none⟩) hb).trans h.1.2.1, (hB.cell (p := ⟨b, 2, none⟩) hb).trans h.1.2.2.1, (hB.cell (p := ⟨b, 3, none⟩) hb).trans h.1.2.2.2.1, (hB.cell (p := ⟨b, 4, none⟩) hb).trans h.1.2.2.2.2⟩, fun j => (hB.frozen (p := ⟨b, j, none⟩) hb).trans (h.2 j)⟩
theorem OwnP.below {w w' : World} {b : Nat} {s d t n : Int} {x : ByteArray} (h : OwnP w b s d t n x) (hb : Below w.heap.size w w') : OwnP w' b s d t n x := h.low h.lt hb
/-- A packet laid into a variable. -/
def put5 (w : World) (b : Nat) (s d t n : Int) (x : ByteArray) : World := ((((w.setCell ⟨b, 0, none⟩ (.int .i64 s)).setCell ⟨b, 1, none⟩ (.int .i64 d)).setCell ⟨b, 2, none⟩ (.int .i64 t)).setCell ⟨b, 3, none⟩ (.int .i64 n)).setCell ⟨b, 4, none⟩ (.string x)
theorem OwnP.set {w : World} {b : Nat} {s d t n : Int} {x : ByteArray} (h : OwnP w b s d t n x) (s' d' t' n' : Int) (x' : ByteArray) : OwnP (put5 w b s' d' t' n' x') b s' d' t' n' x' := by
  obtain ⟨⟨h0, h1, h2, h3, h4⟩, hf⟩ := h
  unfold put5
  refine ⟨⟨?_, ?_, ?_, ?_, ?_⟩, fun j => ?_⟩ <;> simp [go_sem, hf, h0, h1, h2, h3, h4]
theorem bel_put5 {B : Nat} {u w : World} {b : Nat} (h : Below B u w) (hB : B ≤ b) (s d t n : Int) (x : ByteArray) : Below B u (put5 w b s d t n x) :=
  ((((h.setCell (p := ⟨b, 0, none⟩) hB _).setCell (p := ⟨b, 1, none⟩) hB _).setCell (p := ⟨b, 2, none⟩) hB _).setCell (p := ⟨b, 3, none⟩) hB _).setCell (p := ⟨b, 4, none⟩) hB _
def PkOk (s d t n : Int) (x : ByteArray) : Prop := (0 ≤ s ∧ s < 64) ∧ (0 ≤ d ∧ d < 64) ∧ (0 ≤ t ∧ t ≤ 255) ∧ (0 ≤ n ∧ n ≤ 65535) ∧ x.size ≤ 256
instance (s d t n : Int) (x : ByteArray) : Decidable (PkOk s d t n x) := by unfold PkOk; infer_instance
set_option maxHeartbeats 8000000 in
theorem rpright_fix (s d t n : Int) (x : ByteArray) (Q : Bool) (hQ : Q = true ↔ PkOk s d t n x) (w : World) :
    Calls Try.prog 25 #[.agg #[.int .i64 s, .int .i64 d, .int .i64 t, .int .i64 n, .string x]] w fun e w' => e = .returned (.bool Q) ∧ Below w.heap.size w w' := by
  have HB : Hid (Below w.heap.size w (w.alloc (.cells #[.int .i64 s, .int .i64 d, .int .i64 t, .int .i64 n, .string x] 34))) := (Below.refl _ w).alloc (Nat.le_refl _) _
  unfold PkOk at hQ
  by_cases h0 : 0 ≤ s
  · skip
    by_cases h1 : s < 64
    · skip
      by_cases h2 : 0 ≤ d
      · skip
        by_cases h3 : d < 64
        · skip
          by_cases h4 : 0 ≤ t
          · skip
            by_cases h5 : t ≤ 255
            · skip
              by_cases h6 : 0 ≤ n
              · skip
                by_cases h7 : n ≤ 65535
                · skip
                  by_cases h8 : (x.size : Int) ≤ 256
                  · skip
                    obtain rfl : Q = true := hQ.2 ⟨⟨h0, h1⟩, ⟨h2, h3⟩, ⟨h4, h5⟩, ⟨h6, h7⟩, by omega⟩
                    clear hQ
                    go_enter Try.func25, Try.ntmps25
                    go_wp2_with fail
                    go_ret
                    exact ⟨rfl, HB.out⟩
                  · skip
                    obtain rfl : Q = false := by
                      cases Q with
                      | false => rfl
                      | true => have h9 := hQ.1 rfl; omega
                    have d9 : decide ((x.size : Int) ≤ 256) = false := decide_eq_false h8
                    clear hQ
                    go_enter Try.func25, Try.ntmps25
                    go_wp2_with fail
                    go_ret
                    exact ⟨rfl, HB.out⟩
                · skip
                  obtain rfl : Q = false := by
                    cases Q with
                    | false => rfl
                    | true => have h9 := hQ.1 rfl; omega
                  have d9 : decide (n ≤ 65535) = false := decide_eq_false h7
                  clear hQ
                  go_enter Try.func25, Try.ntmps25
                  go_wp2_with fail
                  go_ret
                  exact ⟨rfl, HB.out⟩
              · skip
                obtain rfl : Q = false := by
                  cases Q with
                  | false => rfl
                  | true => have h9 := hQ.1 rfl; omega
                have d9 : decide (0 ≤ n) = false := decide_eq_false h6
                clear hQ
                go_enter Try.func25, Try.ntmps25
                go_wp2_with fail
                go_ret
                exact ⟨rfl, HB.out⟩
            · skip
              obtain rfl : Q = false := by
                cases Q with
                | false => rfl
                | true => have h9 := hQ.1 rfl; omega
              have d9 : decide (t ≤ 255) = false := decide_eq_false h5
              clear hQ
              go_enter Try.func25, Try.ntmps25
              go_wp2_with fail
              go_ret
              exact ⟨rfl, HB.out⟩
          · skip
            obtain rfl : Q = false := by
              cases Q with
              | false => rfl
              | true => have h9 := hQ.1 rfl; omega
            have d9 : decide (0 ≤ t) = false := decide_eq_false h4
            clear hQ
            go_enter Try.func25, Try.ntmps25
            go_wp2_with fail
            go_ret
            exact ⟨rfl, HB.out⟩
        · skip
          obtain rfl : Q = false := by
            cases Q with
            | false => rfl
            | true => have h9 := hQ.1 rfl; omega
          have d9 : decide (d < 64) = false := decide_eq_false h3
          clear hQ
          go_enter Try.func25, Try.ntmps25
          go_wp2_with fail
          go_ret
          exact ⟨rfl, HB.out⟩
      · skip
        obtain rfl : Q = false := by
          cases Q with
          | false => rfl
          | true => have h9 := hQ.1 rfl; omega
        have d9 : decide (0 ≤ d) = false := decide_eq_false h2
        clear hQ
        go_enter Try.func25, Try.ntmps25
        go_wp2_with fail
        go_ret
        exact ⟨rfl, HB.out⟩
    · skip
      obtain rfl : Q = false := by
        cases Q with
        | false => rfl
        | true => have h9 := hQ.1 rfl; omega
      have d9 : decide (s < 64) = false := decide_eq_false h1
      clear hQ
      go_enter Try.func25, Try.ntmps25
      go_wp2_with fail
      go_ret
      exact ⟨rfl, HB.out⟩
  · skip
    obtain rfl : Q = false := by
      cases Q with
      | false => rfl
      | true => have h9 := hQ.1 rfl; omega
    have d9 : decide (0 ≤ s) = false := decide_eq_false h0
    clear hQ
    go_enter Try.func25, Try.ntmps25
    go_wp2_with fail
    go_ret
    exact ⟨rfl, HB.out⟩
end Go.Proofs.Ytgcjmnjepnmaeaa

