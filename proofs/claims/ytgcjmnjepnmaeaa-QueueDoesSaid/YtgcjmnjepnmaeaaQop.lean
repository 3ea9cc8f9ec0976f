/- Rows of packets and of calls as arguments; the law's few. No conditions. -/
import Derived.Test.YtgcjmnjepnmaeaaQrl
namespace Go.Proofs.Ytgcjmnjepnmaeaa
set_option maxRecDepth 100000
open Go.RowKit Go.WideShapes Go.ChangeShapes

theorem part_form {H : Type} {enc : TypeId × Value → H} {P : Program} {w : World} {base n : Nat} {spare : Nat → Bool} {held : Bool} {fs : Array Field} {cs : List Value} {xs : List (DataW H × List MemPlace)} (hl : xs.length = fs.size)
    (h : ∀ (i : Nat) (f : Field), fs[i]? = some f → DataW.trod enc P w base spare held n f.type ((cs.drop f.offset).take (P.cellsOf f.type)) = xs[i]?)
    {j T O K : Nat} (hf : (fs[j]?).map (fun f => (f.type, f.offset)) = some (T, O)) (hc : P.cellsOf T = K) : ∃ y, DataW.trod enc P w base spare held n T ((cs.drop O).take K) = some y := by
  cases hg : fs[j]? with
  | none => rw [hg] at hf; cases hf
  | some f =>
    rw [hg] at hf
    simp only [Option.map_some, Option.some.injEq, Prod.mk.injEq] at hf
    have h1 := h j f hg
    rw [hf.1, hf.2, hc] at h1
    have hj : j < xs.length := by rw [hl]; exact (Array.getElem?_eq_some_iff.1 hg).1
    rw [List.getElem?_eq_getElem hj] at h1
    exact ⟨_, h1⟩
theorem pk_trod {H : Type} {enc : TypeId × Value → H} {w : World} {base n' : Nat} {spare : Nat → Bool} {held : Bool} {cs : List Value} {X : DataW H × List MemPlace} (hl5 : cs.length = 5)
    (hf : DataW.trod enc Try.prog w base spare held n' 34 cs = some X) : ∃ y : Pk, cs = pkc y := by
  obtain ⟨c0, c1, c2, c3, c4, rfl⟩ : ∃ c0 c1 c2 c3 c4, cs = [c0, c1, c2, c3, c4] := by
    match cs, hl5 with
    | [c0, c1, c2, c3, c4], _ => exact ⟨c0, c1, c2, c3, c4, rfl⟩
  clear hl5
  obtain ⟨xs, M, _, _, _, hl, hx⟩ := DataW.trod_struct underPK hf
  obtain ⟨s, rfl, _⟩ := int_cell (cell_form (j := 0) (T := 3) (O := 0) (v := c0) hl hx (by kernel_rfl) (by kernel_rfl) rfl)
  obtain ⟨d, rfl, _⟩ := int_cell (cell_form (j := 1) (T := 3) (O := 1) (v := c1) hl hx (by kernel_rfl) (by kernel_rfl) rfl)
  obtain ⟨t, rfl, _⟩ := int_cell (cell_form (j := 2) (T := 3) (O := 2) (v := c2) hl hx (by kernel_rfl) (by kernel_rfl) rfl)
  obtain ⟨n, rfl, _⟩ := int_cell (cell_form (j := 3) (T := 3) (O := 3) (v := c3) hl hx (by kernel_rfl) (by kernel_rfl) rfl)
  obtain ⟨y, hy⟩ := cell_form (j := 4) (T := 9) (O := 4) (v := c4) hl hx (by kernel_rfl) (by kernel_rfl) rfl
  obtain ⟨x, hc, _⟩ := DataW.trod_string Try.underlying9 hy
  simp only [List.cons.injEq, and_true] at hc
  subst hc
  exact ⟨(s, d, t, n, x), rfl⟩
/-- Rows of packets as an argument. -/
theorem ks_form {H : Type} {enc : TypeId × Value → H} {w : World} {base : Nat} {spare : Nat → Bool} {held : Bool} {x : Option Addr} {l c : Nat} {d : DataW H} {p : List MemPlace}
    (h : DataW.Trod enc Try.prog w base spare held 30 (.slice x l c) d p) : ∃ ys : List Pk, ys.length = l ∧ Ks w (.slice x l c) ys := by
  obtain ⟨fuel, hf⟩ := h
  obtain ⟨a, cap, ys, h1, h2⟩ := gs_trod (R := RK) (u := .slice x l c) (fun n' cs X h1 h2 => pk_trod h1 h2) hf
  simp only [Value.slice.injEq] at h1
  exact ⟨ys, h1.2.1.symm, h2⟩
/-- A call of the law's script: Call, Packet, Dst. -/
abbrev OpT := Int × Pk × Int
theorem underOP : Try.prog.underlying 36 = some (.struct (Try.prog.fieldsOf 36)) := by kernel_rfl
theorem underOPS : Try.prog.underlying 22 = some (.slice 36) := by kernel_rfl
theorem infoOP : (Try.prog.info? 36).map (fun i => (i.zero, i.size, i.bytes)) = some (some (.agg #[.int .i64 0, .int .i64 0, .int .i64 0, .int .i64 0, .int .i64 0, .string ⟨#[]⟩, .int .i64 0]), 7, 64) := by kernel_rfl
theorem cellsOP : Try.prog.cellsOf 36 = 7 := by kernel_rfl
def opc (y : OpT) : List Value := [.int .i64 y.1, .int .i64 y.2.1.1, .int .i64 y.2.1.2.1, .int .i64 y.2.1.2.2.1, .int .i64 y.2.1.2.2.2.1, .string y.2.1.2.2.2.2, .int .i64 y.2.2]
def zOp : OpT := (0, zPk, 0)
theorem opc_ones : ∀ y, ∀ u ∈ opc y, u.oneCell' = true := by
  intro y u hu
  simp only [opc, List.mem_cons, List.not_mem_nil, or_false] at hu
  rcases hu with rfl | rfl | rfl | rfl | rfl | rfl | rfl <;> rfl
noncomputable def RO : RowT where
  α := OpT
  d := zOp
  cl := opc
  K := 7
  T := 36
  SL := 22
  zero := .agg #[.int .i64 0, .int .i64 0, .int .i64 0, .int .i64 0, .int .i64 0, .string ⟨#[]⟩, .int .i64 0]
  bytes := 64
  hcl := fun _ => rfl
  hK := by decide
  hone := opc_ones
  hSL := underOPS
  hinfo := infoOP
  hz := rfl
  hb := by decide
  hc := cellsOP
def C7 (w : World) (b o : Nat) (y : OpT) : Prop := w.cell? ⟨b, o, none⟩ = some (.int .i64 y.1) ∧ w.cell? ⟨b, o + 1, none⟩ = some (.int .i64 y.2.1.1) ∧ w.cell? ⟨b, o + 2, none⟩ = some (.int .i64 y.2.1.2.1) ∧ w.cell? ⟨b, o + 3, none⟩ = some (.int .i64 y.2.1.2.2.1) ∧ w.cell? ⟨b, o + 4, none⟩ = some (.int .i64 y.2.1.2.2.2.1) ∧ w.cell? ⟨b, o + 5, none⟩ = some (.string y.2.1.2.2.2.2) ∧ w.cell? ⟨b, o + 6, none⟩ = some (.int .i64 y.2.2)
def Sc (w : World) (v : Value) (l : List OpT) : Prop := Gs RO w v l
theorem Sc.at {w : World} {a : Option Addr} {c : Nat} {l : List OpT} (h : Sc w (.slice a l.length c) l) {i : Nat} (hi : i < l.length) : ∃ b off, a = some ⟨b, off, none⟩ ∧ b < w.heap.size ∧ C7 w b (off + i * 7) (l.getD i zOp) := by
  obtain ⟨b, off, h1, h2, h3⟩ := Gs.at (R := RO) h hi
  exact ⟨b, off, h1, h2, h3 0 (show 0 < 7 by decide), h3 1 (show 1 < 7 by decide), h3 2 (show 2 < 7 by decide), h3 3 (show 3 < 7 by decide), h3 4 (show 4 < 7 by decide), h3 5 (show 5 < 7 by decide), h3 6 (show 6 < 7 by decide)⟩
theorem Sc.form {w : World} {v : Value} {l : List OpT} (h : Sc w v l) : ∃ a c, v = .slice a l.length c := Gs.form (R := RO) h
theorem Sc.below {w w' : World} {v : Value} {l : List OpT} (h : Sc w v l) (hb : Below w.heap.size w w') : Sc w' v l := Gs.below (R := RO) h hb
theorem op_trod {H : Type} {enc : TypeId × Value → H} {w : World} {base n' : Nat} {spare : Nat → Bool} {held : Bool} {cs : List Value} {X : DataW H × List MemPlace} (hl7 : cs.length = 7)
    (hf : DataW.trod enc Try.prog w base spare held n' 36 cs = some X) : ∃ y : OpT, cs = opc y := by
  obtain ⟨c0, c1, c2, c3, c4, c5, c6, rfl⟩ : ∃ c0 c1 c2 c3 c4 c5 c6, cs = [c0, c1, c2, c3, c4, c5, c6] := by
    match cs, hl7 with
    | [c0, c1, c2, c3, c4, c5, c6], _ => exact ⟨c0, c1, c2, c3, c4, c5, c6, rfl⟩
  clear hl7
  obtain ⟨xs, M, _, _, _, hl, hx⟩ := DataW.trod_struct underOP hf
  obtain ⟨k, rfl, _⟩ := int_cell (cell_form (j := 0) (T := 3) (O := 0) (v := c0) hl hx (by kernel_rfl) (by kernel_rfl) rfl)
  obtain ⟨yp, hp⟩ := part_form (j := 1) (T := 34) (O := 1) (K := 5) hl hx (by kernel_rfl) (by kernel_rfl)
  obtain ⟨d, rfl, _⟩ := int_cell (cell_form (j := 2) (T := 3) (O := 6) (v := c6) hl hx (by kernel_rfl) (by kernel_rfl) rfl)
  obtain ⟨y, hy⟩ := pk_trod rfl hp
  simp only [pkc, List.drop_succ_cons, List.drop_zero, List.take_succ_cons, List.take_zero, List.cons.injEq, and_true] at hy
  obtain ⟨rfl, rfl, rfl, rfl, rfl⟩ := hy
  exact ⟨(k, y, d), rfl⟩
/-- A script of calls as an argument. -/
theorem sc_form {H : Type} {enc : TypeId × Value → H} {w : World} {base : Nat} {spare : Nat → Bool} {held : Bool} {x : Option Addr} {l c : Nat} {d : DataW H} {p : List MemPlace}
    (h : DataW.Trod enc Try.prog w base spare held 22 (.slice x l c) d p) : ∃ ys : List OpT, ys.length = l ∧ Sc w (.slice x l c) ys := by
  obtain ⟨fuel, hf⟩ := h
  obtain ⟨a, cap, ys, h1, h2⟩ := gs_trod (R := RO) (u := .slice x l c) (fun n' cs X h1 h2 => op_trod h1 h2) hf
  simp only [Value.slice.injEq] at h1
  exact ⟨ys, h1.2.1.symm, h2⟩
def FewO (l : List OpT) : Prop := l.length ≤ 150 ∧ ∀ i, i < l.length → (l.getD i zOp).2.1.2.2.2.2.size ≤ 600
set_option maxHeartbeats 8000000 in
theorem few_any (v : Value) (l : List OpT) (w : World) (h : Sc w v l) :
    Calls Try.prog 8 #[v] w fun e w' => (∃ q : Bool, e = .returned (.bool q) ∧ (q = true ↔ FewO l)) ∧ w = w' := by
  obtain ⟨a, c, rfl⟩ := h.form
  have HS := Lib.hid h
  clear h
  by_cases hl : (l.length : Int) ≤ 150
  · have hd : decide ((l.length : Int) ≤ 150) = true := decide_eq_true hl
    have hl2 : l.length ≤ 150 := by omega
    go_enter Try.func8, Try.ntmps8
    go_wp2_with fail
    go_loopw [3] (fun i wr => ∃ k : Nat, k ≤ l.length ∧ i = .int .i64 k ∧ (∀ i, i < k → (l.getD i zOp).2.1.2.2.2.2.size ≤ 600) ∧ w = wr) (fun i _ => l.length - (intOf i).toNat)
    case atStart => exact ⟨0, Nat.zero_le _, rfl, fun i h => absurd h (Nat.not_lt_zero _), rfl⟩
    case round =>
      obtain ⟨k, hk, rfl, hno, rfl⟩ := hrel
      have HNO := Lib.hid hno
      clear hno
      by_cases hlt : k < l.length
      · obtain ⟨b2, off, rfl, hB, p0, p1, p2, p3, p4, p5, p6⟩ := HS.out.at hlt
        obtain ⟨y, hy⟩ : ∃ y, l.getD k zOp = y := ⟨_, rfl⟩
        rw [hy] at p0 p1 p2 p3 p4 p5 p6
        have HY := Lib.hid hy
        clear hy
        by_cases hx : (600 : Int) < (y.2.1.2.2.2.2.size : Int)
        · have hd2 : decide ((600 : Int) < (y.2.1.2.2.2.2.size : Int)) = true := decide_eq_true hx
          have HX := Lib.hid hx
          clear hx
          go_wp2_with fail
          go_ret
          refine ⟨⟨_, rfl, ⟨fun h => (by cases h), fun h => ?_⟩⟩, rfl⟩
          have := h.2 k hlt
          rw [HY.out] at this
          have := HX.out
          omega
        · have hd2 : decide ((600 : Int) < (y.2.1.2.2.2.2.size : Int)) = false := decide_eq_false hx
          have HX := Lib.hid hx
          clear hx
          go_wp2_with fail
          go_roundw
          case rel =>
            refine ⟨k + 1, by omega, by go_num, ?_, by first | rfl | trivial⟩
            intro i hi
            by_cases h : i < k
            · exact HNO.out i h
            · obtain rfl : i = k := by omega
              rw [HY.out]; have := HX.out; omega
          case measure => simp [intOf]; omega
      · obtain rfl : k = l.length := by omega
        go_wp2_with fail
        go_ret
        exact ⟨⟨_, rfl, ⟨fun _ => ⟨hl2, HNO.out⟩, fun _ => rfl⟩⟩, rfl⟩
  · have hd : decide ((l.length : Int) ≤ 150) = false := decide_eq_false hl
    have HL := Lib.hid hl
    clear hl
    go_enter Try.func8, Try.ntmps8
    go_wp2_with fail
    go_loopw [3] (fun i wr => i = .int .i64 0 ∧ w = wr) (fun _ _ => 0)
    case atStart => exact ⟨rfl, rfl⟩
    case round =>
      obtain ⟨rfl, rfl⟩ := hrel
      go_wp2_with fail
      all_goals
        go_ret
        exact ⟨⟨_, rfl, ⟨fun h => (by cases h), fun h => absurd h.1 (by have := HL.out; omega)⟩⟩, rfl⟩
end Go.Proofs.Ytgcjmnjepnmaeaa
