/- Objects as arguments: what their values are. No conditions. -/
import Derived.Test.YtfiaghfaijlfjaaGreatFrm
namespace Go.Proofs.YtfiaghfaijlfjaaGreat
set_option maxRecDepth 100000
open Go.RowKit Go.WideShapes Go.ChangeShapes

theorem under37 : Tryz.prog.underlying 53 = some (.struct (Tryz.prog.fieldsOf 53)) := by kernel_rfl
theorem part_form {H : Type} {enc : TypeId × Value → H} {P : Program} {w : World} {base n : Nat} {spare : Nat → Bool} {held : Bool} {fs : Array Field} {cs : List Value} {xs : List (DataW H × List MemPlace)} (hl : xs.length = fs.size)
    (h : ∀ (i : Nat) (f : Field), fs[i]? = some f → DataW.trod enc P w base spare held n f.type ((cs.drop f.offset).take (P.cellsOf f.type)) = xs[i]?)
    {j T O K : Nat} (hf : (fs[j]?).map (fun f => (f.type, f.offset)) = some (T, O)) (hc : P.cellsOf T = K) : ∃ y, DataW.trod enc P w base spare held n T ((cs.drop O).take K) = some y := by
  cases hg : fs[j]? with
  | none => rw [hg] at hf; cases hf
  | some f =>
    rw [hg] at hf
    simp only [Option.map_some, Option.some.injEq, Prod.mk.injEq] at hf
    have h1 := h j f hg
    rw [hf.1, hf.2, hc] at h1
    have hj : j < xs.length := by rw [hl]; exact (Array.getElem?_eq_some_iff.1 hg).1
    rw [List.getElem?_eq_getElem hj] at h1
    exact ⟨_, h1⟩
theorem array12 {cs : Array Value} (h : cs.size = 12) : ∃ c0 c1 c2 c3 c4 c5 c6 c7 c8 c9 c10 c11, cs = #[c0, c1, c2, c3, c4, c5, c6, c7, c8, c9, c10, c11] := by
  obtain ⟨l⟩ := cs
  match l, h with
  | [c0, c1, c2, c3, c4, c5, c6, c7, c8, c9, c10, c11], _ => exact ⟨c0, c1, c2, c3, c4, c5, c6, c7, c8, c9, c10, c11, rfl⟩
theorem ob_form {H : Type} {enc : TypeId × Value → H} {w : World} {base b0 : Nat} {spare : Nat → Bool} {held : Bool} {r' : Reach} {v : Value} {d' : DataW H} {p' : List MemPlace}
    (hv : Value.okWide Tryz.prog w r' b0 53 v) (h : DataW.Trod enc Tryz.prog w base spare held 53 v d' p') :
    ∃ k x n t o r d i p q s m, v = .agg #[.int .i64 k, .int .i64 x, .bool n, .int .i64 t, .int .i64 o, .int .i64 r, .int .i64 d, .int .i64 i, .int .i64 p, .int .i64 q, .int .i64 s, .int .i64 m] := by
  obtain ⟨cs, rfl, hs⟩ := okWide_struct under37 hv
  obtain ⟨c0, c1, c2, c3, c4, c5, c6, c7, c8, c9, c10, c11, rfl⟩ := array12 (hs.trans (by kernel_rfl))
  obtain ⟨fuel, hf⟩ := h
  obtain ⟨xs, M, _, _, _, hl, hx⟩ := DataW.trod_struct under37 hf
  obtain ⟨k, rfl, _⟩ := int_cell (cell_form (j := 0) (T := 3) (O := 0) (v := c0) hl hx (by kernel_rfl) (by kernel_rfl) rfl)
  obtain ⟨x, rfl, _⟩ := int_cell (cell_form (j := 1) (T := 3) (O := 1) (v := c1) hl hx (by kernel_rfl) (by kernel_rfl) rfl)
  obtain ⟨m, rfl, _⟩ := int_cell (cell_form (j := 4) (T := 3) (O := 11) (v := c11) hl hx (by kernel_rfl) (by kernel_rfl) rfl)
  obtain ⟨yh, hh⟩ := part_form (j := 2) (T := 49) (O := 2) (K := 6) hl hx (by kernel_rfl) (by kernel_rfl)
  obtain ⟨yl, hlv⟩ := part_form (j := 3) (T := 51) (O := 8) (K := 3) hl hx (by kernel_rfl) (by kernel_rfl)
  clear hl hx hf
  obtain ⟨xh, Mh, _, _, _, hl, hx⟩ := DataW.trod_struct under23 hh
  obtain ⟨y0, h0⟩ := cell_form (j := 0) (T := 4) (O := 0) (v := c2) hl hx (by kernel_rfl) (by kernel_rfl) rfl
  obtain ⟨n, hn, _⟩ := DataW.trod_bool Tryz.underlying4 h0
  simp only [List.cons.injEq, and_true] at hn
  obtain ⟨t, rfl, _⟩ := int_cell (cell_form (j := 1) (T := 3) (O := 1) (v := c3) hl hx (by kernel_rfl) (by kernel_rfl) rfl)
  obtain ⟨o, rfl, _⟩ := int_cell (cell_form (j := 2) (T := 3) (O := 2) (v := c4) hl hx (by kernel_rfl) (by kernel_rfl) rfl)
  obtain ⟨r, rfl, _⟩ := int_cell (cell_form (j := 3) (T := 3) (O := 3) (v := c5) hl hx (by kernel_rfl) (by kernel_rfl) rfl)
  obtain ⟨d, rfl, _⟩ := int_cell (cell_form (j := 4) (T := 3) (O := 4) (v := c6) hl hx (by kernel_rfl) (by kernel_rfl) rfl)
  obtain ⟨i, rfl, _⟩ := int_cell (cell_form (j := 5) (T := 3) (O := 5) (v := c7) hl hx (by kernel_rfl) (by kernel_rfl) rfl)
  clear hl hx
  obtain ⟨xl, Ml, _, _, _, hl, hx⟩ := DataW.trod_struct under25 hlv
  obtain ⟨p, rfl, _⟩ := int_cell (cell_form (j := 0) (T := 3) (O := 0) (v := c8) hl hx (by kernel_rfl) (by kernel_rfl) rfl)
  obtain ⟨q, rfl, _⟩ := int_cell (cell_form (j := 1) (T := 3) (O := 1) (v := c9) hl hx (by kernel_rfl) (by kernel_rfl) rfl)
  obtain ⟨s, rfl, _⟩ := int_cell (cell_form (j := 2) (T := 3) (O := 2) (v := c10) hl hx (by kernel_rfl) (by kernel_rfl) rfl)
  subst hn
  exact ⟨k, x, n, t, o, r, d, i, p, q, s, m, rfl⟩
end Go.Proofs.YtfiaghfaijlfjaaGreat

