/- Heights and levels as arguments: what their values are. No conditions. -/
import Derived.Test.YtmimgpnogjgliaaByt
import Derived.Test.YtmimgpnogjgliaaLes
import Derived.Test.YtmimgpnogjgliaaPut
import Derived.Test.YtmimgpnogjgliaaRead
import Derived.WalkKit
import Derived.ProofKit
import Derived.OpenShut
import Derived.ShutString
import Derived.ChangeOld
import Derived.Below
import Derived.ChangeArms
import Derived.WideShapes
namespace Go.Proofs.Ytmimgpnogjgliaa
set_option maxRecDepth 100000
open Go.RowKit Go.WideShapes Go.ChangeShapes

/-- A number of 64 bits. -/
def I64 (x : Int) : Prop := -9223372036854775808 ≤ x ∧ x < 9223372036854775808
theorem i64_wf {x : Int} (h : (Lit.int .i64 x).wf = true) : I64 x := by
  have := bounds_i64 h
  unfold I64
  omega
theorem cell_form {H : Type} {enc : TypeId × Value → H} {P : Program} {w : World} {base n : Nat} {spare : Nat → Bool} {held : Bool} {fs : Array Field} {cs : List Value} {xs : List (DataW H × List MemPlace)} (hl : xs.length = fs.size)
    (h : ∀ (i : Nat) (f : Field), fs[i]? = some f → DataW.trod enc P w base spare held n f.type ((cs.drop f.offset).take (P.cellsOf f.type)) = xs[i]?)
    {j T O : Nat} {v : Value} (hf : (fs[j]?).map (fun f => (f.type, f.offset)) = some (T, O)) (hc : P.cellsOf T = 1) (hv : cs[O]? = some v) : ∃ y, DataW.trod enc P w base spare held n T [v] = some y := by
  cases hg : fs[j]? with
  | none => rw [hg] at hf; cases hf
  | some f =>
    rw [hg] at hf
    simp only [Option.map_some, Option.some.injEq, Prod.mk.injEq] at hf
    have h1 := h j f hg
    rw [hf.1, hf.2, hc] at h1
    have hj : j < xs.length := by rw [hl]; exact (Array.getElem?_eq_some_iff.1 hg).1
    rw [List.getElem?_eq_getElem hj] at h1
    have hO : O < cs.length := (List.getElem?_eq_some_iff.1 hv).1
    rw [List.drop_eq_getElem_cons hO, List.take_succ_cons, List.take_zero, (List.getElem?_eq_some_iff.1 hv).2] at h1
    exact ⟨_, h1⟩
theorem array6 {cs : Array Value} (h : cs.size = 6) : ∃ a b c d e f, cs = #[a, b, c, d, e, f] := by
  obtain ⟨l⟩ := cs
  match l, h with
  | [a, b, c, d, e, f], _ => exact ⟨a, b, c, d, e, f, rfl⟩
theorem array3' {cs : Array Value} (h : cs.size = 3) : ∃ a b c, cs = #[a, b, c] := by
  obtain ⟨l⟩ := cs
  match l, h with
  | [a, b, c], _ => exact ⟨a, b, c, rfl⟩
theorem int_cell {H : Type} {enc : TypeId × Value → H} {w : World} {base n : Nat} {spare : Nat → Bool} {held : Bool} {v : Value} (h : ∃ y, DataW.trod enc Try.prog w base spare held n 3 [v] = some y) : ∃ x, v = .int .i64 x ∧ I64 x := by
  obtain ⟨y, hy⟩ := h
  obtain ⟨x, hx, _, hw⟩ := DataW.trod_int Try.underlying3 hy
  simp only [List.cons.injEq, and_true] at hx
  exact ⟨x, hx, i64_wf hw⟩
theorem ht_form {H : Type} {enc : TypeId × Value → H} {w : World} {base b0 : Nat} {spare : Nat → Bool} {held : Bool} {r : Reach} {v : Value} {d : DataW H} {p : List MemPlace}
    (hv : Value.okWide Try.prog w r b0 24 v) (h : DataW.Trod enc Try.prog w base spare held 24 v d p) :
    ∃ n t o r d i, v = .agg #[.bool n, .int .i64 t, .int .i64 o, .int .i64 r, .int .i64 d, .int .i64 i] ∧ I64 t ∧ I64 o ∧ I64 r ∧ I64 d ∧ I64 i := by
  obtain ⟨cs, rfl, hs⟩ := okWide_struct under23 hv
  obtain ⟨c0, c1, c2, c3, c4, c5, rfl⟩ := array6 (hs.trans (by kernel_rfl))
  obtain ⟨fuel, hf⟩ := h
  obtain ⟨xs, m, _, _, _, hl, hx⟩ := DataW.trod_struct under23 hf
  obtain ⟨y0, h0⟩ := cell_form (j := 0) (T := 4) (O := 0) (v := c0) hl hx (by kernel_rfl) (by kernel_rfl) rfl
  obtain ⟨n, hn, _⟩ := DataW.trod_bool Try.underlying4 h0
  simp only [List.cons.injEq, and_true] at hn
  obtain ⟨t, rfl, ht⟩ := int_cell (cell_form (j := 1) (T := 3) (O := 1) (v := c1) hl hx (by kernel_rfl) (by kernel_rfl) rfl)
  obtain ⟨o, rfl, ho⟩ := int_cell (cell_form (j := 2) (T := 3) (O := 2) (v := c2) hl hx (by kernel_rfl) (by kernel_rfl) rfl)
  obtain ⟨r, rfl, hr⟩ := int_cell (cell_form (j := 3) (T := 3) (O := 3) (v := c3) hl hx (by kernel_rfl) (by kernel_rfl) rfl)
  obtain ⟨d, rfl, hd⟩ := int_cell (cell_form (j := 4) (T := 3) (O := 4) (v := c4) hl hx (by kernel_rfl) (by kernel_rfl) rfl)
  obtain ⟨i, rfl, hi⟩ := int_cell (cell_form (j := 5) (T := 3) (O := 5) (v := c5) hl hx (by kernel_rfl) (by kernel_rfl) rfl)
  subst hn
  exact ⟨n, t, o, r, d, i, rfl, ht, ho, hr, hd, hi⟩
theorem lev_form {H : Type} {enc : TypeId × Value → H} {w : World} {base b0 : Nat} {spare : Nat → Bool} {held : Bool} {r : Reach} {v : Value} {d : DataW H} {p : List MemPlace}
    (hv : Value.okWide Try.prog w r b0 49 v) (h : DataW.Trod enc Try.prog w base spare held 49 v d p) :
    ∃ t o r, v = .agg #[.int .i64 t, .int .i64 o, .int .i64 r] ∧ I64 t ∧ I64 o ∧ I64 r := by
  obtain ⟨cs, rfl, hs⟩ := okWide_struct under25 hv
  obtain ⟨c1, c2, c3, rfl⟩ := array3' (hs.trans (by kernel_rfl))
  obtain ⟨fuel, hf⟩ := h
  obtain ⟨xs, m, _, _, _, hl, hx⟩ := DataW.trod_struct under25 hf
  obtain ⟨t, rfl, ht⟩ := int_cell (cell_form (j := 0) (T := 3) (O := 0) (v := c1) hl hx (by kernel_rfl) (by kernel_rfl) rfl)
  obtain ⟨o, rfl, ho⟩ := int_cell (cell_form (j := 1) (T := 3) (O := 1) (v := c2) hl hx (by kernel_rfl) (by kernel_rfl) rfl)
  obtain ⟨r, rfl, hr⟩ := int_cell (cell_form (j := 2) (T := 3) (O := 2) (v := c3) hl hx (by kernel_rfl) (by kernel_rfl) rfl)
  exact ⟨t, o, r, rfl, ht, ho, hr⟩
end Go.Proofs.Ytmimgpnogjgliaa

