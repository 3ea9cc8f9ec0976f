/- A slice of heights as an argument: its elements, and where they lie. No conditions. -/
import Derived.Test.YtkgckmlphfafjaaBst0
import Derived.Test.YtkgckmlphfafjaaFrm
import Derived.Deep.Slices
namespace Go.Proofs.Ytkgckmlphfafjaa
open Go.RowKit Go.WideShapes Go.ChangeShapes

theorem under40 : Try.prog.underlying 40 = some (.slice 23) := by kernel_rfl
theorem six_list {l : List Value} (h : l.length = 6) : ∃ a b c d e f, l = [a, b, c, d, e, f] := by
  match l, h with
  | [a, b, c, d, e, f], _ => exact ⟨a, b, c, d, e, f, rfl⟩
theorem h6_form {H : Type} {enc : TypeId × Value → H} {w : World} {base n : Nat} {spare : Nat → Bool} {held : Bool} {cs : List Value} {x : DataW H × List MemPlace} (hl6 : cs.length = 6)
    (hf : DataW.trod enc Try.prog w base spare held n 23 cs = some x) : ∃ h : H6, cs = [.bool h.1, .int .i64 h.2.1, .int .i64 h.2.2.1, .int .i64 h.2.2.2.1, .int .i64 h.2.2.2.2.1, .int .i64 h.2.2.2.2.2] := by
  obtain ⟨c0, c1, c2, c3, c4, c5, rfl⟩ := six_list hl6
  obtain ⟨xs, m, _, _, _, hl, hx⟩ := DataW.trod_struct under23 hf
  obtain ⟨y0, h0⟩ := cell_form (j := 0) (T := 4) (O := 0) (v := c0) hl hx (by kernel_rfl) (by kernel_rfl) rfl
  obtain ⟨n, hn, _⟩ := DataW.trod_bool Try.underlying4 h0
  simp only [List.cons.injEq, and_true] at hn
  obtain ⟨t, rfl, ht⟩ := int_cell (cell_form (j := 1) (T := 3) (O := 1) (v := c1) hl hx (by kernel_rfl) (by kernel_rfl) rfl)
  obtain ⟨o, rfl, ho⟩ := int_cell (cell_form (j := 2) (T := 3) (O := 2) (v := c2) hl hx (by kernel_rfl) (by kernel_rfl) rfl)
  obtain ⟨r, rfl, hr⟩ := int_cell (cell_form (j := 3) (T := 3) (O := 3) (v := c3) hl hx (by kernel_rfl) (by kernel_rfl) rfl)
  obtain ⟨d, rfl, hd⟩ := int_cell (cell_form (j := 4) (T := 3) (O := 4) (v := c4) hl hx (by kernel_rfl) (by kernel_rfl) rfl)
  obtain ⟨i, rfl, hi⟩ := int_cell (cell_form (j := 5) (T := 3) (O := 5) (v := c5) hl hx (by kernel_rfl) (by kernel_rfl) rfl)
  subst hn
  exact ⟨(n, t, o, r, d, i), rfl⟩

theorem hts_form {H : Type} {enc : TypeId × Value → H} {w : World} {base b0 : Nat} {spare : Nat → Bool} {held : Bool} {r : Reach} {a : Option Addr} {len cap : Nat} {d : DataW H} {p : List MemPlace}
    (hv : Value.okWide Try.prog w r b0 40 (.slice a len cap)) (h : DataW.Trod enc Try.prog w base spare held 40 (.slice a len cap) d p) : ∃ hs : List H6, hs.length = len ∧ Hs w a hs := by
  obtain ⟨fuel, hf⟩ := h
  rcases Deep.open_slice under40 hf with ⟨hcs, _⟩ | ⟨x, l, c, m, n, D, Pl, hcs, _, hlc, _, hm, _, hel⟩
  · simp [Value.cells] at hcs
    obtain ⟨rfl, rfl, rfl⟩ := hcs
    exact ⟨[], rfl, fun k hk => absurd hk (Nat.not_lt_zero _)⟩
  · simp [Value.cells] at hcs
    obtain ⟨rfl, rfl, rfl⟩ := hcs
    simp only [Value.okWide, under40, Cell.okWide, Cell.ok] at hv
    obtain ⟨_, _, _, hspot, row, cells, hsh, hlies⟩ := hv
    obtain ⟨b, off, spot⟩ := x
    simp only at hspot hsh hlies
    subst hspot
    have hlm : len ≤ m := by rw [hm]; split <;> omega
    have c6 : Try.prog.cellsOf 23 = 6 := by kernel_rfl
    have each : ∀ k, ∃ y : H6, k < len → C6 w b (off + k * 6) y ∧ b < w.heap.size := by
      intro k
      by_cases hk : k < len
      · obtain ⟨cs', h1, h2⟩ := hel k (by omega)
        rw [c6] at h1
        obtain ⟨_, hl6, hcell⟩ := World.cells?_some h1
        obtain ⟨y, rfl⟩ := h6_form hl6 h2
        have hB := World.cells?_block h1 (by decide)
        have hadd : (⟨b, off, none⟩ : Addr).add (k * 6) = ⟨b, off + k * 6, none⟩ := by unfold Addr.add; split <;> simp_all
        rw [hadd] at hcell hB
        have hadd2 : ∀ j, (⟨b, off + k * 6, none⟩ : Addr).add j = ⟨b, off + k * 6 + j, none⟩ := fun j => by unfold Addr.add; split <;> simp_all
        have hc : ∀ j, j < 6 → w.cell? ⟨b, off + k * 6 + j, none⟩ = [Value.bool y.1, .int .i64 y.2.1, .int .i64 y.2.2.1, .int .i64 y.2.2.2.1, .int .i64 y.2.2.2.2.1, .int .i64 y.2.2.2.2.2][j]? := fun j hj => by rw [← hadd2]; exact hcell j hj
        exact ⟨y, fun _ => ⟨⟨hc 0 (by decide), hc 1 (by decide), hc 2 (by decide), hc 3 (by decide), hc 4 (by decide), hc 5 (by decide)⟩, hB⟩⟩
      · exact ⟨z6, fun h => absurd h hk⟩
    obtain ⟨f, hf'⟩ := Classical.skolem.1 each
    refine ⟨(List.range len).map f, by simp, fun k hk => ?_⟩
    have hk' : k < len := by simpa using hk
    obtain ⟨h1, h2⟩ := hf' k hk'
    have e : ((List.range len).map f).getD k z6 = f k := by simp [List.getD, hk']
    rw [e]
    refine ⟨b, off, rfl, h2, h1, ⟨_, h1.1⟩, row, cells, hsh, ?_⟩
    exact lies23 hlies (Nat.lt_of_lt_of_le hk' hlc)
#print axioms hts_form
end Go.Proofs.Ytkgckmlphfafjaa
