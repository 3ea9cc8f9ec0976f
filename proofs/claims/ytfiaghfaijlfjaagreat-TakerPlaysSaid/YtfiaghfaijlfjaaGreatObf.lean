/- A batch as an argument: what its value is. No conditions. -/
import Derived.Test.YtfiaghfaijlfjaaGreatOps
namespace Go.Proofs.YtfiaghfaijlfjaaGreat
set_option maxRecDepth 100000
open Go.RowKit Go.Sort Go.WideShapes Go.ChangeShapes

theorem os_trod' {H : Type} {enc : TypeId × Value → H} {w : World} {base : Nat} {spare : Nat → Bool} {held : Bool} {f : Nat} {u : Value} {X : DataW H × List MemPlace}
    (hf : DataW.trod enc Tryz.prog w base spare held f 29 [u] = some X) : ∃ (a : Option Addr) (cap : Nat) (ys : List Ob), u = .slice a ys.length cap ∧ Os w u ys := by
  rcases Deep.open_slice underSL hf with ⟨hcs, _⟩ | ⟨x, l, c, m, n, D, Pl, hcs, _, hlc, _, hm, _, hel⟩
  · simp at hcs
    subst hcs
    exact ⟨none, 0, [], rfl, Os_nil w⟩
  · simp at hcs
    subst hcs
    by_cases h0 : l = 0
    · subst h0
      exact ⟨_, c, [], rfl, .inl ⟨_, c, rfl, (fun h => by cases h), rfl⟩⟩
    · obtain ⟨b, off, spot⟩ := x
      have hlm : l ≤ m := by rw [hm]; split <;> omega
      have c12 : Tryz.prog.cellsOf 53 = 12 := by kernel_rfl
      have hsp : spot = none := by
        obtain ⟨cs', h1, h2⟩ := hel 0 (by omega)
        rw [c12] at h1
        obtain ⟨_, hl12, hcell⟩ := World.cells?_some h1
        obtain ⟨y, rfl⟩ := cl_form hl12 h2
        have hc0 := hcell 0 (by decide)
        simpa [Addr.add] using World.cell?_spot hc0
      subst hsp
      have each : ∀ k, ∃ y : Ob, k < l → C12 w b (off + k * 12) y ∧ b < w.heap.size := by
        intro k
        by_cases hk : k < l
        · obtain ⟨cs', h1, h2⟩ := hel k (by omega)
          rw [c12] at h1
          obtain ⟨_, hl12, hcell⟩ := World.cells?_some h1
          obtain ⟨y, rfl⟩ := cl_form hl12 h2
          have hB := World.cells?_block h1 (by decide)
          have hadd : (⟨b, off, none⟩ : Addr).add (k * 12) = ⟨b, off + k * 12, none⟩ := by unfold Addr.add; split <;> simp_all
          rw [hadd] at hcell hB
          have hadd2 : ∀ j, (⟨b, off + k * 12, none⟩ : Addr).add j = ⟨b, off + k * 12 + j, none⟩ := fun j => by unfold Addr.add; split <;> simp_all
          exact ⟨y, fun _ => ⟨fun j hj => by rw [← hadd2]; exact hcell j hj, hB⟩⟩
        · exact ⟨z12, fun h => absurd h hk⟩
      obtain ⟨F, hF⟩ := Classical.skolem.1 each
      refine ⟨some ⟨b, off, none⟩, c, (List.range l).map F, by simp, .inr ⟨b, off, c, by simp, by simpa using hlc, (hF 0 (by omega)).2, fun i hi => ?_⟩⟩
      have hi' : i < l := by simpa using hi
      have e : ((List.range l).map F).getD i z12 = F i := by simp [List.getD, hi']
      rw [e]
      exact (hF i hi').1
theorem bat_form {H : Type} {enc : TypeId × Value → H} {w : World} {base b0 : Nat} {spare : Nat → Bool} {held : Bool} {r : Reach} {v : Value} {d : DataW H} {p : List MemPlace}
    (hv : Value.okWide Tryz.prog w r b0 34 v) (h : DataW.Trod enc Tryz.prog w base spare held 34 v d p) :
    ∃ (M : Int) (a : Option Addr) (cap : Nat) (ys : List Ob), v = .agg #[.int .i64 M, .slice a ys.length cap] ∧ I64 M ∧ Os w (.slice a ys.length cap) ys := by
  obtain ⟨cs, rfl, hs⟩ := okWide_struct underBT hv
  obtain ⟨c0, c1, rfl⟩ := array2' (hs.trans (by kernel_rfl))
  obtain ⟨fuel, hf⟩ := h
  obtain ⟨xs, m, _, _, _, hl, hx⟩ := DataW.trod_struct underBT hf
  obtain ⟨M, rfl, hM⟩ := int_cell (cell_form (j := 0) (T := 3) (O := 0) (v := c0) hl hx (by kernel_rfl) (by kernel_rfl) rfl)
  obtain ⟨y1, h1⟩ := cell_form (j := 1) (T := 29) (O := 1) (v := c1) hl hx (by kernel_rfl) (by kernel_rfl) rfl
  obtain ⟨a, cap, ys, rfl, ho⟩ := os_trod' h1
  exact ⟨M, a, cap, ys, rfl, hM, ho⟩
end Go.Proofs.YtfiaghfaijlfjaaGreat

