/- A pointer to an echo of a row goes through unsafe.Pointer as itself. No conditions. -/
import Derived.Test.YtaflgabjpcfgpaaLie
import Derived.Test.YtaflgabjpcfgpaaBec
namespace Go.Proofs.Ytaflgabjpcfgpaa
set_option maxRecDepth 100000
open Go.RowKit

theorem table_parts : ((List.range Try.prog.types.size).all fun e => match Try.prog.underlying e with
    | some (.struct fs) => fs.all fun f => decide (f.offset + Try.prog.cellsOf f.type ≤ Try.prog.cellsOf e)
    | some (.array m e') => decide (m * Try.prog.cellsOf e' ≤ Try.prog.cellsOf e)
    | _ => true) = true := by kernel_rfl
theorem parts_struct (e : TypeId) (fs : Array Field) (f : Field) (h : Try.prog.underlying e = some (.struct fs)) (hf : f ∈ fs) : f.offset + Try.prog.cellsOf f.type ≤ Try.prog.cellsOf e := by
  by_cases he : e < Try.prog.types.size
  · have := List.all_eq_true.1 table_parts e (List.mem_range.2 he)
    rw [h] at this
    simp only [Array.all_eq_true_iff_forall_mem] at this
    exact of_decide_eq_true (this f hf)
  · obtain ⟨j, hj, rfl⟩ := Array.getElem_of_mem hf
    exact struct_fits he h j _ (Array.getElem?_eq_getElem hj)
theorem parts_array (e : TypeId) (m : Nat) (e' : TypeId) (h : Try.prog.underlying e = some (.array m e')) : m * Try.prog.cellsOf e' ≤ Try.prog.cellsOf e := by
  by_cases he : e < Try.prog.types.size
  · have := List.all_eq_true.1 table_parts e (List.mem_range.2 he)
    rw [h] at this
    exact of_decide_eq_true this
  · exact array_fits he h

theorem depth_is : Try.prog.depth = Try.prog.depth - 1 - 1 + 1 + 1 := by kernel_rfl
theorem table_fits : ((List.range Try.prog.types.size).all fun e => (!sameLayout Try.prog (Try.prog.depth - 1 - 1 + 1 + 1) e 52 || Try.prog.cellsOf e == 2) &&
    ((!sameLayout Try.prog (Try.prog.depth - 1 - 1 + 1) e 4 || Try.prog.cellsOf e == 1) && (!sameLayout Try.prog (Try.prog.depth - 1 - 1 + 1) e 3 || Try.prog.cellsOf e == 1))) = true := by kernel_rfl
theorem one_cell {t e : TypeId} (ht : t = 4 ∨ t = 3) (h : sameLayout Try.prog (Try.prog.depth - 1 - 1 + 1) e t = true) : Try.prog.cellsOf e = 1 := by
  by_cases he : e < Try.prog.types.size
  · have := List.all_eq_true.1 table_fits e (List.mem_range.2 he)
    simp only [Bool.and_eq_true] at this
    rcases ht with rfl | rfl
    · have h2 := this.2.1; rw [h] at h2; simpa using h2
    · have h2 := this.2.2; rw [h] at h2; simpa using h2
  · exfalso
    unfold sameLayout at h
    have hu : Try.prog.underlyingId t < Try.prog.types.size := by rcases ht with rfl | rfl <;> exact of_decide_eq_true (by kernel_rfl)
    have hid : Try.prog.underlying e ≠ none → Try.prog.underlyingId e = e := by
      intro hn
      obtain ⟨u, hu'⟩ := Option.ne_none_iff_exists'.1 hn
      obtain ⟨d, i, _, _, _, h5, _⟩ := beyond he hu'
      exact h5
    have hnid : Try.prog.underlying e = none → Try.prog.underlyingId e = e := by
      intro hn
      unfold Program.underlyingId
      unfold Program.underlying at hn
      split
      · rename_i n v hh
        have hto := Tables.info?_beyond he hh
        cases hto
      · rfl
    have hid' : Try.prog.underlyingId e = e := by
      by_cases hn : Try.prog.underlying e = none
      · exact hnid hn
      · exact hid hn
    rcases Bool.or_eq_true_iff.1 h with h | h
    · rw [hid'] at h
      have : e = Try.prog.underlyingId t := by simpa using h
      exact he (this ▸ hu)
    · have h4 : Try.prog.underlying t = some .bool ∨ Try.prog.underlying t = some (.int .i64) := by
        rcases ht with rfl | rfl
        · exact .inl Try.underlying4
        · exact .inr Try.underlying3
      split at h
      · rename_i k k' h1 h2
        obtain ⟨d, i, _, _, _, _, h6⟩ := beyond he h1
        cases h6
      · rename_i h1 h2; rcases h4 with h4 | h4 <;> (rw [h4] at h2; cases h2)
      · rename_i h1 h2; rcases h4 with h4 | h4 <;> (rw [h4] at h2; cases h2)
      · cases h
theorem fields_types : ((Try.prog.fieldsOf 52).toList.map fun f => f.type) = [3, 3] := by kernel_rfl
theorem two_cells (e : TypeId) (h : sameLayout Try.prog Try.prog.depth e 52 = true) : Try.prog.cellsOf e = 2 := by
  rw [depth_is] at h
  by_cases he : e < Try.prog.types.size
  · have := List.all_eq_true.1 table_fits e (List.mem_range.2 he)
    simp only [Bool.and_eq_true] at this
    have h2 := this.1
    rw [h] at h2; simpa using h2
  · have hu : Try.prog.underlyingId 52 < Try.prog.types.size := of_decide_eq_true (by kernel_rfl)
    unfold sameLayout at h
    rw [underEC] at h
    cases hue : Try.prog.underlying e with
    | none =>
      rw [hue] at h
      simp only [Bool.or_false] at h
      exfalso
      have hid : Try.prog.underlyingId e = e := by
        unfold Program.underlyingId
        split
        · rename_i n v hh
          have hto := Tables.info?_beyond he hh
          cases hto
        · rfl
      rw [hid] at h
      have : e = Try.prog.underlyingId 52 := by simpa using h
      exact he (this ▸ hu)
    | some u =>
      obtain ⟨d, i, _, _, _, hid, _⟩ := beyond he hue
      rw [hue] at h
      rcases Bool.or_eq_true_iff.1 h with h | h
      · exfalso
        rw [hid] at h
        have : e = Try.prog.underlyingId 52 := by simpa using h
        exact he (this ▸ hu)
      · split at h
        · rename_i h2; cases h2
        · rename_i fs gs h1 h2
          cases h1; cases h2
          simp only [Bool.and_eq_true, beq_iff_eq] at h
          obtain ⟨⟨_, hsz⟩, hall⟩ := h
          have hft := fields_types
          have hs2 : (Try.prog.fieldsOf 52).size = 2 := by have := congrArg List.length hft; simpa using this
          have := struct_ones he hue fun j g hg => by
            have hj : j < fs.size := (Array.getElem?_eq_some_iff.1 hg).1
            have hj' : j < (Try.prog.fieldsOf 52).size := by omega
            have hz := Array.all_eq_true.1 hall j (by simp; omega)
            simp only [Array.getElem_zip] at hz
            rw [(Array.getElem?_eq_some_iff.1 hg).2] at hz
            refine one_cell ?_ hz
            have h3 : ((Try.prog.fieldsOf 52).toList.map fun f => f.type)[j]? = some (Try.prog.fieldsOf 52)[j].type := by simp [hj']
            rw [hft] at h3
            have : j = 0 ∨ j = 1 := by omega
            rcases this with rfl | rfl <;> simp at h3 <;> first | exact .inl h3.symm | exact .inr h3.symm
          rw [this]; omega
        · rename_i h2; cases h2
        · cases h

theorem liesEC {e count off n k : Nat} (h : liesAt Try.prog Try.prog.depth e count off 52 n = true) (hk : k < n) : liesAt Try.prog Try.prog.depth e count (off + k * 2) 52 1 = true := by
  have hd : Try.prog.depth = Try.prog.depth - 1 + 1 := by kernel_rfl
  have key : ∀ o m, liesAt Try.prog (Try.prog.depth - 1 + 1) e count o 52 m = rowAt Try.prog (sameLayout Try.prog Try.prog.depth · 52) Try.prog.depth e count o m := by
    intro o m
    unfold liesAt
    rw [underEC]
    simp only [Bool.or_false]
  rw [hd] at h ⊢
  rw [key] at h ⊢
  exact (rowAt_part (by decide) (fun e => two_cells e) parts_struct parts_array _ _ _ _ _ h).2 k hk
#print axioms liesEC
end Go.Proofs.Ytaflgabjpcfgpaa
