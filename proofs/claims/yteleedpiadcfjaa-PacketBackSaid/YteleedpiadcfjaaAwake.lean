/- The document's examples: awake answers true. No conditions. -/
import Derived.Test.YteleedpiadcfjaaRint
import Derived.Test.YteleedpiadcfjaaRef
namespace Go.Proofs.Yteleedpiadcfjaa
set_option maxRecDepth 100000
open Go.RowKit

theorem run_conv_zero (w : World) (p : Option Addr) (c : Nat) : (convert 24 9 (.slice p 0 c)).run Try.prog w = .ok (.string ByteArray.empty) w := by
  cases p with
  | none => exact run_convert_bytes_nil w 24 5 Try.underlying24 Try.underlying5 0 c 9 Try.underlying9
  | some x =>
    have hl : (loadCells x 0).run Try.prog w = .ok (([] : List Int).map (Value.int .u8)).toArray w := run_loadCells_list (P := Try.prog) w x [] (fun j v hj => by cases hj)
    rw [run_convert_bytes_string w 24 9 5 _ 0 c Try.underlying24 Try.underlying5 Try.underlying9, run_bytesToString w _ 0 c [] hl]
    rfl
/-- A slice of bytes turned into a string. -/
theorem Bs_conv {w : World} {v : Value} {xs : List Int} (h : Bs w v xs) : (convert 24 9 v).run Try.prog w = .ok (.string (strOfNums xs)) w := by
  obtain ⟨h1, h2, ⟨a, cap, rfl, -, rfl⟩ | ⟨b, off, cap, rfl, h5, h6⟩⟩ := h
  · exact run_conv_zero w a cap
  · exact run_convert_bytes_arg w 24 5 Try.underlying24 Try.underlying5 b off _ cap xs rfl h6 9 Try.underlying9

theorem Bs_lit {w : World} (cs : List Int) (T : TypeId) (h : ∀ x ∈ cs, 0 ≤ x ∧ x < 256) (hl : cs.length ≤ 9) (o : Obj) (ho : o = .cells (cs.map (Value.int .u8)).toArray T) (g : Nat) (hg : g = w.heap.size) (n : Nat) (hn : n = cs.length) : Bs (w.alloc o) (.slice (some ⟨g, 0, none⟩) n n) cs := by
  subst ho hg hn
  refine ⟨h, by omega, .inr ⟨_, 0, _, rfl, Nat.le_refl _, fun i hi => ?_⟩⟩
  rw [cell_of_row _ _ _ _ _ _ (heap_alloc_new w _)]
  simp [List.getD, hi]

theorem ex_ok : PutOk 258 3 := by decide
theorem ex_bytes : putB 258 3 = [0, 1, 2] := by decide
theorem ex_err : putE 258 3 = 0 := by decide

end Go.Proofs.Yteleedpiadcfjaa
