/- Plain words on rows of numbers in memory; numbers that go round: the program's own calls. No conditions. -/
import Derived.Test.YteleedpiadcfjaaRows
import Derived.WalkKit
import Derived.ProofKit
import Derived.OpenShut
import Derived.ShutString
import Derived.ChangeOld
import Derived.Below
import Derived.LoopTactic
import Derived.Lib.Hide
import Derived.Outline
import Derived.Laws.BytesArg
namespace Go.Proofs.Yteleedpiadcfjaa
set_option maxRecDepth 100000
open Go.RowKit

/-- A value that is a slice of numbers whose elements read as xs. -/
def Zs (w : World) (v : Value) (xs : List Int) : Prop :=
  xs.length ≤ 9223372036854775807 ∧
  ((∃ a cap, v = .slice a 0 cap ∧ (a = none → cap = 0) ∧ xs = []) ∨
   ∃ b off cap, v = .slice (some ⟨b, off, none⟩) xs.length cap ∧ xs.length ≤ cap ∧ ∀ i, i < xs.length → w.cell? ⟨b, off + i, none⟩ = some (.int .i64 (xs.getD i 0)))

theorem Zs_below {w w' : World} {v : Value} {xs : List Int} (h : Zs w v xs) (hb : Below w.heap.size w w') : Zs w' v xs := by
  obtain ⟨hl, h | ⟨b, off, cap, hv, hcap, hc⟩⟩ := h
  · exact ⟨hl, .inl h⟩
  · refine ⟨hl, .inr ⟨b, off, cap, hv, hcap, fun i hi => ?_⟩⟩
    have := hc i hi
    rw [hb.cell (World.block_lt_of_cell? w _ this)]; exact this

theorem Zs_of_own {w : World} {base n : Nat} {v : Value} {xs : List Int} (h : w.ownsRow base 3 1 v n (xs.map (Value.int .i64))) (hn : xs.length ≤ 9223372036854775807) : Zs w v xs := by
  have hl : n = xs.length := by simpa using h.1.symm
  refine ⟨hn, ?_⟩
  rcases h.2 with ⟨hnil, he⟩ | ⟨g, cap, cur, hv, hbase, hb, h1, h2, h3, h4⟩
  · have : xs = [] := List.length_eq_zero_iff.1 (by omega)
    subst this
    exact .inl ⟨none, 0, by simpa using hnil, fun _ => rfl, rfl⟩
  · refine .inr ⟨g, 0, cap, by rw [← hl]; exact hv, by omega, fun i hi => ?_⟩
    have e1 : (cur.toList.take (n * 1))[i]? = (xs.map (Value.int .i64))[i]? := by rw [h4]
    rw [List.getElem?_take, if_pos (by omega), Array.getElem?_toList] at e1
    simp only [World.cell?, hb, Nat.zero_add]
    simp only [Option.isSome_none, Bool.false_eq_true, if_false]
    rw [e1]
    simp [List.getD, hi]

theorem is_lit (w : World) (xs : List Int) (T : TypeId) (g n : Nat) (hg : g = w.heap.size) (hn : n = xs.length) (hl : xs.length ≤ 1000) (o : Obj) (ho : o = .cells (xs.map (Value.int .i64)).toArray T) : Zs (w.alloc o) (.slice (some ⟨g, 0, none⟩) n n) xs := by
  subst hg; subst hn; subst ho
  refine ⟨by omega, .inr ⟨w.heap.size, 0, xs.length, rfl, Nat.le_refl _, fun i hi => ?_⟩⟩
  simp [List.getD, hi]

theorem z_ret_int {k : IntKind} {a b : Int} (h : a = b) : Ending.returned (.int k a) = .returned (.int k b) := by rw [h]
theorem ret_bool {a b : Bool} (h : a = b) : Ending.returned (.bool a) = .returned (.bool b) := by rw [h]
theorem z_val_int {k : IntKind} {a b : Int} (h : a = b) : Value.int k a = .int k b := by rw [h]

/-- n and all of the first k. -/
def sumTo (n : Int) (xs : List Int) (k : Nat) : Int := (n + (xs.take k).sum) % 65536
theorem sumTo_bd (n : Int) (xs : List Int) (k : Nat) : 0 ≤ sumTo n xs k ∧ sumTo n xs k < 65536 := by unfold sumTo; omega
theorem sumTo_succ (n : Int) (xs : List Int) (k : Nat) (h : k < xs.length) : sumTo n xs (k + 1) = (sumTo n xs k + (xs.getD k 0) % 65536) % 65536 := by
  unfold sumTo
  rw [List.take_succ_eq_append_getElem h, List.sum_append]
  have : xs.getD k 0 = xs[k] := by simp [List.getD, h]
  rw [this]
  simp
  omega

theorem wrap16 (x : Int) : IntKind.u16.wrap x = x % 65536 := by rw [IntKind.wrap_u16]

end Go.Proofs.Yteleedpiadcfjaa
