/- Plain words on rows of numbers in memory; numbers that go round: the program's own calls. No conditions. -/
import Derived.Test.YtfiaghfaijlfjaaGreatRows
import Derived.WalkKit
import Derived.ProofKit
import Derived.OpenShut
import Derived.ShutString
import Derived.ChangeOld
import Derived.Below
import Derived.LoopTactic
import Derived.Lib.Hide
import Derived.Outline
import Derived.Laws.BytesArg
namespace Go.Proofs.YtfiaghfaijlfjaaGreat
set_option maxRecDepth 100000
open Go.RowKit

/-- A value that is a slice of numbers whose elements read as xs. -/
def Zs (w : World) (v : Value) (xs : List Int) : Prop :=
  xs.length ≤ 9223372036854775807 ∧
  ((∃ a cap, v = .slice a 0 cap ∧ (a = none → cap = 0) ∧ xs = []) ∨
   ∃ b off cap, v = .slice (some ⟨b, off, none⟩) xs.length cap ∧ xs.length ≤ cap ∧ ∀ i, i < xs.length → w.cell? ⟨b, off + i, none⟩ = some (.int .i64 (xs.getD i 0)))
theorem Zs_below {w w' : World} {v : Value} {xs : List Int} (h : Zs w v xs) (hb : Below w.heap.size w w') : Zs w' v xs := by
  obtain ⟨hl, h | ⟨b, off, cap, hv, hcap, hc⟩⟩ := h
  · exact ⟨hl, .inl h⟩
  · refine ⟨hl, .inr ⟨b, off, cap, hv, hcap, fun i hi => ?_⟩⟩
    have := hc i hi
    rw [hb.cell (World.block_lt_of_cell? w _ this)]; exact this
theorem is_lit (w : World) (xs : List Int) (T : TypeId) (g n : Nat) (hg : g = w.heap.size) (hn : n = xs.length) (hl : xs.length ≤ 1000) (o : Obj) (ho : o = .cells (xs.map (Value.int .i64)).toArray T) : Zs (w.alloc o) (.slice (some ⟨g, 0, none⟩) n n) xs := by
  subst hg; subst hn; subst ho
  refine ⟨by omega, .inr ⟨w.heap.size, 0, xs.length, rfl, Nat.le_refl _, fun i hi => ?_⟩⟩
  simp [List.getD, hi]
theorem z_ret_int {k : IntKind} {a b : Int} (h : a = b) : Ending.returned (.int k a) = .returned (.int k b) := by rw [h]
theorem ret_bool {a b : Bool} (h : a = b) : Ending.returned (.bool a) = .returned (.bool b) := by rw [h]
/-- n and all of the first k. -/
def sumTo (n : Int) (xs : List Int) (k : Nat) : Int := (n + (xs.take k).sum) % 65536
theorem sumTo_bd (n : Int) (xs : List Int) (k : Nat) : 0 ≤ sumTo n xs k ∧ sumTo n xs k < 65536 := by unfold sumTo; omega
theorem sumTo_succ (n : Int) (xs : List Int) (k : Nat) (h : k < xs.length) : sumTo n xs (k + 1) = (sumTo n xs k + (xs.getD k 0) % 65536) % 65536 := by
  unfold sumTo
  rw [List.take_succ_eq_append_getElem h, List.sum_append]
  have : xs.getD k 0 = xs[k] := by simp [List.getD, h]
  rw [this]
  simp
  omega
theorem wrap16 (x : Int) : IntKind.u16.wrap x = x % 65536 := by rw [IntKind.wrap_u16]
set_option maxHeartbeats 400000 in
theorem and_any (n : Int) (v : Value) (xs : List Int) (w : World) (h0 : 0 ≤ n) (h1 : n < 65536) (hv : Zs w v xs) :
    Calls Tryz.prog 60 #[.int .u16 n, v] w fun e w' => e = .returned (.int .i64 ((n + xs.sum) % 65536)) ∧ w = w' := by
  obtain ⟨hl, ⟨a, cap, rfl, -, rfl⟩ | ⟨b, off, cap, rfl, hcap, hc⟩⟩ := hv
  · go_enter Tryz.func60, Tryz.ntmps60
    go_wp2
    go_loop [0, 9] (fun p i => p = .int .u16 n ∧ i = .int .i64 0) (fun _ _ => 0)
    case atStart => exact ⟨rfl, rfl⟩
    case round =>
      obtain ⟨rfl, rfl⟩ := hrel
      go_wp2
      go_ret
      exact ⟨z_ret_int (by omega), rfl⟩
  · have e0 : sumTo n xs 0 = n := by simp [sumTo]; omega
    have eN : sumTo n xs xs.length = (n + xs.sum) % 65536 := by simp [sumTo]
    rw [← eN]
    clear eN
    have E0 := Lib.hid e0
    clear e0
    go_enter Tryz.func60, Tryz.ntmps60
    go_wp2
    go_loop [0, 9] (fun p i => ∃ k : Nat, k ≤ xs.length ∧ i = .int .i64 k ∧ p = .int .u16 (sumTo n xs k)) (fun _ i => xs.length - (intOf i).toNat)
    case atStart => exact ⟨0, Nat.zero_le _, rfl, by rw [E0.out]⟩
    case round =>
      obtain ⟨k, hk, rfl, rfl⟩ := hrel
      obtain ⟨b1, b2⟩ := sumTo_bd n xs k
      by_cases hlt : k < xs.length
      · have hck := hc k hlt
        have hs := Lib.hid (sumTo_succ n xs k hlt)
        generalize xs.getD k 0 = c at *
        clear hc
        go_wp2
        go_round
        case rel => exact ⟨k + 1, by omega, by go_num, by rw [hs.out]; simp only [wrap16]⟩
        case measure => simp [intOf]; omega
      · obtain rfl : k = xs.length := by omega
        clear hc
        go_wp2
        go_ret
        exact ⟨rfl, rfl⟩
end Go.Proofs.YtfiaghfaijlfjaaGreat

