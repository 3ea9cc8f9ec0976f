/- Plain words on bytes in memory, and the checksums' contracts. No conditions. -/
import Derived.Test.YteleedpiadcfjaaRows
import Derived.WalkKit
import Derived.ProofKit
import Derived.OpenShut
import Derived.ShutString
import Derived.ChangeOld
import Derived.Below
import Derived.LoopTactic
import Derived.Lib.Hide
import Derived.Outline
import Derived.Laws.BytesArg
namespace Go.Proofs.Yteleedpiadcfjaa
set_option maxRecDepth 100000
open Go.RowKit

/-- A value that is a slice of bytes whose elements read as xs. -/
def Bs (w : World) (v : Value) (xs : List Int) : Prop :=
  (∀ x ∈ xs, 0 ≤ x ∧ x < 256) ∧ xs.length ≤ 9223372036854775807 ∧
  ((∃ a cap, v = .slice a 0 cap ∧ (a = none → cap = 0) ∧ xs = []) ∨
   ∃ b off cap, v = .slice (some ⟨b, off, none⟩) xs.length cap ∧ xs.length ≤ cap ∧ ∀ i, i < xs.length → w.cell? ⟨b, off + i, none⟩ = some (.int .u8 (xs.getD i 0)))

def stepS (p : Int × Int) (x : Int) : Int × Int := ((p.1 + x) % 251, (p.2 + (p.1 + x) % 251) % 251)
def sumP (xs : List Int) : Int × Int := xs.foldl stepS (1, 0)
def sumN (xs : List Int) : Int := 256 * (sumP xs).2 + (sumP xs).1

theorem sumP_bd (xs : List Int) : 0 ≤ (sumP xs).1 ∧ (sumP xs).1 < 251 ∧ 0 ≤ (sumP xs).2 ∧ (sumP xs).2 < 251 := by
  have key : ∀ (l : List Int) (p : Int × Int), (0 ≤ p.1 ∧ p.1 < 251 ∧ 0 ≤ p.2 ∧ p.2 < 251) →
      0 ≤ (l.foldl stepS p).1 ∧ (l.foldl stepS p).1 < 251 ∧ 0 ≤ (l.foldl stepS p).2 ∧ (l.foldl stepS p).2 < 251 := by
    intro l
    induction l with
    | nil => intro p h; exact h
    | cons x l ih => intro p h; exact ih _ ⟨by simp only [stepS]; omega, by simp only [stepS]; omega, by simp only [stepS]; omega, by simp only [stepS]; omega⟩
  exact key xs (1, 0) ⟨by decide, by decide, by decide, by decide⟩

theorem sumP_snoc (xs : List Int) (k : Nat) (h : k < xs.length) : sumP (xs.take (k + 1)) = stepS (sumP (xs.take k)) (xs.getD k 0) := by
  unfold sumP
  rw [List.take_succ_eq_append_getElem h, List.foldl_append]
  simp [List.getD, h]

theorem ret_int {k : IntKind} {a b : Int} (h : a = b) : Ending.returned (.int k a) = .returned (.int k b) := by rw [h]
theorem val_int {k : IntKind} {a b : Int} (h : a = b) : Value.int k a = .int k b := by rw [h]

theorem Bs_at {w : World} {xs : List Int} {b off : Nat} (hx : ∀ x ∈ xs, 0 ≤ x ∧ x < 256) (hc : ∀ i, i < xs.length → w.cell? ⟨b, off + i, none⟩ = some (.int .u8 (xs.getD i 0))) (k : Nat) (h : k < xs.length) :
    ∃ c : Int, Hid (xs.getD k 0 = c) ∧ 0 ≤ c ∧ c < 256 ∧ w.cell? ⟨b, off + k, none⟩ = some (.int .u8 c) := by
  have e : xs.getD k 0 = xs[k] := by simp [List.getD, h]
  have := hx xs[k] (List.getElem_mem h)
  exact ⟨xs[k], e, this.1, this.2, by rw [hc k h, e]⟩

end Go.Proofs.Yteleedpiadcfjaa
