/- Beacons without an echo: the reference's Without. No conditions but on lengths. -/
import Derived.Test.YtcddicaebecneaaBer
import Derived.Test.YtcddicaebecneaaBes
namespace Go.Proofs.Ytcddicaebecneaa
set_option maxRecDepth 100000
open Go.RowKit

/-- Echoes in memory of one's own. -/
def OwE (w : World) (S : Nat) (v : Value) (xs : List (Int × Int)) : Prop := w.ownsRow S 51 2 v xs.length (eflat xs)
theorem OwE.form {w : World} {S : Nat} {v : Value} {xs : List (Int × Int)} (h : OwE w S v xs) : ∃ a c, v = .slice a xs.length c := gown_form h
theorem OwE.lt {w : World} {S : Nat} {v : Value} {xs : List (Int × Int)} (h : OwE w S v xs) (b : Nat) (hb : v.ownBlock = some b) : S ≤ b ∧ b < w.heap.size := World.ownsRow.lt h b hb
theorem OwE.set {w : World} {S b : Nat} {v u : Value} {xs : List (Int × Int)} (h : OwE w S v xs) (hb : b < S) (j : Nat) : OwE (w.setCell ⟨b, j, none⟩ u) S v xs := gown_apart h hb j
theorem OwE.mono {w : World} {S B : Nat} {v : Value} {xs : List (Int × Int)} (h : OwE w S v xs) (hB : B ≤ S) : OwE w B v xs := gown_mono h hB
theorem OwnB2.set {w : World} {b : Nat} {M : Int} {v : Value} (h : OwnB2 w b M v) (M' : Int) (v' : Value) : OwnB2 ((w.setCell ⟨b, 0, none⟩ (.int .i64 M')).setCell ⟨b, 1, none⟩ v') b M' v' := by
  obtain ⟨⟨h0, h1⟩, hf⟩ := h
  refine ⟨⟨?_, ?_⟩, fun j => ?_⟩ <;> simp [go_sem, hf, h0, h1]
end Go.Proofs.Ytcddicaebecneaa

