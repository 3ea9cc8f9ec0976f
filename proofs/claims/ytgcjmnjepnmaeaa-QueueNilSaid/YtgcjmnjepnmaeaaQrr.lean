/- A ring of packets in an array of a struct: what it holds; a new one. -/
import Derived.Test.YtgcjmnjepnmaeaaQri
namespace Go.Proofs.Ytgcjmnjepnmaeaa
set_option maxRecDepth 100000
open Go.RowKit

/-- The cells of a queue without anything. -/
noncomputable def Z55 : Array Value := List.toArray (gflat RK (List.replicate 64 zPk) ++ [Value.int .i64 0, Value.int .i64 0, Value.int .i64 0])
theorem Z55_run (w : World) : Sem.run Try.prog (zeroValue 55) w = .ok (.agg Z55) w := by kernel_rfl
theorem zero55 : Z55.toList = gflat RK (List.replicate 64 zPk) ++ [.int .i64 0, .int .i64 0, .int .i64 0] := by kernel_rfl
theorem size55 : Z55.size = 323 := by kernel_rfl
theorem Z55_ne : Z55 ≠ #[] := fun h => by have := congrArg Array.size h; rw [size55] at this; cases this
/-- At block b: the ring's places, its beginning, how many, how many may be. -/
structure Ring (w : World) (b : Nat) (m : Int) (bg c : Nat) (R : Nat → Pk) : Prop where
  pk : ∀ j, j < 64 → C5 w b (j * 5) (R j)
  cb : w.cell? ⟨b, 320, none⟩ = some (.int .i64 bg)
  cc : w.cell? ⟨b, 321, none⟩ = some (.int .i64 c)
  cm : w.cell? ⟨b, 322, none⟩ = some (.int .i64 m)
  fz : ∀ j, w.frozen? ⟨b, j, none⟩ = false
  hb : bg < 64
  hm : (c : Int) ≤ m ∧ 1 ≤ m ∧ m ≤ 64
/-- What a ring holds, the first one first. -/
def held (bg c : Nat) (R : Nat → Pk) : List Pk := (List.range c).map fun i => R ((bg + i) % 64)
theorem held_len (bg c : Nat) (R : Nat → Pk) : (held bg c R).length = c := by simp [held]
theorem Ring.lt {w : World} {b : Nat} {m : Int} {bg c : Nat} {R : Nat → Pk} (h : Ring w b m bg c R) : b < w.heap.size := World.block_lt_of_cell? w _ h.cb
theorem Ring.chg {F : Nat → Prop} {w w' : World} {b : Nat} {m : Int} {bg c : Nat} {R : Nat → Pk} (h : Ring w b m bg c R) (hc : Chg F w w') (hn : ¬ F b) : Ring w' b m bg c R :=
  ⟨fun j hj => by
    obtain ⟨h0, h1, h2, h3, h4⟩ := h.pk j hj
    exact ⟨(hc.cell h.lt hn).trans h0, (hc.cell h.lt hn).trans h1, (hc.cell h.lt hn).trans h2, (hc.cell h.lt hn).trans h3, (hc.cell h.lt hn).trans h4⟩, (hc.cell h.lt hn).trans h.cb, (hc.cell h.lt hn).trans h.cc, (hc.cell h.lt hn).trans h.cm, fun j => (hc.frozen h.lt hn).trans (h.fz j), h.hb, h.hm⟩
theorem zero_at : ∃ zs : List Pk, zs.length = 64 ∧ (∀ j, j < 64 → zs.getD j zPk = zPk) ∧ Z55.toList = gflat RK zs ++ [.int .i64 0, .int .i64 0, .int .i64 0] :=
  ⟨List.replicate 64 zPk, by rw [List.length_replicate], fun j hj => by rw [List.getD, List.getElem?_replicate, if_pos hj]; rfl, zero55⟩
theorem ring_new (m : Int) (hm : 1 ≤ m ∧ m ≤ 64) (w : World) : Ring (w.alloc (.cells (Z55.setIfInBounds 322 (.int .i64 m)) 55)) w.heap.size m 0 0 (fun _ => zPk) := by
  obtain ⟨zs, hlz, hzz, h55⟩ := zero_at
  have hg : (w.alloc (.cells (Z55.setIfInBounds 322 (.int .i64 m)) 55)).heap[w.heap.size]? = some (.cells (Z55.setIfInBounds 322 (.int .i64 m)) 55) := heap_alloc_new w _
  have hz : ∀ j, Z55[j]? = (gflat RK zs ++ [.int .i64 0, .int .i64 0, .int .i64 0])[j]? := fun j => by rw [← h55, Array.getElem?_toList]
  have hs := size55
  generalize Z55 = Z at *
  generalize w.alloc (.cells (Z.setIfInBounds 322 (.int .i64 m)) 55) = W at *
  have hc : ∀ j, W.cell? ⟨w.heap.size, j, none⟩ = (Z.setIfInBounds 322 (.int .i64 m))[j]? := fun j => cell_of_row _ _ _ _ _ _ hg
  have hl : (gflat RK zs).length = 320 := (gflat_len RK zs).trans (show zs.length * 5 = 320 by rw [hlz])
  have hn : ∀ j, j ≠ 322 → (Z.setIfInBounds 322 (.int .i64 m))[j]? = Z[j]? := fun j hj => by
    rw [Array.getElem?_setIfInBounds, if_neg (by omega)]
  refine ⟨fun j hj => gc_five ?_, ?_, ?_, ?_, fun j => by unfold World.frozen?; simp only [hg]; simp, by decide, by omega⟩
  · intro i hi
    have hi' : i < 5 := hi
    rw [hc, hn _ (by omega), hz, List.getElem?_append_left (by rw [hl]; omega)]
    have h := gflat_at RK zs j i (show j < zs.length by omega) hi
    have e : zs.getD j RK.d = zPk := hzz j hj
    rw [show j * 5 + i = j * RK.K + i from rfl, h]
    exact congrArg (fun z : Pk => (RK.cl z)[i]?) e
  · rw [hc, hn _ (by decide), hz, List.getElem?_append_right (by rw [hl]; decide), hl]; rfl
  · rw [hc, hn _ (by decide), hz, List.getElem?_append_right (by rw [hl]; decide), hl]; rfl
  · rw [hc, Array.getElem?_setIfInBounds, if_pos rfl, if_pos (by rw [hs]; decide)]
end Go.Proofs.Ytgcjmnjepnmaeaa
