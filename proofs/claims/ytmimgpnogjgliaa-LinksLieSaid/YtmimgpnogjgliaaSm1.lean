/- A row of neighbours that is being sorted, told by tags: what loads, stores, an exchange of two make of it. No walks. -/
import Derived.Test.YtmimgpnogjgliaaSk1
import Derived.Test.YtmimgpnogjgliaaVrw
import Derived.Shelf.SlicesQ.Load
import Derived.Laws.IdiomCopy
namespace Go.Proofs.Ytmimgpnogjgliaa
set_option maxRecDepth 100000
open Go.RowKit

/-- How many cells a neighbour has; a number that no walk opens. -/
def K64 : Nat := 7
theorem pre64 (w : World) : Sem.run Try.prog (Go.sizeOf 64) w = .ok K64 w := Try.sizeOf64 w
/-- What the tag t stands for. -/
def enD (D : Int → Vw) (t : Int) : List Value := vwc (D t)
theorem enD_len (D : Int → Vw) (t : Int) : (enD D t).length = K64 := rfl
theorem enD_one (D : Int → Vw) (t : Int) : ∀ v ∈ enD D t, v.oneCell' = true := vwc_ones (D t)
theorem setCells_size (b : Nat) : ∀ (vs : List Value) (o : Nat) (w : World), (w.setCells b o vs).heap.size = w.heap.size
  | [], _, _ => rfl
  | v :: r, o, w => by rw [World.setCells, setCells_size b r]; simp
theorem bel_setCells {B : Nat} {w0 : World} (b : Nat) (hB : B ≤ b) : ∀ (vs : List Value) (o : Nat) (w : World), Below B w0 w → Below B w0 (w.setCells b o vs)
  | [], _, _, h => h
  | v :: r, o, w, h => by rw [World.setCells]; exact bel_setCells b hB r _ _ (h.setCell (p := ⟨b, o, none⟩) hB _)
/-- A world of the sort's: what lay below B is as it was; the row in block b from off on. -/
structure SY (D : Int → Vw) (B : Nat) (w0 : World) (b off : Nat) (w : World) (ds : List Int) : Prop where
  bel : Below B w0 w
  row : ∀ i, i < ds.length → ∀ j, j < K64 → w.cell? ⟨b, off + i * 7 + j, none⟩ = (enD D (ds.getD i 0))[j]?
  fr : ∀ k, w.frozen? ⟨b, k, none⟩ = false
  hB : B ≤ b
  lt : b < w.heap.size
section
variable {D : Int → Vw} {B : Nat} {w0 w w' : World} {b off : Nat} {ds : List Int}
theorem SY.low (h : SY D B w0 b off w ds) (hb : Below w.heap.size w w') : SY D B w0 b off w' ds :=
  ⟨h.bel.trans (hb.mono (Nat.le_of_lt (Nat.lt_of_le_of_lt h.hB h.lt))), fun i hi j hj => (hb.cell (p := ⟨b, off + i * 7 + j, none⟩) h.lt).trans (h.row i hi j hj), fun k => (hb.frozen (p := ⟨b, k, none⟩) h.lt).trans (h.fr k), h.hB, Nat.lt_of_lt_of_le h.lt hb.size⟩
theorem SY.drew (h : SY D B w0 b off w ds) : SY D B w0 b off w.drew ds := h.low (Below.refl _ w).drew
theorem SY.load (h : SY D B w0 b off w ds) {i : Nat} (hi : i < ds.length) : Sem.run Try.prog (loadCellsFrom ⟨b, off + i * 7, none⟩ 0 K64 #[]) w = .ok (enD D (ds.getD i 0)).toArray w :=
  run_loadCellsFrom_list Try.prog w _ _ K64 (enD_len D _) fun j v hv => by
    have hadd : (⟨b, off + i * 7, none⟩ : Addr).add j = ⟨b, off + i * 7 + j, none⟩ := by unfold Addr.add; split <;> simp_all
    have hj : j < K64 := by
      have := (List.getElem?_eq_some_iff.1 hv).1
      rwa [enD_len] at this
    rw [hadd, h.row i hi j hj]
    exact hv
theorem SY.some (h : SY D B w0 b off w ds) {i : Nat} (hi : i < ds.length) {j : Nat} (hj : j < K64) : (w.cell? ⟨b, off + i * 7 + j, none⟩).isSome = true := by
  rw [h.row i hi j hj, List.getElem?_eq_getElem (by rw [enD_len]; exact hj)]
  rfl
theorem SY.st1 (h : SY D B w0 b off w ds) {i : Nat} (hi : i < ds.length) (y : Int) : Sem.run Try.prog (storeCells ⟨b, off + i * 7, none⟩ (enD D y) 0) w = .ok () (w.setCells b (off + i * 7) (enD D y)) := by
  have := run_storeCells_cells (P := Try.prog) b (off + i * 7) (enD D y) 0 w (fun j hj => by rw [Nat.add_zero]; exact h.some hi (by rwa [enD_len] at hj)) (fun j _ => h.fr _) (enD_one D y)
  rwa [Nat.add_zero] at this
theorem cells_kept {w : World} {b o : Nat} {vs : List Value} (h : ∀ j, j < vs.length → (w.cell? ⟨b, o + j, none⟩).isSome = true) {p : Addr} (hp : (w.cell? p).isSome = true) : ((w.setCells b o vs).cell? p).isSome = true := by
  by_cases e : p.block = b ∧ p.spot = none ∧ o ≤ p.off ∧ p.off < o + vs.length
  · obtain ⟨e1, e2, e3, e4⟩ := e
    have e5 : p = ⟨b, o + (p.off - o), none⟩ := by
      cases p; simp only at *; subst e1 e2; congr 1; omega
    rw [e5, World.cell?_setCells_in b vs o w h (p.off - o) (by omega)]
    rfl
  · rw [World.cell?_setCells_out b vs o w p (fun h1 h2 => by
      have h3 : ¬ (o ≤ p.off ∧ p.off < o + vs.length) := fun h3 => e ⟨h1, h2, h3.1, h3.2⟩
      omega)]
    exact hp
theorem SY.st2 (h : SY D B w0 b off w ds) {i j : Nat} (hi : i < ds.length) (hj : j < ds.length) (y x : Int) : Sem.run Try.prog (storeCells ⟨b, off + j * 7, none⟩ (enD D x) 0) (w.setCells b (off + i * 7) (enD D y)) = .ok () ((w.setCells b (off + i * 7) (enD D y)).setCells b (off + j * 7) (enD D x)) := by
  have := run_storeCells_cells (P := Try.prog) b (off + j * 7) (enD D x) 0 (w.setCells b (off + i * 7) (enD D y)) (fun k hk => by
    rw [Nat.add_zero]
    exact cells_kept (fun c hc => h.some hi (by rwa [enD_len] at hc)) (h.some hj (by rwa [enD_len] at hk))) (fun k _ => by rw [World.frozen?_setCells]; exact h.fr _) (enD_one D x)
  rwa [Nat.add_zero] at this
theorem SY.put (h : SY D B w0 b off w ds) {i : Nat} (hi : i < ds.length) (y : Int) : SY D B w0 b off (w.setCells b (off + i * 7) (enD D y)) (ds.set i y) := by
  refine ⟨bel_setCells b h.hB _ _ _ h.bel, ?_, fun k => by rw [World.frozen?_setCells]; exact h.fr k, h.hB, by rw [setCells_size]; exact h.lt⟩
  intro k hk j hj
  rw [List.length_set] at hk
  by_cases e : k = i
  · subst e
    rw [World.cell?_setCells_in b (enD D y) _ w (fun c hc => h.some hi (by rwa [enD_len] at hc)) j (by rw [enD_len]; exact hj)]
    have e2 : (ds.set k y).getD k 0 = y := by simp [List.getD, hk]
    rw [e2, List.getElem?_eq_getElem]
  · have e2 : (ds.set i y).getD k 0 = ds.getD k 0 := by simp [List.getD, Ne.symm e]
    rw [e2, ← h.row k hk j hj]
    refine World.cell?_setCells_out b _ _ w _ (fun _ _ => ?_)
    rw [enD_len]
    show off + k * 7 + j < off + i * 7 ∨ off + i * 7 + K64 ≤ off + k * 7 + j
    unfold K64 at *
    omega
theorem SY.swap (h : SY D B w0 b off w ds) {i j : Nat} (hi : i < ds.length) (hj : j < ds.length) :
    SY D B w0 b off ((w.setCells b (off + i * 7) (enD D (ds.getD j 0))).setCells b (off + j * 7) (enD D (ds.getD i 0))) (swl ds i j) :=
  (h.put hi (ds.getD j 0)).put (by rw [List.length_set]; exact hj) (ds.getD i 0)
end
end Go.Proofs.Ytmimgpnogjgliaa
