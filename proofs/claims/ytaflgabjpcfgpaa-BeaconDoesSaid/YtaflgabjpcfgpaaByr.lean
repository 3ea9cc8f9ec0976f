/- Bytes as rows: one byte more, a row of bytes more, by the append's run. No conditions but on lengths. -/
import Derived.Test.YtaflgabjpcfgpaaGsp
import Derived.Test.YtaflgabjpcfgpaaPow
import Derived.Test.YtaflgabjpcfgpaaBby
namespace Go.Proofs.Ytaflgabjpcfgpaa
set_option maxRecDepth 100000
open Go.RowKit

section
variable (R : RowT)
theorem run_gapps3 (w : World) (ty : TypeId) (S : Nat) (v : Value) (xs : List R.α) (hown : w.ownsRow S R.T R.K v xs.length (gflat R xs)) (S' : Nat) (u : Value) (ys : List R.α) (hu : w.ownsRow S' R.T R.K u ys.length (gflat R ys)) (hl : xs.length + ys.length ≤ 3000) (hS : S ≤ w.heap.size) :
    ∃ r w', (Builtin.append_ #[R.SL, R.SL] ty #[v, u]).run Try.prog w = .ok r w' ∧ w'.ownsRow S R.T R.K r (xs ++ ys).length (gflat R (xs ++ ys)) ∧ w.grownBy w' v.ownBlock ∧ ∀ g, r.ownBlock = some g → v.ownBlock = some g ∨ w.heap.size ≤ g := by
  obtain ⟨i0, hi, hz0, hz1, hz2⟩ := info_parts R.hinfo
  have hzs := R.hz
  have hbb := R.hb
  have hpos := R.hK
  have e : gflat R (xs ++ ys) = gflat R xs ++ gflat R ys := gflat_app R xs ys
  have e2 : (xs ++ ys).length = xs.length + ys.length := by simp
  have hfl := gflat_len R xs
  have hfy := gflat_len R ys
  have hby : (xs.length + ys.length) * R.bytes ≤ 140737488355328 := Nat.le_trans (Nat.mul_le_mul hl hbb) (by decide)
  have same : ∀ row, w.grownBy w row := fun _ => ⟨rfl, rfl, rfl, Nat.le_refl _, fun _ _ _ => rfl⟩
  rcases hu.2 with ⟨rfl, h0⟩ | ⟨b, c, cur2, rfl, _, _, hyc, _⟩
  · have hy : ys = [] := List.length_eq_zero_iff.1 h0
    subst hy
    refine ⟨v, w, run_append_owned_none (P := Try.prog) (w := w) S R.SL ty R.T i0 R.K R.hSL hi v xs.length (gflat R xs) hown, ?_, same _, fun _ h => .inl h⟩
    rw [List.append_nil]; exact hown
  · have hnews : ∀ j q, (gflat R ys)[j]? = some q → w.cell? ((⟨b, 0, none⟩ : Addr).add j) = some q := fun j q hj => by
      have h1 := (List.getElem?_eq_some_iff.1 hj).1
      rw [hfy] at h1
      rw [add_spot', Nat.zero_add, gown_cell hu j h1]; exact hj
    have hone := gflat_ones R ys
    rw [e, e2]
    rcases hown.2 with ⟨rfl, h0⟩ | ⟨g, cap, cur, rfl, hg1, hg2, _⟩
    · obtain ⟨v', w', hr, h2, h3, _, _⟩ := run_append_own_at (P := Try.prog) w w.heap.size R.SL ty R.T i0 R.zero R.K R.bytes R.hSL hi hz0 hz1 hz2 hzs hpos (.slice none 0 0) xs.length (gflat R xs) ⟨hown.1, .inl ⟨rfl, h0⟩⟩ ⟨b, 0, none⟩ ys.length c (gflat R ys) hfy hnews hone (by unfold maxLen; omega) hby (Nat.le_refl _)
      exact ⟨v', w', hr, gown_mono h2 hS, h3, fun g hg => .inr (World.ownsRow.lt h2 g hg).1⟩
    · by_cases hroom : xs.length + ys.length ≤ cap
      · obtain ⟨w', hr, h2, h3⟩ := run_append_fits (P := Try.prog) w S R.SL ty R.T i0 R.K R.hSL hi hz1 g xs.length cap (gflat R xs) hown ⟨b, 0, none⟩ ys.length c (gflat R ys) hfy hnews hone hroom
        exact ⟨_, w', hr, h2, h3, fun g' h => .inl h⟩
      · obtain ⟨v', w', hr, h2, h3⟩ := run_append_arg_grows (P := Try.prog) w R.SL ty R.T i0 R.zero R.K R.bytes R.hSL hi hz0 hz1 hz2 hzs hpos ⟨g, 0, none⟩ xs.length cap (gflat R xs) hfl (hown.cells rfl) ⟨b, 0, none⟩ ys.length c (gflat R ys) hfy hnews (by omega) (by unfold maxLen; omega) hby
        exact ⟨v', w', hr, gown_mono h2 hS, ⟨h3.os, h3.tape, h3.output, h3.size, fun k hk _ => h3.block k hk (by simp)⟩, fun g' hg => .inr (World.ownsRow.lt h2 g' hg).1⟩
end
/-- A byte. -/
def bc (y : Int) : List Value := [.int .u8 y]
theorem underBS : Try.prog.underlying 26 = some (.slice 5) := by kernel_rfl
theorem infoBY : (Try.prog.info? 5).map (fun i => (i.zero, i.size, i.bytes)) = some (some (.int .u8 0), 1, 1) := by kernel_rfl
theorem cellsBY : Try.prog.cellsOf 5 = 1 := by kernel_rfl
theorem bc_ones (y : Int) : ∀ u ∈ bc y, u.oneCell' = true := by
  intro u hu
  simp only [bc, List.mem_cons, List.not_mem_nil, or_false] at hu
  rw [hu]; rfl
noncomputable def RB : RowT where
  α := Int
  d := 0
  cl := bc
  K := 1
  T := 5
  SL := 26
  zero := .int .u8 0
  bytes := 1
  hcl := fun _ => rfl
  hK := by decide
  hone := bc_ones
  hSL := underBS
  hinfo := infoBY
  hz := rfl
  hb := by decide
  hc := cellsBY
/-- Bytes in a row of the call's own. -/
def OwB (w : World) (S : Nat) (v : Value) (xs : List Int) : Prop := w.ownsRow S 5 1 v xs.length (xs.map (Value.int .u8))
theorem gflat_bytes (xs : List Int) : gflat RB xs = xs.map (Value.int .u8) := by
  show xs.flatMap bc = _
  induction xs with
  | nil => rfl
  | cons x xs ih => rw [List.flatMap_cons, ih]; rfl
theorem OwB.to {w : World} {S : Nat} {v : Value} {xs : List Int} (h : OwB w S v xs) : w.ownsRow S RB.T RB.K v xs.length (gflat RB xs) := by rw [gflat_bytes]; exact h
theorem OwB.of {w : World} {S : Nat} {v : Value} {xs : List Int} (h : w.ownsRow S RB.T RB.K v xs.length (gflat RB xs)) : OwB w S v xs := by rw [gflat_bytes] at h; exact h
theorem OwB.form {w : World} {S : Nat} {v : Value} {xs : List Int} (h : OwB w S v xs) : ∃ a c, v = .slice a xs.length c := gown_form h
theorem OwB.lt {w : World} {S : Nat} {v : Value} {xs : List Int} (h : OwB w S v xs) (b : Nat) (hb : v.ownBlock = some b) : S ≤ b ∧ b < w.heap.size := World.ownsRow.lt h b hb
theorem OwB.mono {w : World} {S B : Nat} {v : Value} {xs : List Int} (h : OwB w S v xs) (hB : B ≤ S) : OwB w B v xs := gown_mono h hB
theorem OwB.below {w w' : World} {S : Nat} {v : Value} {xs : List Int} (h : OwB w S v xs) (hb : Below w.heap.size w w') : OwB w' S v xs := gown_below h hb
/-- Of the row that an append hands back: it is the elder one's block, or a new one. -/
theorem brun1 (w : World) (S : Nat) (v : Value) (xs : List Int) (hown : OwB w S v xs) (y : Int) (hl : xs.length ≤ 3000) (hS : S ≤ w.heap.size) :
    ∃ g cap w', (Builtin.append_ #[26, 26] 26 #[v, .slice (some ⟨w.heap.size, 0, none⟩) 1 1]).run Try.prog (w.alloc (.cells #[.int .u8 y] 5)) = .ok (.slice (some ⟨g, 0, none⟩) (xs ++ [y]).length cap) w' ∧ OwB w' S (.slice (some ⟨g, 0, none⟩) (xs ++ [y]).length cap) (xs ++ [y]) ∧ (w.alloc (.cells #[.int .u8 y] 5)).grownBy w' v.ownBlock ∧ (v.ownBlock = some g ∨ w.heap.size ≤ g) := by
  obtain ⟨g, cap, w', hr, h1, h2, h3⟩ := run_gapp2 RB (w.alloc (.cells #[.int .u8 y] 5)) 26 S v xs (hown.below ((Below.refl _ _).alloc (Nat.le_refl _) _)).to w.heap.size y (gc_alloc RB w y _ rfl 5) hl (by simp; omega)
  have e : (xs ++ [y]).length = xs.length + 1 := by simp
  refine ⟨g, cap, w', ?_, ?_, h2, ?_⟩
  · rw [e]; exact hr
  · rw [e]; exact OwB.of h1
  · rcases h3 with h | h
    · exact .inl h
    · exact .inr (by simp at h; omega)
theorem brun (w : World) (S : Nat) (v : Value) (xs : List Int) (hown : OwB w S v xs) (S' : Nat) (u : Value) (ys : List Int) (hu : OwB w S' u ys) (hl : xs.length + ys.length ≤ 3000) (hS : S ≤ w.heap.size) :
    ∃ a cap w', (Builtin.append_ #[26, 26] 26 #[v, u]).run Try.prog w = .ok (.slice a (xs ++ ys).length cap) w' ∧ OwB w' S (.slice a (xs ++ ys).length cap) (xs ++ ys) ∧ w.grownBy w' v.ownBlock ∧ ∀ g, (Value.slice a (xs ++ ys).length cap).ownBlock = some g → v.ownBlock = some g ∨ w.heap.size ≤ g := by
  obtain ⟨r, w', hr, h1, h2, h3⟩ := run_gapps3 RB w 26 S v xs hown.to S' u ys hu.to hl hS
  have h4 := OwB.of h1
  obtain ⟨a, c, rfl⟩ := h4.form
  exact ⟨a, c, w', hr, h4, h2, h3⟩
theorem grown_alloc {W w1 : World} {tmp : Obj} {row : Option Nat} (h : (W.alloc tmp).grownBy w1 row) : W.grownBy w1 row :=
  ⟨h.os, h.tape, h.output, Nat.le_trans (by simp) h.size, fun k hk hne => (h.block k (by simp; omega) hne).trans (Below.heap_alloc W tmp k hk)⟩
/-- 'x = append(x, ..)' of bytes, x boxed: what stands behind the store. -/
theorem bstep {W w1 : World} {E n₀ B c : Nat} {v v' : Value} {xs zs : List Int} (hB : n₀ ≤ B) (hBc : B < c) (hn : n₀ ≤ W.heap.size)
    (b1 : Boxed W B 26 v) (o1 : OwB W n₀ v xs) (hk : ∀ k, v.ownBlock = some k → k < c ∨ E ≤ k) (hw : E ≤ W.heap.size)
    (hown : OwB w1 n₀ v' zs) (hg : W.grownBy w1 v.ownBlock) (hgg : ∀ g, v'.ownBlock = some g → v.ownBlock = some g ∨ W.heap.size ≤ g) :
    Boxed w1 B 26 v ∧ Boxed (w1.setCell ⟨B, 0, none⟩ v') B 26 v' ∧ OwB (w1.setCell ⟨B, 0, none⟩ v') n₀ v' zs ∧ (∀ k, v'.ownBlock = some k → k < c ∨ E ≤ k) ∧
    Keep c E W (w1.setCell ⟨B, 0, none⟩ v') ∧ Below n₀ W (w1.setCell ⟨B, 0, none⟩ v') ∧ (∀ k, k < W.heap.size → k ≠ B → v.ownBlock ≠ some k → (w1.setCell ⟨B, 0, none⟩ v').heap[k]? = W.heap[k]?) := by
  have hne : some B ≠ v.ownBlock := b1.not_row (by decide) o1
  have b1' : Boxed w1 B 26 v := b1.kept hg hne
  have hne' : some B ≠ v'.ownBlock := b1'.not_row (by decide) hown
  have hkk : ∀ k, k < W.heap.size → k ≠ B → v.ownBlock ≠ some k → (w1.setCell ⟨B, 0, none⟩ v').heap[k]? = W.heap[k]? := fun k h1 h2 h3 =>
    (Below.heap_setCell w1 ⟨B, 0, none⟩ _ k h2).trans (hg.block k h1 (fun e => h3 e.symm))
  refine ⟨b1', b1'.set _, World.ownsRow.kept (w := w1) hown (grownBy_setCell' w1 B v') (.inr hne'.symm), fun k h => ?_, ⟨by simpa using hg.size, fun k h1 h2 h3 => hkk k h3 (by omega) (fun e => by have := hk k e; omega)⟩, ?_, hkk⟩
  · rcases hgg k h with h | h
    · exact hk k h
    · exact .inr (Nat.le_trans hw h)
  · exact ((Below.refl n₀ W).grown hg hn (fun k e => (o1.lt k e).1)).setCell (p := ⟨B, 0, none⟩) hB _
#print axioms brun
#print axioms bstep
end Go.Proofs.Ytaflgabjpcfgpaa
