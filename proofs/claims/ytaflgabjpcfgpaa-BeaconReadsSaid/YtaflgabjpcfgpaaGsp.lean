/- A whole row of structs behind a row of the call's own, at the level of the append's run; those below and above an id. No conditions but on lengths. -/
import Derived.Test.YtaflgabjpcfgpaaOth
import Derived.Test.YtaflgabjpcfgpaaBmu
namespace Go.Proofs.Ytaflgabjpcfgpaa
set_option maxRecDepth 100000
open Go.RowKit

section
variable (R : RowT)
theorem run_gapps2 (w : World) (ty : TypeId) (S : Nat) (v : Value) (xs : List R.α) (hown : w.ownsRow S R.T R.K v xs.length (gflat R xs)) (S' : Nat) (u : Value) (ys : List R.α) (hu : w.ownsRow S' R.T R.K u ys.length (gflat R ys)) (hl : xs.length + ys.length ≤ 3000) (hS : S ≤ w.heap.size) :
    ∃ r w', (Builtin.append_ #[R.SL, R.SL] ty #[v, u]).run Try.prog w = .ok r w' ∧ w'.ownsRow S R.T R.K r (xs ++ ys).length (gflat R (xs ++ ys)) ∧ w.grownBy w' v.ownBlock ∧ w'.ownsRow S R.T R.K v xs.length (gflat R xs) ∧
      ∀ a c, w.ownsRow S R.T R.K (.slice a (xs ++ ys).length c) (xs ++ ys).length (gflat R (xs ++ ys)) → w'.ownsRow S R.T R.K (.slice a (xs ++ ys).length c) (xs ++ ys).length (gflat R (xs ++ ys)) := by
  obtain ⟨i0, hi, hz0, hz1, hz2⟩ := info_parts R.hinfo
  have hzs := R.hz
  have hbb := R.hb
  have hpos := R.hK
  have e : gflat R (xs ++ ys) = gflat R xs ++ gflat R ys := gflat_app R xs ys
  have e2 : (xs ++ ys).length = xs.length + ys.length := by simp
  have hfl := gflat_len R xs
  have hfy := gflat_len R ys
  have hby : (xs.length + ys.length) * R.bytes ≤ 140737488355328 := Nat.le_trans (Nat.mul_le_mul hl hbb) (by decide)
  have same : ∀ row, w.grownBy w row := fun _ => ⟨rfl, rfl, rfl, Nat.le_refl _, fun _ _ _ => rfl⟩
  rcases hu.2 with ⟨rfl, h0⟩ | ⟨b, c, cur2, rfl, _, _, hyc, _⟩
  · have hy : ys = [] := List.length_eq_zero_iff.1 h0
    subst hy
    refine ⟨v, w, run_append_owned_none (P := Try.prog) (w := w) S R.SL ty R.T i0 R.K R.hSL hi v xs.length (gflat R xs) hown, ?_, same _, hown, fun _ _ h => h⟩
    rw [List.append_nil]; exact hown
  · have hnews : ∀ j q, (gflat R ys)[j]? = some q → w.cell? ((⟨b, 0, none⟩ : Addr).add j) = some q := fun j q hj => by
      have h1 := (List.getElem?_eq_some_iff.1 hj).1
      rw [hfy] at h1
      rw [add_spot', Nat.zero_add, gown_cell hu j h1]; exact hj
    have hone := gflat_ones R ys
    rw [e, e2]
    rcases hown.2 with ⟨rfl, h0⟩ | ⟨g, cap, cur, rfl, hg1, hg2, hrest⟩
    · obtain ⟨v', w', hr, h2, h3, _, _⟩ := run_append_own_at (P := Try.prog) w S R.SL ty R.T i0 R.zero R.K R.bytes R.hSL hi hz0 hz1 hz2 hzs hpos (.slice none 0 0) xs.length (gflat R xs) hown ⟨b, 0, none⟩ ys.length c (gflat R ys) hfy hnews hone (by unfold maxLen; omega) hby hS
      exact ⟨v', w', hr, h2, h3, ⟨hown.1, .inl ⟨rfl, h0⟩⟩, fun a c h => h.kept h3 (by cases hq : (Value.slice a (xs.length + ys.length) c).ownBlock with | none => exact .inl rfl | some b => exact .inr (fun e => by cases e))⟩
    · have hcsz : cur.size = cap * R.K := by
        obtain ⟨_, _, h, _⟩ := hrest
        exact h
      by_cases hroom : xs.length + ys.length ≤ cap
      · obtain ⟨w', hr, h2, h3⟩ := run_append_fits (P := Try.prog) w S R.SL ty R.T i0 R.K R.hSL hi hz1 g xs.length cap (gflat R xs) hown ⟨b, 0, none⟩ ys.length c (gflat R ys) hfy hnews hone hroom
        refine ⟨_, w', hr, h2, h3, gown_prefix h2 hfl, fun a c h => ?_⟩
        rcases h.2 with ⟨h5, h6⟩ | ⟨g', cap', cur', h5, h6, h7, h8, h9, h10, h11⟩
        · exact ⟨h.1, .inl ⟨h5, h6⟩⟩
        · simp only [Value.slice.injEq] at h5
          obtain ⟨rfl, _, rfl⟩ := h5
          by_cases hgg : g' = g
          · subst hgg
            rw [hg2] at h7
            simp only [Option.some.injEq, Obj.cells.injEq] at h7
            obtain ⟨rfl, _⟩ := h7
            have h12 : c = cap := Nat.eq_of_mul_eq_mul_right hpos (h10.symm.trans hcsz)
            subst h12
            exact h2
          · exact h.kept h3 (.inr (by simpa [Value.ownBlock] using hgg))
      · obtain ⟨v', w', hr, h2, h3⟩ := run_append_arg_grows (P := Try.prog) w R.SL ty R.T i0 R.zero R.K R.bytes R.hSL hi hz0 hz1 hz2 hzs hpos ⟨g, 0, none⟩ xs.length cap (gflat R xs) hfl (hown.cells rfl) ⟨b, 0, none⟩ ys.length c (gflat R ys) hfy hnews (by omega) (by unfold maxLen; omega) hby
        exact ⟨v', w', hr, gown_mono h2 hS, ⟨h3.os, h3.tape, h3.output, h3.size, fun k hk _ => h3.block k hk (by simp)⟩, hown.kept h3 (.inr (by simp [Value.ownBlock])), fun a c h => h.kept h3 (by cases hq : (Value.slice a (xs.length + ys.length) c).ownBlock with | none => exact .inl rfl | some b => exact .inr (fun e => by cases e))⟩
theorem run_gapps (w : World) (ty : TypeId) (S : Nat) (v : Value) (xs : List R.α) (hown : w.ownsRow S R.T R.K v xs.length (gflat R xs)) (S' : Nat) (u : Value) (ys : List R.α) (hu : w.ownsRow S' R.T R.K u ys.length (gflat R ys)) (hl : xs.length + ys.length ≤ 3000) (hS : S ≤ w.heap.size) :
    ∃ r w', (Builtin.append_ #[R.SL, R.SL] ty #[v, u]).run Try.prog w = .ok r w' ∧ w'.ownsRow S R.T R.K r (xs ++ ys).length (gflat R (xs ++ ys)) ∧ w.grownBy w' v.ownBlock ∧ w'.ownsRow S R.T R.K v xs.length (gflat R xs) := by
  obtain ⟨r, w', h1, h2, h3, h4, _⟩ := run_gapps2 R w ty S v xs hown S' u ys hu hl hS
  exact ⟨r, w', h1, h2, h3, h4⟩
end
#print axioms run_gapps

/-- Of sorted echoes, those below and those above an id are those of others. -/
theorem lohi_sorted (id : Int) : ∀ (l : List (Int × Int)), l.Pairwise (fun a b => a.1 < b.1) → loE l id ++ hiE l id = wout l id
  | [], _ => rfl
  | y :: l, h => by
    obtain ⟨h1, h2⟩ := List.pairwise_cons.1 h
    have ih := lohi_sorted id l h2
    unfold loE hiE wout at *
    by_cases hlt : y.1 < id
    · rw [List.filter_cons_of_pos (by simpa using hlt), List.filter_cons_of_neg (by simp; omega), List.filter_cons_of_pos (by simp; omega), List.cons_append, ih]
    · have hlo : l.filter (fun y => decide (y.1 < id)) = [] := List.filter_eq_nil_iff.2 fun z hz => by have := h1 z hz; simp; omega
      rw [hlo, List.nil_append] at ih
      rw [List.filter_cons_of_neg (by simpa using hlt), hlo, List.nil_append]
      by_cases he : y.1 = id
      · rw [List.filter_cons_of_neg (by simp; omega), List.filter_cons_of_neg (by simpa using he), ih]
      · rw [List.filter_cons_of_pos (by simp; omega), List.filter_cons_of_pos (by simpa using he), ih]
theorem lohi_wout {M : Int} {ys : List (Int × Int)} (h : BeOk M ys) (id : Int) : loE ys id ++ hiE ys id = wout ys id := lohi_sorted id ys (beok_iff.1 h).1
theorem loE_len (ys : List (Int × Int)) (id : Int) : (loE ys id).length ≤ ys.length := List.length_filter_le _ _
theorem hiE_len (ys : List (Int × Int)) (id : Int) : (hiE ys id).length ≤ ys.length := List.length_filter_le _ _
/-- A row of the call's own, of so many elements. -/
def NewOE (S : Nat) (zs : List (Int × Int)) : Ty := fun u w => (∃ a c, u = .slice a zs.length c) ∧ OwE w S u zs
theorem NewOE.keeps {S : Nat} {zs : List (Int × Int)} {row : Option Nat} (s : Nat) : T3.Keeps (GX row s) s (NewOE S zs) := by
  rintro j hj u w w' ⟨h1, h2⟩ hx
  unfold GX at hx
  rw [if_neg hj] at hx
  exact ⟨h1, gown_below h2 hx⟩

/-! ### Three that make memory: an append of a row, a beacon of it, a variable for it -/
/-- What each operation leaves: the append (number s) may turn its row, but no row that reads as zs. -/
def GZ (S : Nat) (zs : List (Int × Int)) (row : Option Nat) (s k : Nat) (w w' : World) : Prop := if k = s then w.grownBy w' row ∧ ∀ a c, OwE w S (.slice a zs.length c) zs → OwE w' S (.slice a zs.length c) zs else Below w.heap.size w w'
theorem GZ_refl (S : Nat) (zs : List (Int × Int)) (row : Option Nat) (s k : Nat) (w : World) : GZ S zs row s k w w := by
  unfold GZ
  by_cases h : k = s
  · rw [if_pos h]; exact ⟨⟨rfl, rfl, rfl, Nat.le_refl _, fun _ _ _ => rfl⟩, fun _ _ h => h⟩
  · rw [if_neg h]; exact Below.refl _ _
theorem GZ_of {S : Nat} {zs : List (Int × Int)} {row : Option Nat} {s k : Nat} {w w' : World} (h : k ≠ s) (hb : Below w.heap.size w w') : GZ S zs row s k w w' := by unfold GZ; rw [if_neg h]; exact hb
theorem GZ_at {S : Nat} {zs : List (Int × Int)} {row : Option Nat} {s k : Nat} {w w' : World} (h : k = s) (hb : w.grownBy w' row) (hk : ∀ a c, OwE w S (.slice a zs.length c) zs → OwE w' S (.slice a zs.length c) zs) : GZ S zs row s k w w' := by unfold GZ; rw [if_pos h]; exact ⟨hb, hk⟩
theorem NewOE.keepz {S : Nat} {zs : List (Int × Int)} {row : Option Nat} (s k : Nat) : T3.Keeps (GZ S zs row s) k (NewOE S zs) := by
  rintro j _ u w w' ⟨⟨a, c, rfl⟩, h2⟩ hx
  unfold GZ at hx
  by_cases hj : j = s
  · rw [if_pos hj] at hx
    exact ⟨⟨a, c, rfl⟩, hx.2 a c h2⟩
  · rw [if_neg hj] at hx
    exact ⟨⟨a, c, rfl⟩, gown_below h2 hx⟩
/-- A beacon of echoes of the call's own. -/
def NewBa (S : Nat) (M : Int) (zs : List (Int × Int)) : Ty := fun u w => ∃ a c, u = .agg #[.int .i64 M, .slice a zs.length c] ∧ OwE w S (.slice a zs.length c) zs
theorem NewBa.keepz {S : Nat} {M : Int} {zs : List (Int × Int)} {row : Option Nat} (s k : Nat) : T3.Keeps (GZ S zs row s) k (NewBa S M zs) := by
  rintro j _ u w w' ⟨a, c, rfl, h2⟩ hx
  unfold GZ at hx
  by_cases hj : j = s
  · rw [if_pos hj] at hx
    exact ⟨a, c, rfl, hx.2 a c h2⟩
  · rw [if_neg hj] at hx
    exact ⟨a, c, rfl, gown_below h2 hx⟩
/-- A new variable of a beacon. -/
def NewBx (wo : World) : Ty := fun u w => ∃ b, u = .pointer (some ⟨b, 0, none⟩) ∧ wo.heap.size ≤ b ∧ w.heap[b]? = some (.cells #[.int .i64 0, .slice none 0 0] 24)
theorem NewBx.keepz {S : Nat} {zs : List (Int × Int)} {wo : World} {row : Option Nat} (hrow : ∀ b, row = some b → b < wo.heap.size) (s k : Nat) : T3.Keeps (GZ S zs row s) k (NewBx wo) := by
  rintro j _ u w w' ⟨b, rfl, hb, h2⟩ hx
  have hlt := (Array.getElem?_eq_some_iff.1 h2).1
  unfold GZ at hx
  by_cases hj : j = s
  · rw [if_pos hj] at hx
    exact ⟨b, rfl, hb, (hx.1.block b hlt (fun e => by have := hrow b e.symm; omega)).trans h2⟩
  · rw [if_neg hj] at hx
    exact ⟨b, rfl, hb, (hx.block b hlt).trans h2⟩
theorem ownb2_of_heap {w : World} {b : Nat} {M : Int} {v : Value} {T : TypeId} (h : w.heap[b]? = some (.cells #[.int .i64 M, v] T)) : OwnB2 w b M v :=
  ⟨⟨by simp [World.cell?, h], by simp [World.cell?, h]⟩, fun j => by simp [World.frozen?, h]⟩
/-- A variable's block is not a row's. -/
theorem var_not_row {w : World} {b S : Nat} {v : Value} {xs : List (Int × Int)} {cs : Array Value} (h : w.heap[b]? = some (.cells cs 24)) (hr : OwE w S v xs) : v.ownBlock ≠ some b := by
  rcases hr.2 with ⟨rfl, _⟩ | ⟨g, cap, cur, rfl, _, hg, _⟩
  · simp [Value.ownBlock]
  · intro e
    simp only [Value.ownBlock, Option.some.injEq] at e
    subst e
    rw [h] at hg
    simp at hg
#print axioms lohi_wout
end Go.Proofs.Ytaflgabjpcfgpaa
