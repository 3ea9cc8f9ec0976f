/- Rows of structs, of whatever type: in memory, as arguments, in memory of their own; an element behind them. No conditions but on lengths. -/
import Derived.Test.YtmimgpnogjgliaaPut
import Derived.Test.YtmimgpnogjgliaaTyp4
import Derived.Deep.Slices
import Derived.Deep.RegionLaw
import Derived.Maps.AppendAt
import Derived.Laws.OwnMore
import Derived.ArgAppend
import Derived.WalkKit
import Derived.LoopTactic
import Derived.Laws.AppendOwnNone
import Derived.Lib.Hide
namespace Go.Proofs.Ytmimgpnogjgliaa
set_option maxRecDepth 100000
open Go.RowKit Go.WideShapes Go.ChangeShapes

/-- A type whose rows are looked at: what an element is, and its cells. -/
structure RowT where
  α : Type
  d : α
  cl : α → List Value
  K : Nat
  T : TypeId
  SL : TypeId
  zero : Value
  bytes : Nat
  hcl : ∀ y, (cl y).length = K
  hK : 0 < K
  hone : ∀ y, ∀ u ∈ cl y, u.oneCell' = true
  hSL : Try.prog.underlying SL = some (.slice T)
  hinfo : (Try.prog.info? T).map (fun i => (i.zero, i.size, i.bytes)) = some (some zero, K, bytes)
  hz : zero.cells.size = K
  hb : bytes ≤ 4096
  hc : Try.prog.cellsOf T = K
variable (R : RowT)

theorem add_spot' (b off k : Nat) : (⟨b, off, none⟩ : Addr).add k = ⟨b, off + k, none⟩ := by unfold Addr.add; split <;> simp_all
def gflat (ys : List R.α) : List Value := ys.flatMap R.cl
theorem gflat_len (ys : List R.α) : (gflat R ys).length = ys.length * R.K := by
  induction ys with
  | nil => simp [gflat]
  | cons y ys ih => simp only [gflat, List.flatMap_cons, List.length_append, List.length_cons, R.hcl] at *; rw [ih, Nat.succ_mul]; omega
theorem gflat_app (xs ys : List R.α) : gflat R (xs ++ ys) = gflat R xs ++ gflat R ys := by simp [gflat]
theorem gflat_one (y : R.α) : gflat R [y] = R.cl y := by simp [gflat]
theorem gflat_at : ∀ (ys : List R.α) (i j : Nat), i < ys.length → j < R.K → (gflat R ys)[i * R.K + j]? = (R.cl (ys.getD i R.d))[j]?
  | [], i, j, h, _ => by simp at h
  | y :: ys, 0, j, _, hj => by
    simp only [gflat, List.flatMap_cons, Nat.zero_mul, Nat.zero_add, List.getD_cons_zero]
    rw [List.getElem?_append_left (by rw [R.hcl]; exact hj)]
  | y :: ys, i + 1, j, h, hj => by
    have ih := gflat_at ys i j (by simpa using h) hj
    simp only [gflat, List.flatMap_cons, List.getD_cons_succ] at *
    rw [List.getElem?_append_right (by rw [R.hcl, Nat.succ_mul]; omega), R.hcl, show (i + 1) * R.K + j - R.K = i * R.K + j by rw [Nat.succ_mul]; omega]
    exact ih
theorem gflat_ones (ys : List R.α) : ∀ u ∈ gflat R ys, u.oneCell' = true := by
  intro u hu
  obtain ⟨y, _, hy⟩ := List.mem_flatMap.1 hu
  exact R.hone y u hy
/-- The cells of an element, wherever they lie. -/
def GC (w : World) (b o : Nat) (y : R.α) : Prop := ∀ j, j < R.K → w.cell? ⟨b, o + j, none⟩ = (R.cl y)[j]?
theorem GC.low {R : RowT} {w w' : World} {b o B : Nat} {y : R.α} (h : GC R w b o y) (hb : b < B) (hB : Below B w w') : GC R w' b o y := fun j hj => by
  rw [hB.cell (p := ⟨b, o + j, none⟩) hb]; exact h j hj
theorem gc_alloc (w : World) (y : R.α) (g : Nat) (hg : g = w.heap.size) (T : TypeId) : GC R (w.alloc (.cells (R.cl y).toArray T)) g 0 y := fun j hj => by
  subst hg
  rw [Nat.zero_add, cell_of_row _ _ _ _ _ _ (heap_alloc_new w _)]
  simp
/-- A slice that reads as ys. -/
def Gs (w : World) (v : Value) (ys : List R.α) : Prop :=
  (∃ a cap, v = .slice a 0 cap ∧ (a = none → cap = 0) ∧ ys = []) ∨
  ∃ b off cap, v = .slice (some ⟨b, off, none⟩) ys.length cap ∧ ys.length ≤ cap ∧ b < w.heap.size ∧ ∀ i, i < ys.length → GC R w b (off + i * R.K) (ys.getD i R.d)
variable {R}
theorem Gs.below {w w' : World} {v : Value} {ys : List R.α} (h : Gs R w v ys) (hb : Below w.heap.size w w') : Gs R w' v ys := by
  rcases h with h | ⟨b, off, cap, h1, h2, h3, h4⟩
  · exact .inl h
  · exact .inr ⟨b, off, cap, h1, h2, Nat.lt_of_lt_of_le h3 hb.size, fun i hi => (h4 i hi).low h3 hb⟩
theorem Gs.alloc {w : World} {v : Value} {ys : List R.α} (h : Gs R w v ys) (O : Obj) : Gs R (w.alloc O) v ys := h.below ((Below.refl _ _).alloc (Nat.le_refl _) O)
theorem Gs.form {w : World} {v : Value} {ys : List R.α} (h : Gs R w v ys) : ∃ a c, v = .slice a ys.length c := by
  rcases h with ⟨a, cap, h1, _, rfl⟩ | ⟨b, off, cap, h1, _⟩
  · exact ⟨a, cap, h1⟩
  · exact ⟨_, _, h1⟩
theorem Gs_nil (w : World) : Gs R w (.slice none 0 0) [] := .inl ⟨none, 0, rfl, fun _ => rfl, rfl⟩
theorem Gs.at {w : World} {a : Option Addr} {c : Nat} {ys : List R.α} (h : Gs R w (.slice a ys.length c) ys) {i : Nat} (hi : i < ys.length) : ∃ b off, a = some ⟨b, off, none⟩ ∧ b < w.heap.size ∧ GC R w b (off + i * R.K) (ys.getD i R.d) := by
  rcases h with ⟨a', cap, hv, _, rfl⟩ | ⟨b, off, cap, hv, _, hB, hc⟩
  · simp at hi
  · simp only [Value.slice.injEq] at hv
    exact ⟨b, off, hv.1, hB, hc i hi⟩
theorem Gs.all {w : World} {b off c : Nat} {ys : List R.α} (h : Gs R w (.slice (some ⟨b, off, none⟩) ys.length c) ys) {i : Nat} (hi : i < ys.length) : b < w.heap.size ∧ GC R w b (off + i * R.K) (ys.getD i R.d) := by
  obtain ⟨b', off', h1, h2⟩ := h.at hi
  simp only [Option.some.injEq, Addr.mk.injEq, and_true] at h1
  obtain ⟨rfl, rfl⟩ := h1
  exact h2
theorem gown_cell {w : World} {base n g cap : Nat} {xs : List Value} {e : TypeId} {size : Nat} (h : w.ownsRow base e size (.slice (some ⟨g, 0, none⟩) n cap) n xs) (j : Nat) (hj : j < n * size) : w.cell? ⟨g, j, none⟩ = xs[j]? := h.cellAt j hj
theorem Gs_of_own {w : World} {base n : Nat} {v : Value} {ys : List R.α} (h : w.ownsRow base R.T R.K v n (gflat R ys)) : Gs R w v ys ∧ n = ys.length := by
  have hn : n = ys.length := by
    have h1 := h.1
    rw [gflat_len] at h1
    exact (Nat.eq_of_mul_eq_mul_right R.hK h1).symm
  subst hn
  refine ⟨?_, rfl⟩
  rcases h.2 with ⟨h1, h2⟩ | ⟨g, cap, cur, rfl, _, hg, hnc, _, _, htake⟩
  · exact .inl ⟨none, 0, h1, fun _ => rfl, List.length_eq_zero_iff.1 h2⟩
  · refine .inr ⟨g, 0, cap, rfl, hnc, (Array.getElem?_eq_some_iff.1 hg).1, fun i hi j hj => ?_⟩
    have hlt : i * R.K + j < ys.length * R.K := by
      have : (i + 1) * R.K ≤ ys.length * R.K := Nat.mul_le_mul_right _ hi
      rw [Nat.succ_mul] at this
      omega
    rw [Nat.zero_add, gown_cell h (i * R.K + j) hlt, gflat_at R ys i j hi hj]
theorem grow_ext {ys zs : List R.α} (hl : ys.length = zs.length) (h : ∀ i, i < ys.length → ys.getD i R.d = zs.getD i R.d) : ys = zs := by
  refine List.ext_getElem hl fun i h1 h2 => ?_
  have := h i h1
  simpa [List.getD, h1, h2] using this
theorem gown_nil (w : World) (base : Nat) : w.ownsRow base R.T R.K (.slice none 0 0) 0 (gflat R []) := ⟨by simp [gflat], .inl ⟨rfl, rfl⟩⟩
theorem gown_below {w w' : World} {base size n : Nat} {e : TypeId} {v : Value} {xs : List Value} (h : w.ownsRow base e size v n xs) (hb : Below w.heap.size w w') : w'.ownsRow base e size v n xs := by
  refine ⟨h.1, ?_⟩
  rcases h.2 with h2 | ⟨g, cap, cur, rfl, h3, hg, rest⟩
  · exact .inl h2
  · exact .inr ⟨g, cap, cur, rfl, h3, (hb.block g (Array.getElem?_eq_some_iff.1 hg).1).trans hg, rest⟩
theorem gown_mono {w : World} {base B size n : Nat} {e : TypeId} {v : Value} {xs : List Value} (h : w.ownsRow base e size v n xs) (hB : B ≤ base) : w.ownsRow B e size v n xs := by
  rcases h.2 with h2 | ⟨g, cap, cur, h2, h3, h4⟩
  · exact ⟨h.1, .inl h2⟩
  · exact ⟨h.1, .inr ⟨g, cap, cur, h2, Nat.le_trans hB h3, h4⟩⟩
theorem gown_form {w : World} {base size n : Nat} {e : TypeId} {v : Value} {xs : List Value} (h : w.ownsRow base e size v n xs) : ∃ a c, v = .slice a n c := by
  rcases h.2 with ⟨rfl, rfl⟩ | ⟨g, cap, cur, rfl, _⟩
  · exact ⟨none, 0, rfl⟩
  · exact ⟨_, _, rfl⟩
theorem gown_prefix {w : World} {S size n m g cap : Nat} {e : TypeId} {xs ys : List Value} (h : w.ownsRow S e size (.slice (some ⟨g, 0, none⟩) (n + m) cap) (n + m) (xs ++ ys)) (hx : xs.length = n * size) : w.ownsRow S e size (.slice (some ⟨g, 0, none⟩) n cap) n xs := by
  refine ⟨hx, ?_⟩
  rcases h.2 with ⟨h1, _⟩ | ⟨g', cap', cur, hv, hb, hg, hnc, hcm, hcs, htake⟩
  · cases h1
  · simp only [Value.slice.injEq, Option.some.injEq, Addr.mk.injEq, and_true, true_and] at hv
    obtain ⟨rfl, rfl⟩ := hv
    refine .inr ⟨g, cap, cur, rfl, hb, hg, by omega, hcm, hcs, ?_⟩
    have h3 : (cur.toList.take ((n + m) * size)).take (n * size) = (xs ++ ys).take (n * size) := by rw [htake]
    rw [List.take_take, Nat.min_eq_left (Nat.mul_le_mul_right _ (Nat.le_add_right _ _)), ← hx, List.take_left] at h3
    rw [← hx]; exact h3
theorem gexec_append {ρ : Operand → Value} {o : Oper} {s x : Operand} {T : TypeId} {v u r : Value} {w w' : World} (ho : o.op = .call { callee := .builtin .append, args := #[s, x], argTypes := #[T, T] }) (hs : ρ s = v) (hx : ρ x = u)
    (hr : (Builtin.append_ #[T, T] o.type #[v, u]).run Try.prog w = .ok r w') : (execOp ρ o).run Try.prog w = .ok (.value r) w' := by
  unfold execOp
  simp only [ho, resolve, invoke, builtin, Sem.run_bind, Sem.run_pure, Result.andThen_ok, List.map_toArray, List.map_cons, List.map_nil, hs, hx, hr]
/-- One element more: the append as one operation's run. The elder row is there as it was. -/
theorem run_gapp (w : World) (ty : TypeId) (S : Nat) (v : Value) (xs : List R.α) (hown : w.ownsRow S R.T R.K v xs.length (gflat R xs)) (b : Nat) (y : R.α) (hy : GC R w b 0 y) (hl : xs.length ≤ 3000) (hS : S ≤ w.heap.size) :
    ∃ g cap w', (Builtin.append_ #[R.SL, R.SL] ty #[v, .slice (some ⟨b, 0, none⟩) 1 1]).run Try.prog w = .ok (.slice (some ⟨g, 0, none⟩) (xs.length + 1) cap) w' ∧ w'.ownsRow S R.T R.K (.slice (some ⟨g, 0, none⟩) (xs.length + 1) cap) (xs ++ [y]).length (gflat R (xs ++ [y])) ∧ w.grownBy w' v.ownBlock ∧ w'.ownsRow S R.T R.K v xs.length (gflat R xs) := by
  obtain ⟨i0, hi, hz0, hz1, hz2⟩ := info_parts R.hinfo
  have hzs := R.hz
  have hbb := R.hb
  have hpos := R.hK
  have e : gflat R (xs ++ [y]) = gflat R xs ++ R.cl y := by rw [gflat_app, gflat_one]
  have e2 : (xs ++ [y]).length = xs.length + 1 := by simp
  have hnews : ∀ j u, (R.cl y)[j]? = some u → w.cell? ((⟨b, 0, none⟩ : Addr).add j) = some u := fun j u hj => by
    have := (List.getElem?_eq_some_iff.1 hj).1
    rw [R.hcl] at this
    rw [add_spot', hy j this]; exact hj
  have hone : ∀ u ∈ R.cl y, u.oneCell' = true := R.hone y
  have hfl := gflat_len R xs
  have hcl1 : (R.cl y).length = 1 * R.K := by rw [R.hcl, Nat.one_mul]
  have hby : (xs.length + 1) * R.bytes ≤ 140737488355328 := Nat.le_trans (Nat.mul_le_mul (show xs.length + 1 ≤ 3001 by omega) hbb) (by decide)
  rw [e, e2]
  rcases hown.2 with ⟨rfl, h0⟩ | ⟨g, cap, cur, rfl, hg1, hg2, _⟩
  · obtain ⟨v', w', hr, h2, h3, _, _⟩ := run_append_own_at (P := Try.prog) w S R.SL ty R.T i0 R.zero R.K R.bytes R.hSL hi hz0 hz1 hz2 hzs hpos (.slice none 0 0) xs.length (gflat R xs) hown ⟨b, 0, none⟩ 1 1 (R.cl y) hcl1 hnews hone (by unfold maxLen; omega) hby hS
    obtain ⟨g, cap, rfl⟩ : ∃ g cap, v' = .slice (some ⟨g, 0, none⟩) (xs.length + 1) cap := by
      rcases h2.2 with ⟨_, h0⟩ | ⟨g, cap, _, rfl, _⟩
      · omega
      · exact ⟨g, cap, rfl⟩
    exact ⟨g, cap, w', hr, h2, h3, ⟨hown.1, .inl ⟨rfl, h0⟩⟩⟩
  · by_cases hroom : xs.length + 1 ≤ cap
    · obtain ⟨w', hr, h2, h3⟩ := run_append_fits (P := Try.prog) w S R.SL ty R.T i0 R.K R.hSL hi hz1 g xs.length cap (gflat R xs) hown ⟨b, 0, none⟩ 1 1 (R.cl y) hcl1 hnews hone hroom
      exact ⟨g, cap, w', hr, h2, h3, gown_prefix h2 hfl⟩
    · obtain ⟨v', w', hr, h2, h3⟩ := run_append_arg_grows (P := Try.prog) w R.SL ty R.T i0 R.zero R.K R.bytes R.hSL hi hz0 hz1 hz2 hzs hpos ⟨g, 0, none⟩ xs.length cap (gflat R xs) hfl (hown.cells rfl) ⟨b, 0, none⟩ 1 1 (R.cl y) hcl1 hnews (by omega) (by unfold maxLen; omega) hby
      obtain ⟨g', cap', rfl⟩ : ∃ g cap, v' = .slice (some ⟨g, 0, none⟩) (xs.length + 1) cap := by
        rcases h2.2 with ⟨_, h0⟩ | ⟨g, cap, _, rfl, _⟩
        · omega
        · exact ⟨g, cap, rfl⟩
      exact ⟨g', cap', w', hr, gown_mono h2 hS, ⟨h3.os, h3.tape, h3.output, h3.size, fun k hk _ => h3.block k hk (by simp)⟩, hown.kept h3 (.inr (by simp [Value.ownBlock]))⟩
/-- At the list of a plain region's operations: one element more, out of a block that was made for it. -/
theorem gapp1_any {ops : Array Oper} {rest : List Oper} {o : Oper} {a : Act} {Q : Exit → Act → World → Prop} {W : World} (hgd : o.guard = none) (s x : Operand)
    (ho : o.op = .call { callee := .builtin .append, args := #[s, x], argTypes := #[R.SL, R.SL] }) (w : World) (y : R.α) (T : TypeId) (hW : W = w.alloc (.cells (R.cl y).toArray T)) (S : Nat) (v : Value) (xs : List R.α)
    (hs : a.eval s = v) (hx : a.eval x = .slice (some ⟨w.heap.size, 0, none⟩) 1 1) (hown : w.ownsRow S R.T R.K v xs.length (gflat R xs)) (hl : xs.length ≤ 3000) (hS : S ≤ w.heap.size)
    (h : ∀ g cap w', w'.ownsRow S R.T R.K (.slice (some ⟨g, 0, none⟩) (xs.length + 1) cap) (xs ++ [y]).length (gflat R (xs ++ [y])) → Below S w w' → wpList Try.prog ops Q rest (a.put o.dst (.slice (some ⟨g, 0, none⟩) (xs.length + 1) cap)) w') : wpList Try.prog ops Q (o :: rest) a W := by
  subst hW
  have hb : Below S w (w.alloc (.cells (R.cl y).toArray T)) := (Below.refl S w).alloc hS _
  obtain ⟨g, cap, w', hr, h2, h3, _⟩ := run_gapp (w.alloc (.cells (R.cl y).toArray T)) o.type S v xs (hown.alloc _) w.heap.size y (gc_alloc R w y _ rfl T) hl (by simp; omega)
  refine wpList_plain hgd fun K hK => ?_
  unfold Oper.wp
  rw [gexec_append ho hs hx hr]
  exact hK _ _ (h g cap w' h2 (hb.grown h3 (by simp; omega) (fun k hk => (hown.lt k hk).1)))
/-- One element more, at a step of a region that draws its order. -/
theorem step_gapp {ops : Array Oper} {o : Oper} {a : Act} {W : World} {K : Act → World → Prop} {Q : Exit → Act → World → Prop} {E : Prop} (hg : o.guard = none) (s x : Operand)
    (ho : o.op = .call { callee := .builtin .append, args := #[s, x], argTypes := #[R.SL, R.SL] }) (w : World) (y : R.α) (T : TypeId) (hW : W = w.alloc (.cells (R.cl y).toArray T)) (S : Nat) (v : Value) (xs : List R.α)
    (hs : a.eval s = v) (hx : a.eval x = .slice (some ⟨w.heap.size, 0, none⟩) 1 1) (hown : w.ownsRow S R.T R.K v xs.length (gflat R xs)) (hl : xs.length ≤ 3000) (hS : S ≤ w.heap.size)
    (hK : ∀ g cap w', w'.ownsRow S R.T R.K (.slice (some ⟨g, 0, none⟩) (xs.length + 1) cap) (xs ++ [y]).length (gflat R (xs ++ [y])) → Below S w w' → K (a.put o.dst (.slice (some ⟨g, 0, none⟩) (xs.length + 1) cap)) w') :
    if Region.wanted o (yielded ops a.tmps) = true then Oper.wp Try.prog o a W K Q else E := by
  have hw : Region.wanted o (yielded ops a.tmps) = true := by simp [Region.wanted, hg]
  rw [if_pos hw]
  subst hW
  have hb : Below S w (w.alloc (.cells (R.cl y).toArray T)) := (Below.refl S w).alloc hS _
  obtain ⟨g, cap, w', hr, h2, h3, _⟩ := run_gapp (w.alloc (.cells (R.cl y).toArray T)) o.type S v xs (hown.alloc _) w.heap.size y (gc_alloc R w y _ rfl T) hl (by simp; omega)
  unfold Oper.wp
  rw [gexec_append ho hs hx hr]
  exact hK g cap w' h2 (hb.grown h3 (by simp; omega) (fun k hk => (hown.lt k hk).1))
theorem gs_trod {H : Type} {enc : TypeId × Value → H} {w : World} {base : Nat} {spare : Nat → Bool} {held : Bool} {f : Nat} {u : Value} {X : DataW H × List MemPlace}
    (hform : ∀ n' cs X, cs.length = R.K → DataW.trod enc Try.prog w base spare held n' R.T cs = some X → ∃ y : R.α, cs = R.cl y)
    (hf : DataW.trod enc Try.prog w base spare held f R.SL [u] = some X) : ∃ (a : Option Addr) (cap : Nat) (ys : List R.α), u = .slice a ys.length cap ∧ Gs R w u ys := by
  rcases Deep.open_slice R.hSL hf with ⟨hcs, _⟩ | ⟨x, l, c, m, n, D, Pl, hcs, _, hlc, _, hm, _, hel⟩
  · simp at hcs
    subst hcs
    exact ⟨none, 0, [], rfl, Gs_nil w⟩
  · simp at hcs
    subst hcs
    by_cases h0 : l = 0
    · subst h0
      exact ⟨_, c, [], rfl, .inl ⟨_, c, rfl, (fun h => by cases h), rfl⟩⟩
    · obtain ⟨b, off, spot⟩ := x
      have hlm : l ≤ m := by rw [hm]; split <;> omega
      have c12 := R.hc
      have hpos := R.hK
      have hsp : spot = none := by
        obtain ⟨cs', h1, h2⟩ := hel 0 (by omega)
        rw [c12] at h1
        obtain ⟨_, hl12, hcell⟩ := World.cells?_some h1
        obtain ⟨y, rfl⟩ := hform _ _ _ hl12 h2
        have hc0 := hcell 0 hpos
        rw [List.getElem?_eq_getElem (by rw [R.hcl]; exact hpos)] at hc0
        simpa [Addr.add] using World.cell?_spot hc0
      subst hsp
      have each : ∀ k, ∃ y : R.α, k < l → GC R w b (off + k * R.K) y ∧ b < w.heap.size := by
        intro k
        by_cases hk : k < l
        · obtain ⟨cs', h1, h2⟩ := hel k (by omega)
          rw [c12] at h1
          obtain ⟨_, hl12, hcell⟩ := World.cells?_some h1
          obtain ⟨y, rfl⟩ := hform _ _ _ hl12 h2
          have hB := World.cells?_block h1 hpos
          rw [add_spot'] at hcell hB
          exact ⟨y, fun _ => ⟨fun j hj => by have := hcell j (by first | exact hj | (rw [R.hcl]; exact hj)); rw [add_spot'] at this; exact this, hB⟩⟩
        · exact ⟨R.d, fun h => absurd h hk⟩
      obtain ⟨F, hF⟩ := Classical.skolem.1 each
      refine ⟨some ⟨b, off, none⟩, c, (List.range l).map F, by simp, .inr ⟨b, off, c, by simp, by simpa using hlc, (hF 0 (by omega)).2, fun i hi => ?_⟩⟩
      have hi' : i < l := by simpa using hi
      have e : ((List.range l).map F).getD i R.d = F i := by simp [List.getD, hi']
      rw [e]
      exact (hF i hi').1
def GX (row : Option Nat) (s k : Nat) (w w' : World) : Prop := if k = s then w.grownBy w' row else Below w.heap.size w w'
theorem GX_refl (row : Option Nat) (s k : Nat) (w : World) : GX row s k w w := by
  unfold GX
  by_cases h : k = s
  · rw [if_pos h]; exact ⟨rfl, rfl, rfl, Nat.le_refl _, fun _ _ _ => rfl⟩
  · rw [if_neg h]; exact Below.refl _ _
theorem GX_of {row : Option Nat} {s k : Nat} {w w' : World} (h : k ≠ s) (hb : Below w.heap.size w w') : GX row s k w w' := by unfold GX; rw [if_neg h]; exact hb
theorem GX_at {row : Option Nat} {s k : Nat} {w w' : World} (h : k = s) (hb : w.grownBy w' row) : GX row s k w w' := by unfold GX; rw [if_pos h]; exact hb
/-- A slice of one element in a new block. -/
def NewG (wo : World) (y : R.α) : Ty := fun u w => ∃ b, u = .slice (some ⟨b, 0, none⟩) 1 1 ∧ wo.heap.size ≤ b ∧ GC R w b 0 y
theorem NewG.keeps {wo : World} {y : R.α} {row : Option Nat} (hrow : ∀ b, row = some b → b < wo.heap.size) (s k : Nat) : T3.Keeps (GX row s) k (NewG wo y) := by
  rintro j _ u w w' ⟨b, h1, h2, h3⟩ hx
  have hlt : b < w.heap.size := by
    have := h3 0 R.hK
    have h4 : (R.cl y)[0]? ≠ none := by rw [List.getElem?_eq_getElem (by rw [R.hcl]; exact R.hK)]; simp
    cases hq : (R.cl y)[0]? with
    | none => exact absurd hq h4
    | some q => rw [hq] at this; exact World.block_lt_of_cell? w ⟨b, 0 + 0, none⟩ this
  refine ⟨b, h1, h2, fun i hi => ?_⟩
  rw [← h3 i hi]
  unfold GX at hx
  by_cases hj : j = s
  · rw [if_pos hj] at hx
    exact World.cell?_of_block (hx.block b hlt (fun e => by have := hrow b e.symm; omega))
  · rw [if_neg hj] at hx
    exact hx.cell (p := ⟨b, 0 + i, none⟩) hlt
/-- A row of the call's own. -/
def NewGRow (S : Nat) (zs : List R.α) (n : Nat) : Ty := fun u w => ∃ g cap, u = .slice (some ⟨g, 0, none⟩) n cap ∧ w.ownsRow S R.T R.K u zs.length (gflat R zs)
theorem NewGRow.keeps {S n : Nat} {zs : List R.α} {row : Option Nat} (s : Nat) : T3.Keeps (GX row s) s (NewGRow (R := R) S zs n) := by
  rintro j hj u w w' ⟨g, cap, h1, h2⟩ hx
  unfold GX at hx
  rw [if_neg hj] at hx
  exact ⟨g, cap, h1, gown_below h2 hx⟩
end Go.Proofs.Ytmimgpnogjgliaa

