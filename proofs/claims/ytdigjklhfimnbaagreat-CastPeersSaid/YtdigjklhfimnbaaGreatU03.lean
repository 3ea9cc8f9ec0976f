/- Texts Rint, Grw, Frm, Typ2, Beq, Wit, Ofm, Akp, Zin of this proof, in one. No conditions but on lengths. -/
import Derived.Test.YtdigjklhfimnbaaGreatRows
import Derived.Test.YtdigjklhfimnbaaGreatU01
import Derived.Test.YtdigjklhfimnbaaGreatU02
import Derived.ArgAppend
import Derived.Below
import Derived.BigQuiet
import Derived.Calls
import Derived.ChangeArms
import Derived.ChangeMade
import Derived.ChangeOld
import Derived.Deep.Cut
import Derived.Deep.QuietTactic
import Derived.Deep.RegionLaw
import Derived.Deep.Slices
import Derived.Laws.AppendOwnNone
import Derived.Laws.BytesArg
import Derived.Laws.LoneSync
import Derived.Laws.OwnMore
import Derived.Laws.StructEq
import Derived.Lib.Hide
import Derived.Lib.QuietBelow
import Derived.LoopIn
import Derived.LoopTactic
import Derived.Maps.AppendAt
import Derived.OpenShut
import Derived.Orders
import Derived.Outline
import Derived.OwnWalkIn
import Derived.ProofKit
import Derived.RangeFuncBox
import Derived.RangeFuncCalls
import Derived.RangeFuncLeaves
import Derived.RangeFuncNested
import Derived.Shelf.RegionOpen
import Derived.ShutString
import Derived.StillTail
import Derived.TacticsInMore
import Derived.WalkKit
import Derived.WalkSpells
import Derived.WideShapes
namespace Go.Proofs.YtdigjklhfimnbaaGreat
open Go.RowKit
set_option maxRecDepth 20000

theorem Bs_below {w w' : World} {v : Value} {xs : List Int} (h : Bs w v xs) (hb : Below w.heap.size w w') : Bs w' v xs := by
  obtain ⟨h1, h2, h3 | ⟨b, off, cap, h4, h5, h6⟩⟩ := h
  · exact ⟨h1, h2, .inl h3⟩
  · refine ⟨h1, h2, .inr ⟨b, off, cap, h4, h5, fun i hi => ?_⟩⟩
    have hc := h6 i hi
    rw [hb.cell (World.block_lt_of_cell? w _ hc)]
    exact hc
theorem Bs_of_own {w : World} {base n : Nat} {v : Value} {xs : List Int} (h : w.ownsRow base 5 1 v n (xs.map (Value.int .u8))) (hx : ∀ x ∈ xs, 0 ≤ x ∧ x < 256) (hn : xs.length ≤ 9223372036854775807) : Bs w v xs := by
  have hl : xs.length = n := by simpa using h.1
  refine ⟨hx, hn, ?_⟩
  rcases h.2 with ⟨h1, h2⟩ | ⟨g, cap, cur, rfl, _, hg, hnc, _, _, htake⟩
  · left; exact ⟨none, 0, h1, fun _ => rfl, List.length_eq_zero_iff.1 (by omega)⟩
  · right
    refine ⟨g, 0, cap, by rw [hl], by omega, fun i hi => ?_⟩
    rw [Nat.zero_add, h.cellAt i (by omega)]
    simp [List.getD, hi]
theorem World.ownsRow.len {w : World} {base n : Nat} {v : Value} {xs : List Int} (h : w.ownsRow base 5 1 v n (xs.map (Value.int .u8))) : n = xs.length := by simpa using h.1.symm
theorem news_of {w : World} {b off : Nat} {xs : List Int} (hc : ∀ i, i < xs.length → w.cell? ⟨b, off + i, none⟩ = some (.int .u8 (xs.getD i 0))) : ∀ j u, (xs.map (Value.int .u8))[j]? = some u → w.cell? ((⟨b, off, none⟩ : Addr).add j) = some u := by
  intro j u h
  have hj : j < xs.length := by
    rcases Nat.lt_or_ge j xs.length with h' | h'
    · exact h'
    · rw [List.getElem?_eq_none (by simpa using h')] at h; cases h
  have hadd : (⟨b, off, none⟩ : Addr).add j = ⟨b, off + j, none⟩ := by unfold Addr.add; split <;> simp_all
  rw [hadd, hc j hj]
  simp [hj] at h
  simp [List.getD, hj, h]
theorem ones (xs : List Int) : ∀ u ∈ xs.map (Value.int .u8), u.oneCell' = true := by
  intro u hu
  obtain ⟨_, _, rfl⟩ := List.mem_map.1 hu
  rfl
end Go.Proofs.YtdigjklhfimnbaaGreat
namespace Go.Proofs.YtdigjklhfimnbaaGreat
set_option maxRecDepth 100000
open Go.RowKit Go.WideShapes Go.ChangeShapes

/-- A type whose rows are looked at: what an element is, and its cells. -/
structure RowT where
  α : Type
  d : α
  cl : α → List Value
  K : Nat
  T : TypeId
  SL : TypeId
  zero : Value
  bytes : Nat
  hcl : ∀ y, (cl y).length = K
  hK : 0 < K
  hone : ∀ y, ∀ u ∈ cl y, u.oneCell' = true
  hSL : Tryz.prog.underlying SL = some (.slice T)
  hinfo : (Tryz.prog.info? T).map (fun i => (i.zero, i.size, i.bytes)) = some (some zero, K, bytes)
  hz : zero.cells.size = K
  hb : bytes ≤ 4096
  hc : Tryz.prog.cellsOf T = K
variable (R : RowT)

theorem add_spot' (b off k : Nat) : (⟨b, off, none⟩ : Addr).add k = ⟨b, off + k, none⟩ := by unfold Addr.add; split <;> simp_all
def gflat (ys : List R.α) : List Value := ys.flatMap R.cl
theorem gflat_len (ys : List R.α) : (gflat R ys).length = ys.length * R.K := by
  induction ys with
  | nil => simp [gflat]
  | cons y ys ih => simp only [gflat, List.flatMap_cons, List.length_append, List.length_cons, R.hcl] at *; rw [ih, Nat.succ_mul]; omega
theorem gflat_app (xs ys : List R.α) : gflat R (xs ++ ys) = gflat R xs ++ gflat R ys := by simp [gflat]
theorem gflat_one (y : R.α) : gflat R [y] = R.cl y := by simp [gflat]
theorem gflat_at : ∀ (ys : List R.α) (i j : Nat), i < ys.length → j < R.K → (gflat R ys)[i * R.K + j]? = (R.cl (ys.getD i R.d))[j]?
  | [], i, j, h, _ => by simp at h
  | y :: ys, 0, j, _, hj => by
    simp only [gflat, List.flatMap_cons, Nat.zero_mul, Nat.zero_add, List.getD_cons_zero]
    rw [List.getElem?_append_left (by rw [R.hcl]; exact hj)]
  | y :: ys, i + 1, j, h, hj => by
    have ih := gflat_at ys i j (by simpa using h) hj
    simp only [gflat, List.flatMap_cons, List.getD_cons_succ] at *
    rw [List.getElem?_append_right (by rw [R.hcl, Nat.succ_mul]; omega), R.hcl, show (i + 1) * R.K + j - R.K = i * R.K + j by rw [Nat.succ_mul]; omega]
    exact ih
theorem gflat_ones (ys : List R.α) : ∀ u ∈ gflat R ys, u.oneCell' = true := by
  intro u hu
  obtain ⟨y, _, hy⟩ := List.mem_flatMap.1 hu
  exact R.hone y u hy
/-- The cells of an element, wherever they lie. -/
def GC (w : World) (b o : Nat) (y : R.α) : Prop := ∀ j, j < R.K → w.cell? ⟨b, o + j, none⟩ = (R.cl y)[j]?
theorem GC.low {R : RowT} {w w' : World} {b o B : Nat} {y : R.α} (h : GC R w b o y) (hb : b < B) (hB : Below B w w') : GC R w' b o y := fun j hj => by
  rw [hB.cell (p := ⟨b, o + j, none⟩) hb]; exact h j hj
theorem gc_alloc (w : World) (y : R.α) (g : Nat) (hg : g = w.heap.size) (T : TypeId) : GC R (w.alloc (.cells (R.cl y).toArray T)) g 0 y := fun j hj => by
  subst hg
  rw [Nat.zero_add, cell_of_row _ _ _ _ _ _ (heap_alloc_new w _)]
  simp
/-- A slice that reads as ys. -/
def Gs (w : World) (v : Value) (ys : List R.α) : Prop :=
  (∃ a cap, v = .slice a 0 cap ∧ (a = none → cap = 0) ∧ ys = []) ∨
  ∃ b off cap, v = .slice (some ⟨b, off, none⟩) ys.length cap ∧ ys.length ≤ cap ∧ b < w.heap.size ∧ ∀ i, i < ys.length → GC R w b (off + i * R.K) (ys.getD i R.d)
variable {R}
theorem Gs.below {w w' : World} {v : Value} {ys : List R.α} (h : Gs R w v ys) (hb : Below w.heap.size w w') : Gs R w' v ys := by
  rcases h with h | ⟨b, off, cap, h1, h2, h3, h4⟩
  · exact .inl h
  · exact .inr ⟨b, off, cap, h1, h2, Nat.lt_of_lt_of_le h3 hb.size, fun i hi => (h4 i hi).low h3 hb⟩
theorem Gs.alloc {w : World} {v : Value} {ys : List R.α} (h : Gs R w v ys) (O : Obj) : Gs R (w.alloc O) v ys := h.below ((Below.refl _ _).alloc (Nat.le_refl _) O)
theorem Gs.form {w : World} {v : Value} {ys : List R.α} (h : Gs R w v ys) : ∃ a c, v = .slice a ys.length c := by
  rcases h with ⟨a, cap, h1, _, rfl⟩ | ⟨b, off, cap, h1, _⟩
  · exact ⟨a, cap, h1⟩
  · exact ⟨_, _, h1⟩
theorem Gs_nil (w : World) : Gs R w (.slice none 0 0) [] := .inl ⟨none, 0, rfl, fun _ => rfl, rfl⟩
theorem Gs.at {w : World} {a : Option Addr} {c : Nat} {ys : List R.α} (h : Gs R w (.slice a ys.length c) ys) {i : Nat} (hi : i < ys.length) : ∃ b off, a = some ⟨b, off, none⟩ ∧ b < w.heap.size ∧ GC R w b (off + i * R.K) (ys.getD i R.d) := by
  rcases h with ⟨a', cap, hv, _, rfl⟩ | ⟨b, off, cap, hv, _, hB, hc⟩
  · simp at hi
  · simp only [Value.slice.injEq] at hv
    exact ⟨b, off, hv.1, hB, hc i hi⟩
theorem Gs.all {w : World} {b off c : Nat} {ys : List R.α} (h : Gs R w (.slice (some ⟨b, off, none⟩) ys.length c) ys) {i : Nat} (hi : i < ys.length) : b < w.heap.size ∧ GC R w b (off + i * R.K) (ys.getD i R.d) := by
  obtain ⟨b', off', h1, h2⟩ := h.at hi
  simp only [Option.some.injEq, Addr.mk.injEq, and_true] at h1
  obtain ⟨rfl, rfl⟩ := h1
  exact h2
theorem gown_cell {w : World} {base n g cap : Nat} {xs : List Value} {e : TypeId} {size : Nat} (h : w.ownsRow base e size (.slice (some ⟨g, 0, none⟩) n cap) n xs) (j : Nat) (hj : j < n * size) : w.cell? ⟨g, j, none⟩ = xs[j]? := h.cellAt j hj
theorem Gs_of_own {w : World} {base n : Nat} {v : Value} {ys : List R.α} (h : w.ownsRow base R.T R.K v n (gflat R ys)) : Gs R w v ys ∧ n = ys.length := by
  have hn : n = ys.length := by
    have h1 := h.1
    rw [gflat_len] at h1
    exact (Nat.eq_of_mul_eq_mul_right R.hK h1).symm
  subst hn
  refine ⟨?_, rfl⟩
  rcases h.2 with ⟨h1, h2⟩ | ⟨g, cap, cur, rfl, _, hg, hnc, _, _, htake⟩
  · exact .inl ⟨none, 0, h1, fun _ => rfl, List.length_eq_zero_iff.1 h2⟩
  · refine .inr ⟨g, 0, cap, rfl, hnc, (Array.getElem?_eq_some_iff.1 hg).1, fun i hi j hj => ?_⟩
    have hlt : i * R.K + j < ys.length * R.K := by
      have : (i + 1) * R.K ≤ ys.length * R.K := Nat.mul_le_mul_right _ hi
      rw [Nat.succ_mul] at this
      omega
    rw [Nat.zero_add, gown_cell h (i * R.K + j) hlt, gflat_at R ys i j hi hj]
theorem grow_ext {ys zs : List R.α} (hl : ys.length = zs.length) (h : ∀ i, i < ys.length → ys.getD i R.d = zs.getD i R.d) : ys = zs := by
  refine List.ext_getElem hl fun i h1 h2 => ?_
  have := h i h1
  simpa [List.getD, h1, h2] using this
theorem gown_nil (w : World) (base : Nat) : w.ownsRow base R.T R.K (.slice none 0 0) 0 (gflat R []) := ⟨by simp [gflat], .inl ⟨rfl, rfl⟩⟩
theorem gown_below {w w' : World} {base size n : Nat} {e : TypeId} {v : Value} {xs : List Value} (h : w.ownsRow base e size v n xs) (hb : Below w.heap.size w w') : w'.ownsRow base e size v n xs := by
  refine ⟨h.1, ?_⟩
  rcases h.2 with h2 | ⟨g, cap, cur, rfl, h3, hg, rest⟩
  · exact .inl h2
  · exact .inr ⟨g, cap, cur, rfl, h3, (hb.block g (Array.getElem?_eq_some_iff.1 hg).1).trans hg, rest⟩
theorem gown_mono {w : World} {base B size n : Nat} {e : TypeId} {v : Value} {xs : List Value} (h : w.ownsRow base e size v n xs) (hB : B ≤ base) : w.ownsRow B e size v n xs := by
  rcases h.2 with h2 | ⟨g, cap, cur, h2, h3, h4⟩
  · exact ⟨h.1, .inl h2⟩
  · exact ⟨h.1, .inr ⟨g, cap, cur, h2, Nat.le_trans hB h3, h4⟩⟩
theorem gown_form {w : World} {base size n : Nat} {e : TypeId} {v : Value} {xs : List Value} (h : w.ownsRow base e size v n xs) : ∃ a c, v = .slice a n c := by
  rcases h.2 with ⟨rfl, rfl⟩ | ⟨g, cap, cur, rfl, _⟩
  · exact ⟨none, 0, rfl⟩
  · exact ⟨_, _, rfl⟩
theorem gown_prefix {w : World} {S size n m g cap : Nat} {e : TypeId} {xs ys : List Value} (h : w.ownsRow S e size (.slice (some ⟨g, 0, none⟩) (n + m) cap) (n + m) (xs ++ ys)) (hx : xs.length = n * size) : w.ownsRow S e size (.slice (some ⟨g, 0, none⟩) n cap) n xs := by
  refine ⟨hx, ?_⟩
  rcases h.2 with ⟨h1, _⟩ | ⟨g', cap', cur, hv, hb, hg, hnc, hcm, hcs, htake⟩
  · cases h1
  · simp only [Value.slice.injEq, Option.some.injEq, Addr.mk.injEq, and_true, true_and] at hv
    obtain ⟨rfl, rfl⟩ := hv
    refine .inr ⟨g, cap, cur, rfl, hb, hg, by omega, hcm, hcs, ?_⟩
    have h3 : (cur.toList.take ((n + m) * size)).take (n * size) = (xs ++ ys).take (n * size) := by rw [htake]
    rw [List.take_take, Nat.min_eq_left (Nat.mul_le_mul_right _ (Nat.le_add_right _ _)), ← hx, List.take_left] at h3
    rw [← hx]; exact h3
theorem gexec_append {ρ : Operand → Value} {o : Oper} {s x : Operand} {T : TypeId} {v u r : Value} {w w' : World} (ho : o.op = .call { callee := .builtin .append, args := #[s, x], argTypes := #[T, T] }) (hs : ρ s = v) (hx : ρ x = u)
    (hr : (Builtin.append_ #[T, T] o.type #[v, u]).run Tryz.prog w = .ok r w') : (execOp ρ o).run Tryz.prog w = .ok (.value r) w' := by
  unfold execOp
  simp only [ho, resolve, invoke, builtin, Sem.run_bind, Sem.run_pure, Result.andThen_ok, List.map_toArray, List.map_cons, List.map_nil, hs, hx, hr]
/-- One element more: the append as one operation's run. The elder row is there as it was. -/
theorem run_gapp (w : World) (ty : TypeId) (S : Nat) (v : Value) (xs : List R.α) (hown : w.ownsRow S R.T R.K v xs.length (gflat R xs)) (b : Nat) (y : R.α) (hy : GC R w b 0 y) (hl : xs.length ≤ 3000) (hS : S ≤ w.heap.size) :
    ∃ g cap w', (Builtin.append_ #[R.SL, R.SL] ty #[v, .slice (some ⟨b, 0, none⟩) 1 1]).run Tryz.prog w = .ok (.slice (some ⟨g, 0, none⟩) (xs.length + 1) cap) w' ∧ w'.ownsRow S R.T R.K (.slice (some ⟨g, 0, none⟩) (xs.length + 1) cap) (xs ++ [y]).length (gflat R (xs ++ [y])) ∧ w.grownBy w' v.ownBlock ∧ w'.ownsRow S R.T R.K v xs.length (gflat R xs) := by
  obtain ⟨i0, hi, hz0, hz1, hz2⟩ := info_parts R.hinfo
  have hzs := R.hz
  have hbb := R.hb
  have hpos := R.hK
  have e : gflat R (xs ++ [y]) = gflat R xs ++ R.cl y := by rw [gflat_app, gflat_one]
  have e2 : (xs ++ [y]).length = xs.length + 1 := by simp
  have hnews : ∀ j u, (R.cl y)[j]? = some u → w.cell? ((⟨b, 0, none⟩ : Addr).add j) = some u := fun j u hj => by
    have := (List.getElem?_eq_some_iff.1 hj).1
    rw [R.hcl] at this
    rw [add_spot', hy j this]; exact hj
  have hone : ∀ u ∈ R.cl y, u.oneCell' = true := R.hone y
  have hfl := gflat_len R xs
  have hcl1 : (R.cl y).length = 1 * R.K := by rw [R.hcl, Nat.one_mul]
  have hby : (xs.length + 1) * R.bytes ≤ 140737488355328 := Nat.le_trans (Nat.mul_le_mul (show xs.length + 1 ≤ 3001 by omega) hbb) (by decide)
  rw [e, e2]
  rcases hown.2 with ⟨rfl, h0⟩ | ⟨g, cap, cur, rfl, hg1, hg2, _⟩
  · obtain ⟨v', w', hr, h2, h3, _, _⟩ := run_append_own_at (P := Tryz.prog) w S R.SL ty R.T i0 R.zero R.K R.bytes R.hSL hi hz0 hz1 hz2 hzs hpos (.slice none 0 0) xs.length (gflat R xs) hown ⟨b, 0, none⟩ 1 1 (R.cl y) hcl1 hnews hone (by unfold maxLen; omega) hby hS
    obtain ⟨g, cap, rfl⟩ : ∃ g cap, v' = .slice (some ⟨g, 0, none⟩) (xs.length + 1) cap := by
      rcases h2.2 with ⟨_, h0⟩ | ⟨g, cap, _, rfl, _⟩
      · omega
      · exact ⟨g, cap, rfl⟩
    exact ⟨g, cap, w', hr, h2, h3, ⟨hown.1, .inl ⟨rfl, h0⟩⟩⟩
  · by_cases hroom : xs.length + 1 ≤ cap
    · obtain ⟨w', hr, h2, h3⟩ := run_append_fits (P := Tryz.prog) w S R.SL ty R.T i0 R.K R.hSL hi hz1 g xs.length cap (gflat R xs) hown ⟨b, 0, none⟩ 1 1 (R.cl y) hcl1 hnews hone hroom
      exact ⟨g, cap, w', hr, h2, h3, gown_prefix h2 hfl⟩
    · obtain ⟨v', w', hr, h2, h3⟩ := run_append_arg_grows (P := Tryz.prog) w R.SL ty R.T i0 R.zero R.K R.bytes R.hSL hi hz0 hz1 hz2 hzs hpos ⟨g, 0, none⟩ xs.length cap (gflat R xs) hfl (hown.cells rfl) ⟨b, 0, none⟩ 1 1 (R.cl y) hcl1 hnews (by omega) (by unfold maxLen; omega) hby
      obtain ⟨g', cap', rfl⟩ : ∃ g cap, v' = .slice (some ⟨g, 0, none⟩) (xs.length + 1) cap := by
        rcases h2.2 with ⟨_, h0⟩ | ⟨g, cap, _, rfl, _⟩
        · omega
        · exact ⟨g, cap, rfl⟩
      exact ⟨g', cap', w', hr, gown_mono h2 hS, ⟨h3.os, h3.tape, h3.output, h3.size, fun k hk _ => h3.block k hk (by simp)⟩, hown.kept h3 (.inr (by simp [Value.ownBlock]))⟩
theorem gs_trod {H : Type} {enc : TypeId × Value → H} {w : World} {base : Nat} {spare : Nat → Bool} {held : Bool} {f : Nat} {u : Value} {X : DataW H × List MemPlace}
    (hform : ∀ n' cs X, cs.length = R.K → DataW.trod enc Tryz.prog w base spare held n' R.T cs = some X → ∃ y : R.α, cs = R.cl y)
    (hf : DataW.trod enc Tryz.prog w base spare held f R.SL [u] = some X) : ∃ (a : Option Addr) (cap : Nat) (ys : List R.α), u = .slice a ys.length cap ∧ Gs R w u ys := by
  rcases Deep.open_slice R.hSL hf with ⟨hcs, _⟩ | ⟨x, l, c, m, n, D, Pl, hcs, _, hlc, _, hm, _, hel⟩
  · simp at hcs
    subst hcs
    exact ⟨none, 0, [], rfl, Gs_nil w⟩
  · simp at hcs
    subst hcs
    by_cases h0 : l = 0
    · subst h0
      exact ⟨_, c, [], rfl, .inl ⟨_, c, rfl, (fun h => by cases h), rfl⟩⟩
    · obtain ⟨b, off, spot⟩ := x
      have hlm : l ≤ m := by rw [hm]; split <;> omega
      have c12 := R.hc
      have hpos := R.hK
      have hsp : spot = none := by
        obtain ⟨cs', h1, h2⟩ := hel 0 (by omega)
        rw [c12] at h1
        obtain ⟨_, hl12, hcell⟩ := World.cells?_some h1
        obtain ⟨y, rfl⟩ := hform _ _ _ hl12 h2
        have hc0 := hcell 0 hpos
        rw [List.getElem?_eq_getElem (by rw [R.hcl]; exact hpos)] at hc0
        simpa [Addr.add] using World.cell?_spot hc0
      subst hsp
      have each : ∀ k, ∃ y : R.α, k < l → GC R w b (off + k * R.K) y ∧ b < w.heap.size := by
        intro k
        by_cases hk : k < l
        · obtain ⟨cs', h1, h2⟩ := hel k (by omega)
          rw [c12] at h1
          obtain ⟨_, hl12, hcell⟩ := World.cells?_some h1
          obtain ⟨y, rfl⟩ := hform _ _ _ hl12 h2
          have hB := World.cells?_block h1 hpos
          rw [add_spot'] at hcell hB
          exact ⟨y, fun _ => ⟨fun j hj => by have := hcell j (by first | exact hj | (rw [R.hcl]; exact hj)); rw [add_spot'] at this; exact this, hB⟩⟩
        · exact ⟨R.d, fun h => absurd h hk⟩
      obtain ⟨F, hF⟩ := Classical.skolem.1 each
      refine ⟨some ⟨b, off, none⟩, c, (List.range l).map F, by simp, .inr ⟨b, off, c, by simp, by simpa using hlc, (hF 0 (by omega)).2, fun i hi => ?_⟩⟩
      have hi' : i < l := by simpa using hi
      have e : ((List.range l).map F).getD i R.d = F i := by simp [List.getD, hi']
      rw [e]
      exact (hF i hi').1
def GX (row : Option Nat) (s k : Nat) (w w' : World) : Prop := if k = s then w.grownBy w' row else Below w.heap.size w w'
theorem GX_refl (row : Option Nat) (s k : Nat) (w : World) : GX row s k w w := by
  unfold GX
  by_cases h : k = s
  · rw [if_pos h]; exact ⟨rfl, rfl, rfl, Nat.le_refl _, fun _ _ _ => rfl⟩
  · rw [if_neg h]; exact Below.refl _ _
theorem GX_of {row : Option Nat} {s k : Nat} {w w' : World} (h : k ≠ s) (hb : Below w.heap.size w w') : GX row s k w w' := by unfold GX; rw [if_neg h]; exact hb
theorem GX_at {row : Option Nat} {s k : Nat} {w w' : World} (h : k = s) (hb : w.grownBy w' row) : GX row s k w w' := by unfold GX; rw [if_pos h]; exact hb
/-- A slice of one element in a new block. -/
def NewG (wo : World) (y : R.α) : Ty := fun u w => ∃ b, u = .slice (some ⟨b, 0, none⟩) 1 1 ∧ wo.heap.size ≤ b ∧ GC R w b 0 y
theorem NewG.keeps {wo : World} {y : R.α} {row : Option Nat} (hrow : ∀ b, row = some b → b < wo.heap.size) (s k : Nat) : T3.Keeps (GX row s) k (NewG wo y) := by
  rintro j _ u w w' ⟨b, h1, h2, h3⟩ hx
  have hlt : b < w.heap.size := by
    have := h3 0 R.hK
    have h4 : (R.cl y)[0]? ≠ none := by rw [List.getElem?_eq_getElem (by rw [R.hcl]; exact R.hK)]; simp
    cases hq : (R.cl y)[0]? with
    | none => exact absurd hq h4
    | some q => rw [hq] at this; exact World.block_lt_of_cell? w ⟨b, 0 + 0, none⟩ this
  refine ⟨b, h1, h2, fun i hi => ?_⟩
  rw [← h3 i hi]
  unfold GX at hx
  by_cases hj : j = s
  · rw [if_pos hj] at hx
    exact World.cell?_of_block (hx.block b hlt (fun e => by have := hrow b e.symm; omega))
  · rw [if_neg hj] at hx
    exact hx.cell (p := ⟨b, 0 + i, none⟩) hlt
/-- A row of the call's own. -/
def NewGRow (S : Nat) (zs : List R.α) (n : Nat) : Ty := fun u w => ∃ g cap, u = .slice (some ⟨g, 0, none⟩) n cap ∧ w.ownsRow S R.T R.K u zs.length (gflat R zs)
theorem NewGRow.keeps {S n : Nat} {zs : List R.α} {row : Option Nat} (s : Nat) : T3.Keeps (GX row s) s (NewGRow (R := R) S zs n) := by
  rintro j hj u w w' ⟨g, cap, h1, h2⟩ hx
  unfold GX at hx
  rw [if_neg hj] at hx
  exact ⟨g, cap, h1, gown_below h2 hx⟩
end Go.Proofs.YtdigjklhfimnbaaGreat
namespace Go.Proofs.YtdigjklhfimnbaaGreat
set_option maxRecDepth 100000
open Go.RowKit Go.WideShapes Go.ChangeShapes

/-- A number of 64 bits. -/
def I64 (x : Int) : Prop := -9223372036854775808 ≤ x ∧ x < 9223372036854775808
theorem i64_wf {x : Int} (h : (Lit.int .i64 x).wf = true) : I64 x := by
  have := bounds_i64 h
  unfold I64
  omega
theorem cell_form {H : Type} {enc : TypeId × Value → H} {P : Program} {w : World} {base n : Nat} {spare : Nat → Bool} {held : Bool} {fs : Array Field} {cs : List Value} {xs : List (DataW H × List MemPlace)} (hl : xs.length = fs.size)
    (h : ∀ (i : Nat) (f : Field), fs[i]? = some f → DataW.trod enc P w base spare held n f.type ((cs.drop f.offset).take (P.cellsOf f.type)) = xs[i]?)
    {j T O : Nat} {v : Value} (hf : (fs[j]?).map (fun f => (f.type, f.offset)) = some (T, O)) (hc : P.cellsOf T = 1) (hv : cs[O]? = some v) : ∃ y, DataW.trod enc P w base spare held n T [v] = some y := by
  cases hg : fs[j]? with
  | none => rw [hg] at hf; cases hf
  | some f =>
    rw [hg] at hf
    simp only [Option.map_some, Option.some.injEq, Prod.mk.injEq] at hf
    have h1 := h j f hg
    rw [hf.1, hf.2, hc] at h1
    have hj : j < xs.length := by rw [hl]; exact (Array.getElem?_eq_some_iff.1 hg).1
    rw [List.getElem?_eq_getElem hj] at h1
    have hO : O < cs.length := (List.getElem?_eq_some_iff.1 hv).1
    rw [List.drop_eq_getElem_cons hO, List.take_succ_cons, List.take_zero, (List.getElem?_eq_some_iff.1 hv).2] at h1
    exact ⟨_, h1⟩
theorem int_cell {H : Type} {enc : TypeId × Value → H} {w : World} {base n : Nat} {spare : Nat → Bool} {held : Bool} {v : Value} (h : ∃ y, DataW.trod enc Tryz.prog w base spare held n 3 [v] = some y) : ∃ x, v = .int .i64 x ∧ I64 x := by
  obtain ⟨y, hy⟩ := h
  obtain ⟨x, hx, _, hw⟩ := DataW.trod_int Tryz.underlying3 hy
  simp only [List.cons.injEq, and_true] at hx
  exact ⟨x, hx, i64_wf hw⟩
end Go.Proofs.YtdigjklhfimnbaaGreat
namespace Go.Proofs.YtdigjklhfimnbaaGreat
set_option maxRecDepth 100000
variable {P : Program} {ops : Array Oper} {C : World → Prop} {X : World → World → Prop} {a0 : Act}
theorem w_skipU {o : Oper} {rest : List Oper} {E : Tmp → Option Ty} {K : (Tmp → Option Ty) → Prop} {g : Nat} {d : Tmp} {want : Bool} (h1 : o.guard = some (g, want)) (h2 : (ops[g]?).bind (·.dst) = some d) (h3 : Known E a0 d undef)
    (hw : WalkT P ops C X a0 rest (push o (Is undef) E) K) : WalkT P ops C X a0 (o :: rest) E K :=
  ⟨Is undef, fun _ _ _ h _ => h, fun a w hC hf => by
    have hv := h3 a w (hf d (by simp [Oper.looksAt, h1, h2]))
    have hy : yielded ops a.tmps g = none := by
      unfold yielded
      rw [h2]
      simp only [Act.eval] at hv
      rcases Nat.lt_or_ge d a.tmps.size with h | h
      · simp [h] at hv
        simp [h, hv, undef]
      · simp [Array.getElem?_eq_none h]
    rw [if_neg (by simp [Region.wanted, h1, hy])]
    rfl, hw⟩
end Go.Proofs.YtdigjklhfimnbaaGreat
namespace Go.Proofs.YtdigjklhfimnbaaGreat
set_option maxRecDepth 100000
open Go.RowKit

/-- What the reference's loop holds after k rounds: the echoes, whether the new one stands. -/
def wkF (ys : List (Int × Int)) (id ep : Int) : Nat → List (Int × Int) × Bool
  | 0 => ([], false)
  | k + 1 =>
    let r := wkF ys id ep k
    let y := ys.getD k (0, 0)
    let hit := !r.2 && decide (id ≤ y.1)
    ((r.1 ++ (if hit then [(id, ep)] else [])) ++ (if y.1 ≠ id then [y] else []), r.2 || hit)
/-- The echoes, and a new one. -/
def winF (ys : List (Int × Int)) (id ep : Int) : List (Int × Int) :=
  (wkF ys id ep ys.length).1 ++ (if (wkF ys id ep ys.length).2 then [] else [(id, ep)])
variable {ys : List (Int × Int)} {id ep : Int} {k : Nat}
end Go.Proofs.YtdigjklhfimnbaaGreat
namespace Go.Proofs.YtdigjklhfimnbaaGreat
set_option maxRecDepth 100000
open Go.RowKit

/-- A builtin append, by its run. -/
theorem app_go {ops : Array Oper} {rest : List Oper} {o : Oper} {a : Act} {Q : Exit → Act → World → Prop} {w : World} (hg : o.guard = none) (s x : Operand) (t : TypeId)
    (hop : o.op = Op.call { callee := Callee.builtin Builtin.append, args := #[s, x], argTypes := #[t, t] }) (v u r : Value) (w' : World) (hs : a.eval s = v) (hx : a.eval x = u)
    (hr : (Builtin.append_ #[t, t] o.type #[v, u]).run Tryz.prog w = .ok r w') (h : wpList Tryz.prog ops Q rest (a.put o.dst r) w') : wpList Tryz.prog ops Q (o :: rest) a w := by
  refine wpList_plain hg fun K hK => ?_
  unfold Oper.wp
  rw [gexec_append hop hs hx hr]
  exact hK _ _ h
end Go.Proofs.YtdigjklhfimnbaaGreat
namespace Go.Proofs.YtdigjklhfimnbaaGreat
set_option maxRecDepth 100000
open Go.RowKit Go.WideShapes Go.ChangeShapes

theorem under37 : Tryz.prog.underlying 41 = some (.struct (Tryz.prog.fieldsOf 41)) := by kernel_rfl
theorem part_form {H : Type} {enc : TypeId × Value → H} {P : Program} {w : World} {base n : Nat} {spare : Nat → Bool} {held : Bool} {fs : Array Field} {cs : List Value} {xs : List (DataW H × List MemPlace)} (hl : xs.length = fs.size)
    (h : ∀ (i : Nat) (f : Field), fs[i]? = some f → DataW.trod enc P w base spare held n f.type ((cs.drop f.offset).take (P.cellsOf f.type)) = xs[i]?)
    {j T O K : Nat} (hf : (fs[j]?).map (fun f => (f.type, f.offset)) = some (T, O)) (hc : P.cellsOf T = K) : ∃ y, DataW.trod enc P w base spare held n T ((cs.drop O).take K) = some y := by
  cases hg : fs[j]? with
  | none => rw [hg] at hf; cases hf
  | some f =>
    rw [hg] at hf
    simp only [Option.map_some, Option.some.injEq, Prod.mk.injEq] at hf
    have h1 := h j f hg
    rw [hf.1, hf.2, hc] at h1
    have hj : j < xs.length := by rw [hl]; exact (Array.getElem?_eq_some_iff.1 hg).1
    rw [List.getElem?_eq_getElem hj] at h1
    exact ⟨_, h1⟩
theorem array12 {cs : Array Value} (h : cs.size = 12) : ∃ c0 c1 c2 c3 c4 c5 c6 c7 c8 c9 c10 c11, cs = #[c0, c1, c2, c3, c4, c5, c6, c7, c8, c9, c10, c11] := by
  obtain ⟨l⟩ := cs
  match l, h with
  | [c0, c1, c2, c3, c4, c5, c6, c7, c8, c9, c10, c11], _ => exact ⟨c0, c1, c2, c3, c4, c5, c6, c7, c8, c9, c10, c11, rfl⟩
theorem ob_form {H : Type} {enc : TypeId × Value → H} {w : World} {base b0 : Nat} {spare : Nat → Bool} {held : Bool} {r' : Reach} {v : Value} {d' : DataW H} {p' : List MemPlace}
    (hv : Value.okWide Tryz.prog w r' b0 41 v) (h : DataW.Trod enc Tryz.prog w base spare held 41 v d' p') :
    ∃ k x n t o r d i p q s m, v = .agg #[.int .i64 k, .int .i64 x, .bool n, .int .i64 t, .int .i64 o, .int .i64 r, .int .i64 d, .int .i64 i, .int .i64 p, .int .i64 q, .int .i64 s, .int .i64 m] := by
  obtain ⟨cs, rfl, hs⟩ := okWide_struct under37 hv
  obtain ⟨c0, c1, c2, c3, c4, c5, c6, c7, c8, c9, c10, c11, rfl⟩ := array12 (hs.trans (by kernel_rfl))
  obtain ⟨fuel, hf⟩ := h
  obtain ⟨xs, M, _, _, _, hl, hx⟩ := DataW.trod_struct under37 hf
  obtain ⟨k, rfl, _⟩ := int_cell (cell_form (j := 0) (T := 3) (O := 0) (v := c0) hl hx (by kernel_rfl) (by kernel_rfl) rfl)
  obtain ⟨x, rfl, _⟩ := int_cell (cell_form (j := 1) (T := 3) (O := 1) (v := c1) hl hx (by kernel_rfl) (by kernel_rfl) rfl)
  obtain ⟨m, rfl, _⟩ := int_cell (cell_form (j := 4) (T := 3) (O := 11) (v := c11) hl hx (by kernel_rfl) (by kernel_rfl) rfl)
  obtain ⟨yh, hh⟩ := part_form (j := 2) (T := 37) (O := 2) (K := 6) hl hx (by kernel_rfl) (by kernel_rfl)
  obtain ⟨yl, hlv⟩ := part_form (j := 3) (T := 39) (O := 8) (K := 3) hl hx (by kernel_rfl) (by kernel_rfl)
  clear hl hx hf
  obtain ⟨xh, Mh, _, _, _, hl, hx⟩ := DataW.trod_struct under23 hh
  obtain ⟨y0, h0⟩ := cell_form (j := 0) (T := 4) (O := 0) (v := c2) hl hx (by kernel_rfl) (by kernel_rfl) rfl
  obtain ⟨n, hn, _⟩ := DataW.trod_bool Tryz.underlying4 h0
  simp only [List.cons.injEq, and_true] at hn
  obtain ⟨t, rfl, _⟩ := int_cell (cell_form (j := 1) (T := 3) (O := 1) (v := c3) hl hx (by kernel_rfl) (by kernel_rfl) rfl)
  obtain ⟨o, rfl, _⟩ := int_cell (cell_form (j := 2) (T := 3) (O := 2) (v := c4) hl hx (by kernel_rfl) (by kernel_rfl) rfl)
  obtain ⟨r, rfl, _⟩ := int_cell (cell_form (j := 3) (T := 3) (O := 3) (v := c5) hl hx (by kernel_rfl) (by kernel_rfl) rfl)
  obtain ⟨d, rfl, _⟩ := int_cell (cell_form (j := 4) (T := 3) (O := 4) (v := c6) hl hx (by kernel_rfl) (by kernel_rfl) rfl)
  obtain ⟨i, rfl, _⟩ := int_cell (cell_form (j := 5) (T := 3) (O := 5) (v := c7) hl hx (by kernel_rfl) (by kernel_rfl) rfl)
  clear hl hx
  obtain ⟨xl, Ml, _, _, _, hl, hx⟩ := DataW.trod_struct under25 hlv
  obtain ⟨p, rfl, _⟩ := int_cell (cell_form (j := 0) (T := 3) (O := 0) (v := c8) hl hx (by kernel_rfl) (by kernel_rfl) rfl)
  obtain ⟨q, rfl, _⟩ := int_cell (cell_form (j := 1) (T := 3) (O := 1) (v := c9) hl hx (by kernel_rfl) (by kernel_rfl) rfl)
  obtain ⟨s, rfl, _⟩ := int_cell (cell_form (j := 2) (T := 3) (O := 2) (v := c10) hl hx (by kernel_rfl) (by kernel_rfl) rfl)
  subst hn
  exact ⟨k, x, n, t, o, r, d, i, p, q, s, m, rfl⟩
end Go.Proofs.YtdigjklhfimnbaaGreat
namespace Go.Proofs.YtdigjklhfimnbaaGreat
set_option maxRecDepth 100000
open Go.RowKit

/-- Two to some number. -/
def pow2 : Nat → Int
  | 0 => 1
  | n + 1 => 2 * pow2 n
theorem pow2_pos (n : Nat) : 1 ≤ pow2 n := by
  induction n with
  | zero => exact Int.le_refl _
  | succ n ih => simp only [pow2]; omega
theorem pow2_le {m n : Nat} (h : n ≤ m) : pow2 n ≤ pow2 m := by
  induction m with
  | zero => obtain rfl : n = 0 := by omega
            exact Int.le_refl _
  | succ m ih =>
    rcases Nat.lt_or_ge m n with h' | h'
    · obtain rfl : n = m + 1 := by omega
      exact Int.le_refl _
    · have := ih h'; have := pow2_pos m; simp only [pow2]; omega
theorem pow2_16 : pow2 16 = 65536 := by decide
theorem pow2_small {n : Nat} (h : n ≤ 16) : pow2 n ≤ 65536 := by
  have := pow2_le h; rw [pow2_16] at this; exact this
/-- Whether an ack of this next, this mask has n. -/
def hasE (A K m : Int) : Bool := (decide (1 ≤ A) && decide (A ≤ 32768)) || (decide (1 ≤ K) && decide (K ≤ 16) && decide (m / pow2 (K - 1).toNat % 2 = 1))
def hasN (x m n : Int) : Bool := hasE (far n x) (far x n) m
end Go.Proofs.YtdigjklhfimnbaaGreat
namespace Go.Proofs.YtdigjklhfimnbaaGreat
set_option maxRecDepth 100000
open Go.RowKit

theorem Zs_open {w : World} {v : Value} {xs : List Int} (h : Zs w v xs) : ∃ a cap, v = .slice a xs.length cap ∧ (a = none → cap = 0) ∧ xs.length ≤ cap ∧ ∀ i, i < xs.length → ∃ b off, a = some ⟨b, off, none⟩ ∧ w.cell? ⟨b, off + i, none⟩ = some (.int .i64 (xs.getD i 0)) := by
  obtain ⟨hl, ⟨a, cap, rfl, hz, rfl⟩ | ⟨b, off, cap, rfl, hcap, hc⟩⟩ := h
  · exact ⟨a, cap, rfl, hz, Nat.zero_le _, fun i hi => absurd hi (Nat.not_lt_zero _)⟩
  · exact ⟨some ⟨b, off, none⟩, cap, rfl, (by intro h; cases h), hcap, fun i hi => ⟨b, off, rfl, hc i hi⟩⟩
end Go.Proofs.YtdigjklhfimnbaaGreat
