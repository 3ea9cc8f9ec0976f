/- The program's links: slices.Compact of levels in place; Levels. Conditions on lengths. The program's links: slices.Compact of levels in place. Conditions on lengths. The program's links: Levels. Conditions on lengths. -/
import Derived.Test.YtmimgpnogjgliaaKa
import Derived.Lib.SliceRun
namespace Go.Proofs.Ytmimgpnogjgliaa
set_option maxRecDepth 100000
open Go.RowKit

/-- Those of the first j that are not the one ahead. -/
def cpk (ls : List Lv) : Nat → List Lv
  | 0 => []
  | j + 1 => if j = 0 ∨ ls.getD j (0, 0, 0) ≠ ls.getD (j - 1) (0, 0, 0) then cpk ls j ++ [ls.getD j (0, 0, 0)] else cpk ls j
theorem cpk_len (ls : List Lv) : ∀ j, (cpk ls j).length ≤ j
  | 0 => Nat.le_refl _
  | j + 1 => by
    have := cpk_len ls j
    unfold cpk
    split
    · rw [List.length_append]; simp; omega
    · omega
theorem cpk_new {ls : List Lv} {j : Nat} (h : ls.getD j (0, 0, 0) ≠ ls.getD (j - 1) (0, 0, 0)) : cpk ls (j + 1) = cpk ls j ++ [ls.getD j (0, 0, 0)] := by
  rw [cpk, if_pos (.inr h)]
theorem cpk_old {ls : List Lv} {j : Nat} (h0 : 0 < j) (h : ls.getD j (0, 0, 0) = ls.getD (j - 1) (0, 0, 0)) : cpk ls (j + 1) = cpk ls j := by
  rw [cpk, if_neg (fun h2 => h2.elim (by omega) (fun h2 => h2 h))]
/-- A row of levels that is written in place. -/
structure LR (B : Nat) (w0 : World) (g : Nat) (w : World) (ds : List Lv) : Prop where
  bel : Below B w0 w
  row : ∀ i, i < ds.length → C3 w g (i * 3) (ds.getD i (0, 0, 0))
  fr : ∀ k, w.frozen? ⟨g, k, none⟩ = false
  hB : B ≤ g
  lt : g < w.heap.size
theorem LR.low {B : Nat} {w0 w w' : World} {g : Nat} {ds : List Lv} (h : LR B w0 g w ds) (hb : Below w.heap.size w w') : LR B w0 g w' ds :=
  ⟨h.bel.trans (hb.mono (Nat.le_of_lt (Nat.lt_of_le_of_lt h.hB h.lt))), fun i hi => (h.row i hi).below hb h.lt, fun k => (hb.frozen (p := ⟨g, k, none⟩) h.lt).trans (h.fr k), h.hB, Nat.lt_of_lt_of_le h.lt hb.size⟩
theorem lr_of_own {w : World} {S : Nat} {a : Option Addr} {n c : Nat} {ds : List Lv} (h : OwL w S (.slice a n c) ds) (hn : n = ds.length) (h0 : ds ≠ []) : ∃ g, a = some ⟨g, 0, none⟩ ∧ LR S w g w ds ∧ ds.length ≤ c := by
  have hp : 0 < ds.length := List.length_pos_iff.2 h0
  have h1 : w.ownsRow S RL.T RL.K (.slice a n c) ds.length (gflat RL ds) := h
  rw [← hn] at h1
  rcases h1.2 with ⟨_, h2⟩ | ⟨g, cap, cur, h7, h8, h9, h10, _⟩
  · omega
  · simp only [Value.slice.injEq] at h7
    obtain ⟨rfl, _, rfl⟩ := h7
    have hz := Gs_of_own (R := RL) h1
    have hg : g < w.heap.size := (h1.lt g rfl).2
    refine ⟨g, rfl, ⟨Below.refl _ _, fun i hi => ?_, fun k => World.ownsRow.frozenAt h1 k, h8, hg⟩, by omega⟩
    have h2 : Gs RL w (.slice (some ⟨g, 0, none⟩) ds.length c) ds := by rw [← hn]; exact hz.1
    have h3 := gc_three (Gs.all (R := RL) h2 hi).2
    rw [show 0 + i * RL.K = i * 3 by show 0 + i * 3 = i * 3; omega] at h3
    exact h3
theorem lr_ls {B : Nat} {w0 w : World} {g cap : Nat} {ds : List Lv} (h : LR B w0 g w ds) (hc : ds.length ≤ cap) : Ls w (.slice (some ⟨g, 0, none⟩) ds.length cap) ds :=
  .inr ⟨g, 0, cap, rfl, hc, h.lt, fun i hi => by
    have h3 := three_gc (h.row i hi)
    rw [show i * 3 = 0 + i * RL.K by show i * 3 = 0 + i * 3; omega] at h3
    exact h3⟩
theorem c3_set {w : World} {b o : Nat} {y : Lv} (h : C3 w b o y) (x : Lv) : C3 (((w.setCell ⟨b, o, none⟩ (.int .i64 x.1)).setCell ⟨b, o + 1, none⟩ (.int .i64 x.2.1)).setCell ⟨b, o + 2, none⟩ (.int .i64 x.2.2)) b o x := by
  obtain ⟨h0, h1, h2⟩ := h
  refine ⟨?_, ?_, ?_⟩ <;> simp [go_sem, h0, h1, h2]
theorem c3_off {w : World} {b o o' : Nat} {y : Lv} {u : Value} (h : C3 w b o y) (hn : o' < o ∨ o + 3 ≤ o') : C3 (w.setCell ⟨b, o', none⟩ u) b o y := by
  obtain ⟨h0, h1, h2⟩ := h
  have e : ∀ j, j < 3 → (w.setCell ⟨b, o', none⟩ u).cell? ⟨b, o + j, none⟩ = w.cell? ⟨b, o + j, none⟩ := fun j hj => World.cell?_setCell_other _ _ _ _ (by intro e; simp only [Addr.mk.injEq] at e; omega)
  exact ⟨(e 0 (by omega)).trans h0, (e 1 (by omega)).trans h1, (e 2 (by omega)).trans h2⟩
theorem LR.put {B : Nat} {w0 w : World} {g : Nat} {ds : List Lv} (h : LR B w0 g w ds) {k : Nat} (x : Lv) : LR B w0 g (((w.setCell ⟨g, k * 3, none⟩ (.int .i64 x.1)).setCell ⟨g, k * 3 + 1, none⟩ (.int .i64 x.2.1)).setCell ⟨g, k * 3 + 2, none⟩ (.int .i64 x.2.2)) (ds.set k x) := by
  refine ⟨((h.bel.setCell (by exact h.hB) _).setCell (by exact h.hB) _).setCell (by exact h.hB) _, ?_, fun j => by simpa using h.fr j, h.hB, by simpa using h.lt⟩
  intro i hi
  rw [List.length_set] at hi
  by_cases e : k = i
  · subst e
    have e2 : (ds.set k x).getD k (0, 0, 0) = x := by simp [List.getD, hi]
    rw [e2]
    exact c3_set (h.row k hi) x
  · have e2 : (ds.set k x).getD i (0, 0, 0) = ds.getD i (0, 0, 0) := by simp [List.getD, e]
    rw [e2]
    exact c3_off (c3_off (c3_off (h.row i hi) (by omega)) (by omega)) (by omega)
/-- What is compacted so far: the first k; behind them all stands as it stood. -/
def Cpd (ls : List Lv) (j k : Nat) (cur : List Lv) : Prop := cur.length = ls.length ∧ k = (cpk ls j).length ∧ cur.take k = cpk ls j ∧ (∀ i, k ≤ i → i < ls.length → cur.getD i (0, 0, 0) = ls.getD i (0, 0, 0)) ∧ k ≤ j ∧ j ≤ ls.length
theorem Cpd.new {ls cur : List Lv} {j k : Nat} (h : Cpd ls j k cur) (hj : j < ls.length) (hne : ls.getD j (0, 0, 0) ≠ ls.getD (j - 1) (0, 0, 0)) : Cpd ls (j + 1) (k + 1) (cur.set k (ls.getD j (0, 0, 0))) := by
  obtain ⟨h1, h2, h3, h4, h5, h6⟩ := h
  refine ⟨by rw [List.length_set]; exact h1, by rw [cpk_new hne, List.length_append, ← h2]; rfl, ?_, fun i hi hl => ?_, by omega, by omega⟩
  · rw [cpk_new hne, ← h3, List.take_add_one, List.take_set_of_le (by omega)]
    simp [show k < cur.length by omega]
  · rw [← h4 i (by omega) hl]
    simp [List.getD, show k ≠ i by omega]
theorem Cpd.old {ls cur : List Lv} {j k : Nat} (h : Cpd ls j k cur) (hj : j < ls.length) (h0 : 0 < j) (he : ls.getD j (0, 0, 0) = ls.getD (j - 1) (0, 0, 0)) : Cpd ls (j + 1) k cur := by
  obtain ⟨h1, h2, h3, h4, h5, h6⟩ := h
  exact ⟨h1, by rw [cpk_old h0 he]; exact h2, by rw [cpk_old h0 he]; exact h3, h4, by omega, by omega⟩
theorem cpk_all {ls : List Lv} : ∀ {k : Nat}, k ≤ ls.length → (∀ i, 0 < i → i < k → ls.getD i (0, 0, 0) ≠ ls.getD (i - 1) (0, 0, 0)) → cpk ls k = ls.take k
  | 0, _, _ => by simp [cpk]
  | k + 1, hk, h => by
    have ih := cpk_all (k := k) (by omega) (fun i h1 h2 => h i h1 (by omega))
    rw [cpk, if_pos, ih, List.take_add_one]
    · simp [List.getD, show k < ls.length by omega]
    · rcases Nat.eq_zero_or_pos k with h1 | h1
      · exact .inl h1
      · exact .inr (h k h1 (by omega))
theorem cells_agg (z : Value) (n : Nat) (hz : ∀ u ∈ z.cells, u.oneCell' = true) : ∀ u ∈ (Builtin.zeroCells z.cells n).toList, u.oneCell' = true := by
  intro u hu
  rw [Array.mem_toList_iff, Builtin.zeroCells, Array.mem_map] at hu
  obtain ⟨i, hi, rfl⟩ := hu
  rw [Array.mem_range] at hi
  have h0 : 0 < z.cells.size := by
    rcases Nat.eq_zero_or_pos z.cells.size with h | h
    · rw [h] at hi; omega
    · exact h
  rw [getElem!_pos z.cells (i % z.cells.size) (Nat.mod_lt _ h0)]
  exact hz _ (Array.getElem_mem _)
/-- What lies behind the first k is cleared. -/
theorem run_clear_lr {B : Nat} {w0 w : World} {g : Nat} {cur : List Lv} (h : LR B w0 g w cur) (ty : TypeId) (k m c : Nat) (hm : 0 < m) (hk : k + m = cur.length) :
    ∃ w', (Builtin.clear_ #[34] ty #[.slice (some ⟨g, k * 3, none⟩) m c]).run Try.prog w = .ok (.tuple #[]) w' ∧ LR B w0 g w' (cur.take k) := by
  obtain ⟨zc, hzc⟩ : ∃ zc, Builtin.zeroCells (Value.agg #[.int .i64 0, .int .i64 0, .int .i64 0]).cells m = zc := ⟨_, rfl⟩
  have hzs : zc.toList.length = m * 3 := by rw [← hzc, Array.length_toList, size_zeroCells]; rfl
  have hzo : ∀ v ∈ zc.toList, v.oneCell' = true := by
    rw [← hzc]
    exact cells_agg (.agg #[.int .i64 0, .int .i64 0, .int .i64 0]) m (by decide)
  have hst := run_storeCells_cells (P := Try.prog) g (k * 3) zc.toList 0 w (fun j hj => by
    rw [hzs] at hj
    have h1 := h.row (k + j / 3) (by omega)
    have e : k * 3 + 0 + j = (k + j / 3) * 3 + j % 3 := by omega
    rw [e]
    obtain ⟨c0, c1, c2⟩ := h1
    have h3 : j % 3 = 0 ∨ j % 3 = 1 ∨ j % 3 = 2 := by omega
    rcases h3 with h3 | h3 | h3 <;> rw [h3]
    · rw [Nat.add_zero, c0]; rfl
    · rw [c1]; rfl
    · rw [c2]; rfl) (fun j _ => h.fr _) hzo
  rw [Nat.add_zero] at hst
  refine ⟨w.setCells g (k * 3) zc.toList, by
    obtain ⟨m', rfl⟩ : ∃ m', m = m' + 1 := ⟨m - 1, by omega⟩
    simp [Builtin.clear_, hzc, hst, run_underlying underRL], bel_setCells g h.hB _ _ _ h.bel, fun i hi => ?_, fun j => by rw [World.frozen?_setCells]; exact h.fr j, h.hB, by rw [setCells_size]; exact h.lt⟩
  rw [List.length_take] at hi
  have e2 : (cur.take k).getD i (0, 0, 0) = cur.getD i (0, 0, 0) := by simp [List.getD, show i < k by omega]
  rw [e2]
  obtain ⟨c0, c1, c2⟩ := h.row i (by omega)
  have e : ∀ j, j < 3 → (w.setCells g (k * 3) zc.toList).cell? ⟨g, i * 3 + j, none⟩ = w.cell? ⟨g, i * 3 + j, none⟩ := fun j hj => World.cell?_setCells_out g _ _ w _ (fun _ _ => .inl (by show i * 3 + j < k * 3; omega))
  exact ⟨(e 0 (by omega)).trans c0, (e 1 (by omega)).trans c1, (e 2 (by omega)).trans c2⟩
end Go.Proofs.Ytmimgpnogjgliaa

namespace Go.Proofs.Ytmimgpnogjgliaa
set_option maxRecDepth 100000
open Go.RowKit

set_option maxHeartbeats 8000000 in
theorem lcomp_any (g cap n : Nat) (ls : List Lv) (B : Nat) (w0 w : World) (h : LR B w0 g w ls) (hn : n = ls.length) (hbig : n ≤ 1000) (hcap : n ≤ cap) :
    Calls Try.prog 40 #[.slice (some ⟨g, 0, none⟩) n cap] w fun e w' => ∃ m, e = .returned (.slice (some ⟨g, 0, none⟩) m cap) ∧ m = (cpk ls n).length ∧ LR B w0 g w' (cpk ls n) := by
  have H := Lib.hid h
  have HN := Lib.hid hn
  clear h hn
  by_cases h2 : n < 2
  · have h2z : (n : Int) < 2 := by omega
    have hk := cpk_all (ls := ls) (k := n) (by rw [← HN.out]; exact Nat.le_refl _) (fun i h1 h3 => by omega)
    rw [HN.out, List.take_length, ← HN.out] at hk
    have HK := Lib.hid hk
    clear hk h2
    go_enter Try.func40, Try.ntmps40
    go_wp2_with fail
    go_ret
    exact ⟨n, rfl, by rw [HK.out]; exact HN.out, by rw [HK.out]; exact H.out⟩
  · have h2z : ¬ (n : Int) < 2 := by omega
    go_enter Try.func40, Try.ntmps40
    go_wp2_with fail
    go_loopw [3] (fun kv wr => ∃ k : Nat, kv = .int .i64 k ∧ 1 ≤ k ∧ k ≤ n ∧ Hid (LR B w0 g wr ls) ∧ Hid (∀ i, 0 < i → i < k → ls.getD i (0, 0, 0) ≠ ls.getD (i - 1) (0, 0, 0))) (fun kv _ => n - (intOf kv).toNat)
    case atStart => exact ⟨1, rfl, Nat.le_refl _, by omega, H.out, fun i h1 h3 => by omega⟩
    case round =>
      obtain ⟨k, rfl, hk1, hkn, HS, HD⟩ := hrel
      clear H
      by_cases hlt : k < n
      · have hltz : (k : Int) < (n : Int) := by omega
        obtain ⟨jN, hjN⟩ : ∃ jN, jN = k - 1 := ⟨_, rfl⟩
        obtain ⟨x, hx⟩ : ∃ x, ls.getD k (0, 0, 0) = x := ⟨_, rfl⟩
        obtain ⟨y, hy⟩ : ∃ y, ls.getD jN (0, 0, 0) = y := ⟨_, rfl⟩
        have k1 := HS.out.row k (by have := HN.out; omega)
        have k2 := HS.out.row jN (by have := HN.out; omega)
        rw [hx] at k1
        rw [hy] at k2
        have kc : ∀ w', Below wr.heap.size wr w' → (w'.cell? ⟨g, k * 3, none⟩ = some (.int .i64 x.1) ∧ w'.cell? ⟨g, k * 3 + 1, none⟩ = some (.int .i64 x.2.1) ∧ w'.cell? ⟨g, k * 3 + 2, none⟩ = some (.int .i64 x.2.2)) ∧ (w'.cell? ⟨g, jN * 3, none⟩ = some (.int .i64 y.1) ∧ w'.cell? ⟨g, jN * 3 + 1, none⟩ = some (.int .i64 y.2.1) ∧ w'.cell? ⟨g, jN * 3 + 2, none⟩ = some (.int .i64 y.2.2)) := fun w' hb => ⟨k1.below hb HS.out.lt, k2.below hb HS.out.lt⟩
        have b1 : (k : Int) < (n : Int) := by omega
        have b2 : (jN : Int) < (n : Int) := by omega
        have r1 : IntKind.i64.wrap ((k : Int) - 1) = (jN : Int) := by rw [IntKind.wrap_i64]; omega
        have r2 : IntKind.i64.wrap ((k : Int) + 1) = (k : Int) + 1 := by rw [IntKind.wrap_i64]; omega
        have HX := Lib.hid hx
        have HY := Lib.hid hy
        have HJ := Lib.hid hjN
        clear hx hy hjN k1 k2
        by_cases he : x = y
        · have HE := Lib.hid he
          have hIf : ∀ {α : Type} (X Y : α), (if x.1 = y.1 then if x.2.1 = y.2.1 then if x.2.2 = y.2.2 then X else Y else Y else Y) = X := by
            intro α X Y
            obtain ⟨h1, h2, h3⟩ : x.1 = y.1 ∧ x.2.1 = y.2.1 ∧ x.2.2 = y.2.2 := by rw [he]; exact ⟨rfl, rfl, rfl⟩
            rw [if_pos h1, if_pos h2, if_pos h3]
          clear he
          go_upto_region 6 with (fail)
          refine wp_region_typed (C := fun w' => Below wr.heap.size wr w') (X := fun w w' => Below w.heap.size w w') (n := 61) (by kernel_rfl) (by kernel_rfl) rfl (fun w => Below.refl _ w) (Below.refl _ _).drew ?_
          refine w_is (fun w => Below.refl _ w) _ (.inl rfl) (fun ρ w hC hc hfn hf => by have e0 : ρ (.tmp 0) = _ := hf 0 (by decide); (conv => lhs; simp [execOp, go_sem, hc, e0])) ?_
          refine w_is (fun w => Below.refl _ w) _ (.inl rfl) (fun ρ w hC hc hfn hf => by have e3 : ρ (.tmp 3) = _ := hf 3 (by decide); (conv => lhs; simp [execOp, go_sem, hc, e3])) ?_
          refine w_is (fun w => Below.refl _ w) _ (.inl rfl) (fun ρ w hC hc hfn hf => by have e16 : ρ (.tmp 16) = _ := hf 16 (by decide); have e17 : ρ (.tmp 17) = _ := hf 17 (by decide); (conv => lhs; simp [execOp, go_sem, hc, e16, e17, b1])) ?_
          refine w_is (fun w => Below.refl _ w) _ (.inl rfl) (fun ρ w hC hc hfn hf => by have e18 : ρ (.tmp 18) = _ := hf 18 (by decide); (conv => lhs; simp [execOp, go_sem, hc, e18, kc w hC])) ?_
          refine w_is (fun w => Below.refl _ w) _ (.inl rfl) (fun ρ w hC hc hfn hf => by have e0 : ρ (.tmp 0) = _ := hf 0 (by decide); (conv => lhs; simp [execOp, go_sem, hc, e0])) ?_
          refine w_is (fun w => Below.refl _ w) _ (.inl rfl) (fun ρ w hC hc hfn hf => by have e3 : ρ (.tmp 3) = _ := hf 3 (by decide); (conv => lhs; simp [execOp, go_sem, hc, e3])) ?_
          refine w_is (fun w => Below.refl _ w) _ (.inl rfl) (fun ρ w hC hc hfn hf => by have e21 : ρ (.tmp 21) = _ := hf 21 (by decide); (conv => lhs; simp [execOp, go_sem, hc, e21, r1])) ?_
          refine w_is (fun w => Below.refl _ w) _ (.inl rfl) (fun ρ w hC hc hfn hf => by have e20 : ρ (.tmp 20) = _ := hf 20 (by decide); have e22 : ρ (.tmp 22) = _ := hf 22 (by decide); (conv => lhs; simp [execOp, go_sem, hc, e20, e22, b2])) ?_
          refine w_is (fun w => Below.refl _ w) _ (.inl rfl) (fun ρ w hC hc hfn hf => by have e23 : ρ (.tmp 23) = _ := hf 23 (by decide); (conv => lhs; simp [execOp, go_sem, hc, e23, kc w hC])) ?_
          refine w_is (fun w => Below.refl _ w) _ (.inl rfl) (fun ρ w hC hc hfn hf => by have e19 : ρ (.tmp 19) = _ := hf 19 (by decide); have e24 : ρ (.tmp 24) = _ := hf 24 (by decide); (conv => lhs; simp [execOp, go_sem, hc, e19, e24, hIf, guard25])) ?_
          intro A V5 hC hn hd hf
          have y0 : A.eval (.tmp 0) = _ := Eq.trans (hf 0) (by conv => lhs; simp [go_sem])
          have y1 : A.eval (.tmp 1) = _ := Eq.trans (hf 1) (by conv => lhs; simp [go_sem])
          have y2 : A.eval (.tmp 2) = _ := Eq.trans (hf 2) (by conv => lhs; simp [go_sem])
          have y3 : A.eval (.tmp 3) = _ := Eq.trans (hf 3) (by conv => lhs; simp [go_sem])
          have y4 : A.eval (.tmp 4) = _ := Eq.trans (hf 4) (by conv => lhs; simp [go_sem])
          have y5 : A.eval (.tmp 5) = _ := Eq.trans (hf 5) (by conv => lhs; simp [go_sem])
          have y6 : A.eval (.tmp 6) = _ := Eq.trans (hf 6) (by conv => lhs; simp [go_sem])
          have y7 : A.eval (.tmp 7) = _ := Eq.trans (hf 7) (by conv => lhs; simp [go_sem])
          have y8 : A.eval (.tmp 8) = _ := Eq.trans (hf 8) (by conv => lhs; simp [go_sem])
          have y9 : A.eval (.tmp 9) = _ := Eq.trans (hf 9) (by conv => lhs; simp [go_sem])
          have y10 : A.eval (.tmp 10) = _ := Eq.trans (hf 10) (by conv => lhs; simp [go_sem])
          have y11 : A.eval (.tmp 11) = _ := Eq.trans (hf 11) (by conv => lhs; simp [go_sem])
          have y12 : A.eval (.tmp 12) = _ := Eq.trans (hf 12) (by conv => lhs; simp [go_sem])
          have y13 : A.eval (.tmp 13) = _ := Eq.trans (hf 13) (by conv => lhs; simp [go_sem])
          have y14 : A.eval (.tmp 14) = _ := Eq.trans (hf 14) (by conv => lhs; simp [go_sem])
          have y15 : A.eval (.tmp 15) = _ := Eq.trans (hf 15) (by conv => lhs; simp [go_sem])
          have y16 : A.eval (.tmp 16) = _ := hf 16
          have y17 : A.eval (.tmp 17) = _ := hf 17
          have y18 : A.eval (.tmp 18) = _ := hf 18
          have y19 : A.eval (.tmp 19) = _ := hf 19
          have y20 : A.eval (.tmp 20) = _ := hf 20
          have y21 : A.eval (.tmp 21) = _ := hf 21
          have y22 : A.eval (.tmp 22) = _ := hf 22
          have y23 : A.eval (.tmp 23) = _ := hf 23
          have y24 : A.eval (.tmp 24) = _ := hf 24
          have y25 : A.eval (.tmp 25) = _ := hf 25
          have y26 : A.eval (.tmp 26) = _ := Eq.trans (hf 26) (by conv => lhs; simp [go_sem])
          have y27 : A.eval (.tmp 27) = _ := Eq.trans (hf 27) (by conv => lhs; simp [go_sem])
          have y28 : A.eval (.tmp 28) = _ := Eq.trans (hf 28) (by conv => lhs; simp [go_sem])
          have y29 : A.eval (.tmp 29) = _ := Eq.trans (hf 29) (by conv => lhs; simp [go_sem])
          have y30 : A.eval (.tmp 30) = _ := Eq.trans (hf 30) (by conv => lhs; simp [go_sem])
          have y31 : A.eval (.tmp 31) = _ := Eq.trans (hf 31) (by conv => lhs; simp [go_sem])
          have y32 : A.eval (.tmp 32) = _ := Eq.trans (hf 32) (by conv => lhs; simp [go_sem])
          have y33 : A.eval (.tmp 33) = _ := Eq.trans (hf 33) (by conv => lhs; simp [go_sem])
          have y34 : A.eval (.tmp 34) = _ := Eq.trans (hf 34) (by conv => lhs; simp [go_sem])
          have y35 : A.eval (.tmp 35) = _ := Eq.trans (hf 35) (by conv => lhs; simp [go_sem])
          have y36 : A.eval (.tmp 36) = _ := Eq.trans (hf 36) (by conv => lhs; simp [go_sem])
          have y37 : A.eval (.tmp 37) = _ := Eq.trans (hf 37) (by conv => lhs; simp [go_sem])
          have y38 : A.eval (.tmp 38) = _ := Eq.trans (hf 38) (by conv => lhs; simp [go_sem])
          have y39 : A.eval (.tmp 39) = _ := Eq.trans (hf 39) (by conv => lhs; simp [go_sem])
          have y40 : A.eval (.tmp 40) = _ := Eq.trans (hf 40) (by conv => lhs; simp [go_sem])
          have y41 : A.eval (.tmp 41) = _ := Eq.trans (hf 41) (by conv => lhs; simp [go_sem])
          have y42 : A.eval (.tmp 42) = _ := Eq.trans (hf 42) (by conv => lhs; simp [go_sem])
          have y43 : A.eval (.tmp 43) = _ := Eq.trans (hf 43) (by conv => lhs; simp [go_sem])
          have y44 : A.eval (.tmp 44) = _ := Eq.trans (hf 44) (by conv => lhs; simp [go_sem])
          have y45 : A.eval (.tmp 45) = _ := Eq.trans (hf 45) (by conv => lhs; simp [go_sem])
          have y46 : A.eval (.tmp 46) = _ := Eq.trans (hf 46) (by conv => lhs; simp [go_sem])
          have y47 : A.eval (.tmp 47) = _ := Eq.trans (hf 47) (by conv => lhs; simp [go_sem])
          have y48 : A.eval (.tmp 48) = _ := Eq.trans (hf 48) (by conv => lhs; simp [go_sem])
          have y49 : A.eval (.tmp 49) = _ := Eq.trans (hf 49) (by conv => lhs; simp [go_sem])
          have y50 : A.eval (.tmp 50) = _ := Eq.trans (hf 50) (by conv => lhs; simp [go_sem])
          have y51 : A.eval (.tmp 51) = _ := Eq.trans (hf 51) (by conv => lhs; simp [go_sem])
          have y52 : A.eval (.tmp 52) = _ := Eq.trans (hf 52) (by conv => lhs; simp [go_sem])
          have y53 : A.eval (.tmp 53) = _ := Eq.trans (hf 53) (by conv => lhs; simp [go_sem])
          have y54 : A.eval (.tmp 54) = _ := Eq.trans (hf 54) (by conv => lhs; simp [go_sem])
          have y55 : A.eval (.tmp 55) = _ := Eq.trans (hf 55) (by conv => lhs; simp [go_sem])
          have y56 : A.eval (.tmp 56) = _ := Eq.trans (hf 56) (by conv => lhs; simp [go_sem])
          have y57 : A.eval (.tmp 57) = _ := Eq.trans (hf 57) (by conv => lhs; simp [go_sem])
          have y58 : A.eval (.tmp 58) = _ := Eq.trans (hf 58) (by conv => lhs; simp [go_sem])
          have y59 : A.eval (.tmp 59) = _ := Eq.trans (hf 59) (by conv => lhs; simp [go_sem])
          have y60 : A.eval (.tmp 60) = _ := Eq.trans (hf 60) (by conv => lhs; simp [go_sem])
          clear hf
          have hA := frame_eq hn
          rw [show List.range 61 = [0, 1, 2, 3, 4, 5, 6, 7, 8, 9, 10, 11, 12, 13, 14, 15, 16, 17, 18, 19, 20, 21, 22, 23, 24, 25, 26, 27, 28, 29, 30, 31, 32, 33, 34, 35, 36, 37, 38, 39, 40, 41, 42, 43, 44, 45, 46, 47, 48, 49, 50, 51, 52, 53, 54, 55, 56, 57, 58, 59, 60] from rfl, hd] at hA
          simp only [List.map_cons, List.map_nil, y0, y1, y2, y3, y4, y5, y6, y7, y8, y9, y10, y11, y12, y13, y14, y15, y16, y17, y18, y19, y20, y21, y22, y23, y24, y25, y26, y27, y28, y29, y30, y31, y32, y33, y34, y35, y36, y37, y38, y39, y40, y41, y42, y43, y44, y45, y46, y47, y48, y49, y50, y51, y52, y53, y54, y55, y56, y57, y58, y59, y60] at hA
          clear y0 y1 y2 y3 y4 y5 y6 y7 y8 y9 y10 y11 y12 y13 y14 y15 y16 y17 y18 y19 y20 y21 y22 y23 y24 y25 y26 y27 y28 y29 y30 y31 y32 y33 y34 y35 y36 y37 y38 y39 y40 y41 y42 y43 y44 y45 y46 y47 y48 y49 y50 y51 y52 y53 y54 y55 y56 y57 y58 y59 y60
          clear hn hd
          subst hA
          have HS5 := Lib.hid (HS.out.low hC)
          clear HS hC kc hIf
          have hck : ¬ cap = k := by omega
          have g1 : k ≤ n := by omega
          have g2 : k ≤ cap := by omega
          have g3 : n ≤ cap := hcap
          go_upto_region 8 with (fail)
          obtain ⟨m, hm⟩ : ∃ m, n - k = m := ⟨_, rfl⟩
          obtain ⟨c2, hc2⟩ : ∃ c2, cap - k = c2 := ⟨_, rfl⟩
          rw [hm, hc2]
          have HM := Lib.hid hm
          have hcp : Cpd ls (k + 1) k ls := by
            have h9 := cpk_all (ls := ls) (k := k) (by have := HN.out; omega) HD.out
            refine Cpd.old (j := k) ⟨rfl, ?_, h9.symm, fun i _ _ => rfl, Nat.le_refl _, by have := HN.out; omega⟩ (by have := HN.out; omega) hk1 (by rw [HX.out, ← HJ.out, HY.out]; exact HE.out)
            rw [h9, List.length_take]
            have := HN.out
            omega
          have HCP := Lib.hid hcp
          clear hm hc2 hck g1 g2 g3 hcp b1 b2 r1 r2 HX HY HE HJ HD hltz
          go_wp2_with fail
          go_loopw [3, 5] (fun kv qv wr => ∃ (p q : Nat) (cur : List Lv), kv = .int .i64 p ∧ qv = .int .i64 q ∧ 1 ≤ q ∧ q ≤ m ∧ p + 1 ≤ k + q ∧ Hid (Cpd ls (k + q) p cur) ∧ Hid (LR B w0 g wr cur)) (fun _ qv _ => m - (intOf qv).toNat)
          case atStart => exact ⟨k, 1, ls, rfl, rfl, Nat.le_refl _, by have := HM.out; omega, Nat.le_refl _, HCP, HS5⟩
          case round =>
            obtain ⟨p, q, cur, rfl, rfl, hq1, hqm, hpk, HC, HS⟩ := hrel
            clear HS5 HCP
            by_cases hlt2 : q < m
            · have hltz : (q : Int) < (m : Int) := by omega
              have hin : k + q < ls.length := by have := HN.out; have := HM.out; omega
              obtain ⟨jN, hjN⟩ : ∃ jN, jN = q - 1 := ⟨_, rfl⟩
              obtain ⟨x, hx⟩ : ∃ x, ls.getD (k + q) (0, 0, 0) = x := ⟨_, rfl⟩
              obtain ⟨y, hy⟩ : ∃ y, ls.getD (k + jN) (0, 0, 0) = y := ⟨_, rfl⟩
              have k1 := HS.out.row (k + q) (by rw [HC.out.1]; exact hin)
              have k2 := HS.out.row (k + jN) (by rw [HC.out.1]; omega)
              rw [HC.out.2.2.2.1 _ (by omega) hin, hx, show (k + q) * 3 = k * 3 + q * 3 by omega] at k1
              rw [HC.out.2.2.2.1 _ (by omega) (by omega), hy, show (k + jN) * 3 = k * 3 + jN * 3 by omega] at k2
              have kc : ∀ w', Below wr.heap.size wr w' → (w'.cell? ⟨g, k * 3 + q * 3, none⟩ = some (.int .i64 x.1) ∧ w'.cell? ⟨g, k * 3 + q * 3 + 1, none⟩ = some (.int .i64 x.2.1) ∧ w'.cell? ⟨g, k * 3 + q * 3 + 2, none⟩ = some (.int .i64 x.2.2)) ∧ (w'.cell? ⟨g, k * 3 + jN * 3, none⟩ = some (.int .i64 y.1) ∧ w'.cell? ⟨g, k * 3 + jN * 3 + 1, none⟩ = some (.int .i64 y.2.1) ∧ w'.cell? ⟨g, k * 3 + jN * 3 + 2, none⟩ = some (.int .i64 y.2.2)) := fun w' hb => ⟨k1.below hb HS.out.lt, k2.below hb HS.out.lt⟩
              have b1 : (q : Int) < (m : Int) := by omega
              have b2 : (jN : Int) < (m : Int) := by omega
              have r1 : IntKind.i64.wrap ((q : Int) - 1) = (jN : Int) := by rw [IntKind.wrap_i64]; have := HM.out; omega
              have r2 : IntKind.i64.wrap ((q : Int) + 1) = (q : Int) + 1 := by rw [IntKind.wrap_i64]; have := HM.out; omega
              have HX := Lib.hid hx
              have HY := Lib.hid (show ls.getD (k + q - 1) (0, 0, 0) = y by rw [← hy, hjN]; congr 1; omega)
              clear hx hy hjN k1 k2
              by_cases he : x = y
              · have hcp2 : Cpd ls (k + q + 1) p cur := HC.out.old hin (by omega) (by rw [HX.out, HY.out]; exact he)
                have HCP2 := Lib.hid hcp2
                have hIf : ∀ {α : Type} (X Y : α), (if x.1 = y.1 then if x.2.1 = y.2.1 then if x.2.2 = y.2.2 then X else Y else Y else Y) = X := by
                  intro α X Y
                  obtain ⟨h1, h2, h3⟩ : x.1 = y.1 ∧ x.2.1 = y.2.1 ∧ x.2.2 = y.2.2 := by rw [he]; exact ⟨rfl, rfl, rfl⟩
                  rw [if_pos h1, if_pos h2, if_pos h3]
                clear he hcp2
                go_upto_region 11 with (fail)
                refine wp_region_typed (C := fun w' => Below wr.heap.size wr w') (X := fun w w' => Below w.heap.size w w') (n := 61) (by kernel_rfl) (by kernel_rfl) rfl (fun w => Below.refl _ w) (Below.refl _ _).drew ?_
                refine w_is (fun w => Below.refl _ w) _ (.inl rfl) (fun ρ w hC hc hfn hf => by have e4 : ρ (.tmp 4) = _ := hf 4 (by decide); (conv => lhs; simp [execOp, go_sem, hc, e4])) ?_
                refine w_is (fun w => Below.refl _ w) _ (.inl rfl) (fun ρ w hC hc hfn hf => by have e5 : ρ (.tmp 5) = _ := hf 5 (by decide); (conv => lhs; simp [execOp, go_sem, hc, e5])) ?_
                refine w_is (fun w => Below.refl _ w) _ (.inl rfl) (fun ρ w hC hc hfn hf => by have e35 : ρ (.tmp 35) = _ := hf 35 (by decide); have e36 : ρ (.tmp 36) = _ := hf 36 (by decide); (conv => lhs; simp [execOp, go_sem, hc, e35, e36, b1])) ?_
                refine w_is (fun w => Below.refl _ w) _ (.inl rfl) (fun ρ w hC hc hfn hf => by have e37 : ρ (.tmp 37) = _ := hf 37 (by decide); (conv => lhs; simp [execOp, go_sem, hc, e37, kc w hC])) ?_
                refine w_is (fun w => Below.refl _ w) _ (.inl rfl) (fun ρ w hC hc hfn hf => by have e4 : ρ (.tmp 4) = _ := hf 4 (by decide); (conv => lhs; simp [execOp, go_sem, hc, e4])) ?_
                refine w_is (fun w => Below.refl _ w) _ (.inl rfl) (fun ρ w hC hc hfn hf => by have e5 : ρ (.tmp 5) = _ := hf 5 (by decide); (conv => lhs; simp [execOp, go_sem, hc, e5])) ?_
                refine w_is (fun w => Below.refl _ w) _ (.inl rfl) (fun ρ w hC hc hfn hf => by have e40 : ρ (.tmp 40) = _ := hf 40 (by decide); (conv => lhs; simp [execOp, go_sem, hc, e40, r1])) ?_
                refine w_is (fun w => Below.refl _ w) _ (.inl rfl) (fun ρ w hC hc hfn hf => by have e39 : ρ (.tmp 39) = _ := hf 39 (by decide); have e41 : ρ (.tmp 41) = _ := hf 41 (by decide); (conv => lhs; simp [execOp, go_sem, hc, e39, e41, b2])) ?_
                refine w_is (fun w => Below.refl _ w) _ (.inl rfl) (fun ρ w hC hc hfn hf => by have e42 : ρ (.tmp 42) = _ := hf 42 (by decide); (conv => lhs; simp [execOp, go_sem, hc, e42, kc w hC])) ?_
                refine w_is (fun w => Below.refl _ w) _ (.inl rfl) (fun ρ w hC hc hfn hf => by have e38 : ρ (.tmp 38) = _ := hf 38 (by decide); have e43 : ρ (.tmp 43) = _ := hf 43 (by decide); (conv => lhs; simp [execOp, go_sem, hc, e38, e43, hIf, guard25])) ?_
                intro A V5 hC hn hd hf
                have y0 : A.eval (.tmp 0) = _ := Eq.trans (hf 0) (by conv => lhs; simp [go_sem])
                have y1 : A.eval (.tmp 1) = _ := Eq.trans (hf 1) (by conv => lhs; simp [go_sem])
                have y2 : A.eval (.tmp 2) = _ := Eq.trans (hf 2) (by conv => lhs; simp [go_sem])
                have y3 : A.eval (.tmp 3) = _ := Eq.trans (hf 3) (by conv => lhs; simp [go_sem])
                have y4 : A.eval (.tmp 4) = _ := Eq.trans (hf 4) (by conv => lhs; simp [go_sem])
                have y5 : A.eval (.tmp 5) = _ := Eq.trans (hf 5) (by conv => lhs; simp [go_sem])
                have y6 : A.eval (.tmp 6) = _ := Eq.trans (hf 6) (by conv => lhs; simp [go_sem])
                have y7 : A.eval (.tmp 7) = _ := Eq.trans (hf 7) (by conv => lhs; simp [go_sem])
                have y8 : A.eval (.tmp 8) = _ := Eq.trans (hf 8) (by conv => lhs; simp [go_sem])
                have y9 : A.eval (.tmp 9) = _ := Eq.trans (hf 9) (by conv => lhs; simp [go_sem])
                have y10 : A.eval (.tmp 10) = _ := Eq.trans (hf 10) (by conv => lhs; simp [go_sem])
                have y11 : A.eval (.tmp 11) = _ := Eq.trans (hf 11) (by conv => lhs; simp [go_sem])
                have y12 : A.eval (.tmp 12) = _ := Eq.trans (hf 12) (by conv => lhs; simp [go_sem])
                have y13 : A.eval (.tmp 13) = _ := Eq.trans (hf 13) (by conv => lhs; simp [go_sem])
                have y14 : A.eval (.tmp 14) = _ := Eq.trans (hf 14) (by conv => lhs; simp [go_sem])
                have y15 : A.eval (.tmp 15) = _ := Eq.trans (hf 15) (by conv => lhs; simp [go_sem])
                have y16 : A.eval (.tmp 16) = _ := Eq.trans (hf 16) (by conv => lhs; simp [go_sem])
                have y17 : A.eval (.tmp 17) = _ := Eq.trans (hf 17) (by conv => lhs; simp [go_sem])
                have y18 : A.eval (.tmp 18) = _ := Eq.trans (hf 18) (by conv => lhs; simp [go_sem])
                have y19 : A.eval (.tmp 19) = _ := Eq.trans (hf 19) (by conv => lhs; simp [go_sem])
                have y20 : A.eval (.tmp 20) = _ := Eq.trans (hf 20) (by conv => lhs; simp [go_sem])
                have y21 : A.eval (.tmp 21) = _ := Eq.trans (hf 21) (by conv => lhs; simp [go_sem])
                have y22 : A.eval (.tmp 22) = _ := Eq.trans (hf 22) (by conv => lhs; simp [go_sem])
                have y23 : A.eval (.tmp 23) = _ := Eq.trans (hf 23) (by conv => lhs; simp [go_sem])
                have y24 : A.eval (.tmp 24) = _ := Eq.trans (hf 24) (by conv => lhs; simp [go_sem])
                have y25 : A.eval (.tmp 25) = _ := Eq.trans (hf 25) (by conv => lhs; simp [go_sem])
                have y26 : A.eval (.tmp 26) = _ := Eq.trans (hf 26) (by conv => lhs; simp [go_sem])
                have y27 : A.eval (.tmp 27) = _ := Eq.trans (hf 27) (by conv => lhs; simp [go_sem])
                have y28 : A.eval (.tmp 28) = _ := Eq.trans (hf 28) (by conv => lhs; simp [go_sem])
                have y29 : A.eval (.tmp 29) = _ := Eq.trans (hf 29) (by conv => lhs; simp [go_sem])
                have y30 : A.eval (.tmp 30) = _ := Eq.trans (hf 30) (by conv => lhs; simp [go_sem])
                have y31 : A.eval (.tmp 31) = _ := Eq.trans (hf 31) (by conv => lhs; simp [go_sem])
                have y32 : A.eval (.tmp 32) = _ := Eq.trans (hf 32) (by conv => lhs; simp [go_sem])
                have y33 : A.eval (.tmp 33) = _ := Eq.trans (hf 33) (by conv => lhs; simp [go_sem])
                have y34 : A.eval (.tmp 34) = _ := Eq.trans (hf 34) (by conv => lhs; simp [go_sem])
                have y35 : A.eval (.tmp 35) = _ := hf 35
                have y36 : A.eval (.tmp 36) = _ := hf 36
                have y37 : A.eval (.tmp 37) = _ := hf 37
                have y38 : A.eval (.tmp 38) = _ := hf 38
                have y39 : A.eval (.tmp 39) = _ := hf 39
                have y40 : A.eval (.tmp 40) = _ := hf 40
                have y41 : A.eval (.tmp 41) = _ := hf 41
                have y42 : A.eval (.tmp 42) = _ := hf 42
                have y43 : A.eval (.tmp 43) = _ := hf 43
                have y44 : A.eval (.tmp 44) = _ := hf 44
                have y45 : A.eval (.tmp 45) = _ := Eq.trans (hf 45) (by conv => lhs; simp [go_sem])
                have y46 : A.eval (.tmp 46) = _ := Eq.trans (hf 46) (by conv => lhs; simp [go_sem])
                have y47 : A.eval (.tmp 47) = _ := Eq.trans (hf 47) (by conv => lhs; simp [go_sem])
                have y48 : A.eval (.tmp 48) = _ := Eq.trans (hf 48) (by conv => lhs; simp [go_sem])
                have y49 : A.eval (.tmp 49) = _ := Eq.trans (hf 49) (by conv => lhs; simp [go_sem])
                have y50 : A.eval (.tmp 50) = _ := Eq.trans (hf 50) (by conv => lhs; simp [go_sem])
                have y51 : A.eval (.tmp 51) = _ := Eq.trans (hf 51) (by conv => lhs; simp [go_sem])
                have y52 : A.eval (.tmp 52) = _ := Eq.trans (hf 52) (by conv => lhs; simp [go_sem])
                have y53 : A.eval (.tmp 53) = _ := Eq.trans (hf 53) (by conv => lhs; simp [go_sem])
                have y54 : A.eval (.tmp 54) = _ := Eq.trans (hf 54) (by conv => lhs; simp [go_sem])
                have y55 : A.eval (.tmp 55) = _ := Eq.trans (hf 55) (by conv => lhs; simp [go_sem])
                have y56 : A.eval (.tmp 56) = _ := Eq.trans (hf 56) (by conv => lhs; simp [go_sem])
                have y57 : A.eval (.tmp 57) = _ := Eq.trans (hf 57) (by conv => lhs; simp [go_sem])
                have y58 : A.eval (.tmp 58) = _ := Eq.trans (hf 58) (by conv => lhs; simp [go_sem])
                have y59 : A.eval (.tmp 59) = _ := Eq.trans (hf 59) (by conv => lhs; simp [go_sem])
                have y60 : A.eval (.tmp 60) = _ := Eq.trans (hf 60) (by conv => lhs; simp [go_sem])
                clear hf
                have hA := frame_eq hn
                rw [show List.range 61 = [0, 1, 2, 3, 4, 5, 6, 7, 8, 9, 10, 11, 12, 13, 14, 15, 16, 17, 18, 19, 20, 21, 22, 23, 24, 25, 26, 27, 28, 29, 30, 31, 32, 33, 34, 35, 36, 37, 38, 39, 40, 41, 42, 43, 44, 45, 46, 47, 48, 49, 50, 51, 52, 53, 54, 55, 56, 57, 58, 59, 60] from rfl, hd] at hA
                simp only [List.map_cons, List.map_nil, y0, y1, y2, y3, y4, y5, y6, y7, y8, y9, y10, y11, y12, y13, y14, y15, y16, y17, y18, y19, y20, y21, y22, y23, y24, y25, y26, y27, y28, y29, y30, y31, y32, y33, y34, y35, y36, y37, y38, y39, y40, y41, y42, y43, y44, y45, y46, y47, y48, y49, y50, y51, y52, y53, y54, y55, y56, y57, y58, y59, y60] at hA
                clear y0 y1 y2 y3 y4 y5 y6 y7 y8 y9 y10 y11 y12 y13 y14 y15 y16 y17 y18 y19 y20 y21 y22 y23 y24 y25 y26 y27 y28 y29 y30 y31 y32 y33 y34 y35 y36 y37 y38 y39 y40 y41 y42 y43 y44 y45 y46 y47 y48 y49 y50 y51 y52 y53 y54 y55 y56 y57 y58 y59 y60
                clear hn hd
                subst hA
                have HS6 := Lib.hid (HS.out.low hC)
                clear HS hC kc hIf
                go_wp2_with fail
                go_roundw
                case rel => exact ⟨p, q + 1, cur, rfl, by go_num, by omega, by omega, by omega, HCP2, HS6⟩
                case measure => simp [intOf]; omega
              · have hcp2 : Cpd ls (k + q + 1) (p + 1) (cur.set p x) := by
                  have := HC.out.new hin (by rw [HX.out, HY.out]; exact he)
                  rw [HX.out] at this
                  exact this
                have HCP2 := Lib.hid hcp2
                have hIf : ∀ {α : Type} (X Y : α), (if x.1 = y.1 then if x.2.1 = y.2.1 then if x.2.2 = y.2.2 then X else Y else Y else Y) = Y := by
                  intro α X Y
                  by_cases h1 : x.1 = y.1
                  · rw [if_pos h1]
                    by_cases h2 : x.2.1 = y.2.1
                    · rw [if_pos h2, if_neg (fun h3 => he (Prod.ext h1 (Prod.ext h2 h3)))]
                    · rw [if_neg h2]
                  · rw [if_neg h1]
                clear he hcp2
                go_upto_region 11 with (fail)
                refine wp_region_typed (C := fun w' => Below wr.heap.size wr w') (X := fun w w' => Below w.heap.size w w') (n := 61) (by kernel_rfl) (by kernel_rfl) rfl (fun w => Below.refl _ w) (Below.refl _ _).drew ?_
                refine w_is (fun w => Below.refl _ w) _ (.inl rfl) (fun ρ w hC hc hfn hf => by have e4 : ρ (.tmp 4) = _ := hf 4 (by decide); (conv => lhs; simp [execOp, go_sem, hc, e4])) ?_
                refine w_is (fun w => Below.refl _ w) _ (.inl rfl) (fun ρ w hC hc hfn hf => by have e5 : ρ (.tmp 5) = _ := hf 5 (by decide); (conv => lhs; simp [execOp, go_sem, hc, e5])) ?_
                refine w_is (fun w => Below.refl _ w) _ (.inl rfl) (fun ρ w hC hc hfn hf => by have e35 : ρ (.tmp 35) = _ := hf 35 (by decide); have e36 : ρ (.tmp 36) = _ := hf 36 (by decide); (conv => lhs; simp [execOp, go_sem, hc, e35, e36, b1])) ?_
                refine w_is (fun w => Below.refl _ w) _ (.inl rfl) (fun ρ w hC hc hfn hf => by have e37 : ρ (.tmp 37) = _ := hf 37 (by decide); (conv => lhs; simp [execOp, go_sem, hc, e37, kc w hC])) ?_
                refine w_is (fun w => Below.refl _ w) _ (.inl rfl) (fun ρ w hC hc hfn hf => by have e4 : ρ (.tmp 4) = _ := hf 4 (by decide); (conv => lhs; simp [execOp, go_sem, hc, e4])) ?_
                refine w_is (fun w => Below.refl _ w) _ (.inl rfl) (fun ρ w hC hc hfn hf => by have e5 : ρ (.tmp 5) = _ := hf 5 (by decide); (conv => lhs; simp [execOp, go_sem, hc, e5])) ?_
                refine w_is (fun w => Below.refl _ w) _ (.inl rfl) (fun ρ w hC hc hfn hf => by have e40 : ρ (.tmp 40) = _ := hf 40 (by decide); (conv => lhs; simp [execOp, go_sem, hc, e40, r1])) ?_
                refine w_is (fun w => Below.refl _ w) _ (.inl rfl) (fun ρ w hC hc hfn hf => by have e39 : ρ (.tmp 39) = _ := hf 39 (by decide); have e41 : ρ (.tmp 41) = _ := hf 41 (by decide); (conv => lhs; simp [execOp, go_sem, hc, e39, e41, b2])) ?_
                refine w_is (fun w => Below.refl _ w) _ (.inl rfl) (fun ρ w hC hc hfn hf => by have e42 : ρ (.tmp 42) = _ := hf 42 (by decide); (conv => lhs; simp [execOp, go_sem, hc, e42, kc w hC])) ?_
                refine w_is (fun w => Below.refl _ w) _ (.inl rfl) (fun ρ w hC hc hfn hf => by have e38 : ρ (.tmp 38) = _ := hf 38 (by decide); have e43 : ρ (.tmp 43) = _ := hf 43 (by decide); (conv => lhs; simp [execOp, go_sem, hc, e38, e43, hIf, guard25])) ?_
                intro A V5 hC hn hd hf
                have y0 : A.eval (.tmp 0) = _ := Eq.trans (hf 0) (by conv => lhs; simp [go_sem])
                have y1 : A.eval (.tmp 1) = _ := Eq.trans (hf 1) (by conv => lhs; simp [go_sem])
                have y2 : A.eval (.tmp 2) = _ := Eq.trans (hf 2) (by conv => lhs; simp [go_sem])
                have y3 : A.eval (.tmp 3) = _ := Eq.trans (hf 3) (by conv => lhs; simp [go_sem])
                have y4 : A.eval (.tmp 4) = _ := Eq.trans (hf 4) (by conv => lhs; simp [go_sem])
                have y5 : A.eval (.tmp 5) = _ := Eq.trans (hf 5) (by conv => lhs; simp [go_sem])
                have y6 : A.eval (.tmp 6) = _ := Eq.trans (hf 6) (by conv => lhs; simp [go_sem])
                have y7 : A.eval (.tmp 7) = _ := Eq.trans (hf 7) (by conv => lhs; simp [go_sem])
                have y8 : A.eval (.tmp 8) = _ := Eq.trans (hf 8) (by conv => lhs; simp [go_sem])
                have y9 : A.eval (.tmp 9) = _ := Eq.trans (hf 9) (by conv => lhs; simp [go_sem])
                have y10 : A.eval (.tmp 10) = _ := Eq.trans (hf 10) (by conv => lhs; simp [go_sem])
                have y11 : A.eval (.tmp 11) = _ := Eq.trans (hf 11) (by conv => lhs; simp [go_sem])
                have y12 : A.eval (.tmp 12) = _ := Eq.trans (hf 12) (by conv => lhs; simp [go_sem])
                have y13 : A.eval (.tmp 13) = _ := Eq.trans (hf 13) (by conv => lhs; simp [go_sem])
                have y14 : A.eval (.tmp 14) = _ := Eq.trans (hf 14) (by conv => lhs; simp [go_sem])
                have y15 : A.eval (.tmp 15) = _ := Eq.trans (hf 15) (by conv => lhs; simp [go_sem])
                have y16 : A.eval (.tmp 16) = _ := Eq.trans (hf 16) (by conv => lhs; simp [go_sem])
                have y17 : A.eval (.tmp 17) = _ := Eq.trans (hf 17) (by conv => lhs; simp [go_sem])
                have y18 : A.eval (.tmp 18) = _ := Eq.trans (hf 18) (by conv => lhs; simp [go_sem])
                have y19 : A.eval (.tmp 19) = _ := Eq.trans (hf 19) (by conv => lhs; simp [go_sem])
                have y20 : A.eval (.tmp 20) = _ := Eq.trans (hf 20) (by conv => lhs; simp [go_sem])
                have y21 : A.eval (.tmp 21) = _ := Eq.trans (hf 21) (by conv => lhs; simp [go_sem])
                have y22 : A.eval (.tmp 22) = _ := Eq.trans (hf 22) (by conv => lhs; simp [go_sem])
                have y23 : A.eval (.tmp 23) = _ := Eq.trans (hf 23) (by conv => lhs; simp [go_sem])
                have y24 : A.eval (.tmp 24) = _ := Eq.trans (hf 24) (by conv => lhs; simp [go_sem])
                have y25 : A.eval (.tmp 25) = _ := Eq.trans (hf 25) (by conv => lhs; simp [go_sem])
                have y26 : A.eval (.tmp 26) = _ := Eq.trans (hf 26) (by conv => lhs; simp [go_sem])
                have y27 : A.eval (.tmp 27) = _ := Eq.trans (hf 27) (by conv => lhs; simp [go_sem])
                have y28 : A.eval (.tmp 28) = _ := Eq.trans (hf 28) (by conv => lhs; simp [go_sem])
                have y29 : A.eval (.tmp 29) = _ := Eq.trans (hf 29) (by conv => lhs; simp [go_sem])
                have y30 : A.eval (.tmp 30) = _ := Eq.trans (hf 30) (by conv => lhs; simp [go_sem])
                have y31 : A.eval (.tmp 31) = _ := Eq.trans (hf 31) (by conv => lhs; simp [go_sem])
                have y32 : A.eval (.tmp 32) = _ := Eq.trans (hf 32) (by conv => lhs; simp [go_sem])
                have y33 : A.eval (.tmp 33) = _ := Eq.trans (hf 33) (by conv => lhs; simp [go_sem])
                have y34 : A.eval (.tmp 34) = _ := Eq.trans (hf 34) (by conv => lhs; simp [go_sem])
                have y35 : A.eval (.tmp 35) = _ := hf 35
                have y36 : A.eval (.tmp 36) = _ := hf 36
                have y37 : A.eval (.tmp 37) = _ := hf 37
                have y38 : A.eval (.tmp 38) = _ := hf 38
                have y39 : A.eval (.tmp 39) = _ := hf 39
                have y40 : A.eval (.tmp 40) = _ := hf 40
                have y41 : A.eval (.tmp 41) = _ := hf 41
                have y42 : A.eval (.tmp 42) = _ := hf 42
                have y43 : A.eval (.tmp 43) = _ := hf 43
                have y44 : A.eval (.tmp 44) = _ := hf 44
                have y45 : A.eval (.tmp 45) = _ := Eq.trans (hf 45) (by conv => lhs; simp [go_sem])
                have y46 : A.eval (.tmp 46) = _ := Eq.trans (hf 46) (by conv => lhs; simp [go_sem])
                have y47 : A.eval (.tmp 47) = _ := Eq.trans (hf 47) (by conv => lhs; simp [go_sem])
                have y48 : A.eval (.tmp 48) = _ := Eq.trans (hf 48) (by conv => lhs; simp [go_sem])
                have y49 : A.eval (.tmp 49) = _ := Eq.trans (hf 49) (by conv => lhs; simp [go_sem])
                have y50 : A.eval (.tmp 50) = _ := Eq.trans (hf 50) (by conv => lhs; simp [go_sem])
                have y51 : A.eval (.tmp 51) = _ := Eq.trans (hf 51) (by conv => lhs; simp [go_sem])
                have y52 : A.eval (.tmp 52) = _ := Eq.trans (hf 52) (by conv => lhs; simp [go_sem])
                have y53 : A.eval (.tmp 53) = _ := Eq.trans (hf 53) (by conv => lhs; simp [go_sem])
                have y54 : A.eval (.tmp 54) = _ := Eq.trans (hf 54) (by conv => lhs; simp [go_sem])
                have y55 : A.eval (.tmp 55) = _ := Eq.trans (hf 55) (by conv => lhs; simp [go_sem])
                have y56 : A.eval (.tmp 56) = _ := Eq.trans (hf 56) (by conv => lhs; simp [go_sem])
                have y57 : A.eval (.tmp 57) = _ := Eq.trans (hf 57) (by conv => lhs; simp [go_sem])
                have y58 : A.eval (.tmp 58) = _ := Eq.trans (hf 58) (by conv => lhs; simp [go_sem])
                have y59 : A.eval (.tmp 59) = _ := Eq.trans (hf 59) (by conv => lhs; simp [go_sem])
                have y60 : A.eval (.tmp 60) = _ := Eq.trans (hf 60) (by conv => lhs; simp [go_sem])
                clear hf
                have hA := frame_eq hn
                rw [show List.range 61 = [0, 1, 2, 3, 4, 5, 6, 7, 8, 9, 10, 11, 12, 13, 14, 15, 16, 17, 18, 19, 20, 21, 22, 23, 24, 25, 26, 27, 28, 29, 30, 31, 32, 33, 34, 35, 36, 37, 38, 39, 40, 41, 42, 43, 44, 45, 46, 47, 48, 49, 50, 51, 52, 53, 54, 55, 56, 57, 58, 59, 60] from rfl, hd] at hA
                simp only [List.map_cons, List.map_nil, y0, y1, y2, y3, y4, y5, y6, y7, y8, y9, y10, y11, y12, y13, y14, y15, y16, y17, y18, y19, y20, y21, y22, y23, y24, y25, y26, y27, y28, y29, y30, y31, y32, y33, y34, y35, y36, y37, y38, y39, y40, y41, y42, y43, y44, y45, y46, y47, y48, y49, y50, y51, y52, y53, y54, y55, y56, y57, y58, y59, y60] at hA
                clear y0 y1 y2 y3 y4 y5 y6 y7 y8 y9 y10 y11 y12 y13 y14 y15 y16 y17 y18 y19 y20 y21 y22 y23 y24 y25 y26 y27 y28 y29 y30 y31 y32 y33 y34 y35 y36 y37 y38 y39 y40 y41 y42 y43 y44 y45 y46 y47 y48 y49 y50 y51 y52 y53 y54 y55 y56 y57 y58 y59 y60
                clear hn hd
                subst hA
                have HS6 := Lib.hid (HS.out.low hC)
                have hkc := (kc V5 hC).1
                obtain ⟨e0, e1, e2⟩ := hkc
                clear HS hC kc hIf
                have hpl : p < cur.length := by rw [HC.out.1]; omega
                obtain ⟨o0, o1, o2⟩ := HS6.out.row p hpl
                have f0 := HS6.out.fr (p * 3)
                have f1 := HS6.out.fr (p * 3 + 1)
                have f2 := HS6.out.fr (p * 3 + 2)
                have b3 : (p : Int) < (n : Int) := by have := HM.out; omega
                have r3 : IntKind.i64.wrap ((p : Int) + 1) = (p : Int) + 1 := by rw [IntKind.wrap_i64]; omega
                have HS7 := Lib.hid (HS6.out.put (k := p) x)
                clear HS6 hpl
                go_upto_region 13 with (fail)
                obtain ⟨V7, hV7⟩ : ∃ V7, ((V5.setCell ⟨g, p * 3, none⟩ (.int .i64 x.1)).setCell ⟨g, p * 3 + 1, none⟩ (.int .i64 x.2.1)).setCell ⟨g, p * 3 + 2, none⟩ (.int .i64 x.2.2) = V7 := ⟨_, rfl⟩
                rw [hV7] at HS7 ⊢
                clear hV7 e0 e1 e2 o0 o1 o2 f0 f1 f2
                go_wp2_with fail
                go_roundw
                case rel => exact ⟨p + 1, q + 1, cur.set p x, by go_num, by go_num, by omega, by omega, by omega, HCP2, HS7⟩
                case measure => simp [intOf]; omega
            · have hltz : ¬ (q : Int) < (m : Int) := by omega
              have hjn : k + q = n := by have := HM.out; omega
              obtain ⟨w3, hr, hlr⟩ := run_clear_lr HS.out 0 p (n - p) (cap - p) (by have := HM.out; omega) (by rw [HC.out.1, ← HN.out]; have := HM.out; omega)
              have hc := HC.out
              rw [hjn] at hc
              have hres : p = (cpk ls n).length ∧ cur.take p = cpk ls n := ⟨hc.2.1, hc.2.2.1⟩
              rw [hres.2] at hlr
              have HR := Lib.hid (And.intro hres.1 hlr)
              have hck : ¬ cap = p := by have := HM.out; omega
              have g1 : p ≤ n := by have := HM.out; omega
              have g2 : p ≤ cap := by omega
              have g3 : n ≤ cap := hcap
              clear hc hres hlr
              go_wp2_with fail
              go_ret
              exact ⟨p, rfl, HR.out.1, HR.out.2⟩
        · have HE := Lib.hid he
          have hIf : ∀ {α : Type} (X Y : α), (if x.1 = y.1 then if x.2.1 = y.2.1 then if x.2.2 = y.2.2 then X else Y else Y else Y) = Y := by
            intro α X Y
            by_cases h1 : x.1 = y.1
            · rw [if_pos h1]
              by_cases h2 : x.2.1 = y.2.1
              · rw [if_pos h2, if_neg (fun h3 => he (Prod.ext h1 (Prod.ext h2 h3)))]
              · rw [if_neg h2]
            · rw [if_neg h1]
          clear he
          go_upto_region 6 with (fail)
          refine wp_region_typed (C := fun w' => Below wr.heap.size wr w') (X := fun w w' => Below w.heap.size w w') (n := 61) (by kernel_rfl) (by kernel_rfl) rfl (fun w => Below.refl _ w) (Below.refl _ _).drew ?_
          refine w_is (fun w => Below.refl _ w) _ (.inl rfl) (fun ρ w hC hc hfn hf => by have e0 : ρ (.tmp 0) = _ := hf 0 (by decide); (conv => lhs; simp [execOp, go_sem, hc, e0])) ?_
          refine w_is (fun w => Below.refl _ w) _ (.inl rfl) (fun ρ w hC hc hfn hf => by have e3 : ρ (.tmp 3) = _ := hf 3 (by decide); (conv => lhs; simp [execOp, go_sem, hc, e3])) ?_
          refine w_is (fun w => Below.refl _ w) _ (.inl rfl) (fun ρ w hC hc hfn hf => by have e16 : ρ (.tmp 16) = _ := hf 16 (by decide); have e17 : ρ (.tmp 17) = _ := hf 17 (by decide); (conv => lhs; simp [execOp, go_sem, hc, e16, e17, b1])) ?_
          refine w_is (fun w => Below.refl _ w) _ (.inl rfl) (fun ρ w hC hc hfn hf => by have e18 : ρ (.tmp 18) = _ := hf 18 (by decide); (conv => lhs; simp [execOp, go_sem, hc, e18, kc w hC])) ?_
          refine w_is (fun w => Below.refl _ w) _ (.inl rfl) (fun ρ w hC hc hfn hf => by have e0 : ρ (.tmp 0) = _ := hf 0 (by decide); (conv => lhs; simp [execOp, go_sem, hc, e0])) ?_
          refine w_is (fun w => Below.refl _ w) _ (.inl rfl) (fun ρ w hC hc hfn hf => by have e3 : ρ (.tmp 3) = _ := hf 3 (by decide); (conv => lhs; simp [execOp, go_sem, hc, e3])) ?_
          refine w_is (fun w => Below.refl _ w) _ (.inl rfl) (fun ρ w hC hc hfn hf => by have e21 : ρ (.tmp 21) = _ := hf 21 (by decide); (conv => lhs; simp [execOp, go_sem, hc, e21, r1])) ?_
          refine w_is (fun w => Below.refl _ w) _ (.inl rfl) (fun ρ w hC hc hfn hf => by have e20 : ρ (.tmp 20) = _ := hf 20 (by decide); have e22 : ρ (.tmp 22) = _ := hf 22 (by decide); (conv => lhs; simp [execOp, go_sem, hc, e20, e22, b2])) ?_
          refine w_is (fun w => Below.refl _ w) _ (.inl rfl) (fun ρ w hC hc hfn hf => by have e23 : ρ (.tmp 23) = _ := hf 23 (by decide); (conv => lhs; simp [execOp, go_sem, hc, e23, kc w hC])) ?_
          refine w_is (fun w => Below.refl _ w) _ (.inl rfl) (fun ρ w hC hc hfn hf => by have e19 : ρ (.tmp 19) = _ := hf 19 (by decide); have e24 : ρ (.tmp 24) = _ := hf 24 (by decide); (conv => lhs; simp [execOp, go_sem, hc, e19, e24, hIf, guard25])) ?_
          intro A V5 hC hn hd hf
          have y0 : A.eval (.tmp 0) = _ := Eq.trans (hf 0) (by conv => lhs; simp [go_sem])
          have y1 : A.eval (.tmp 1) = _ := Eq.trans (hf 1) (by conv => lhs; simp [go_sem])
          have y2 : A.eval (.tmp 2) = _ := Eq.trans (hf 2) (by conv => lhs; simp [go_sem])
          have y3 : A.eval (.tmp 3) = _ := Eq.trans (hf 3) (by conv => lhs; simp [go_sem])
          have y4 : A.eval (.tmp 4) = _ := Eq.trans (hf 4) (by conv => lhs; simp [go_sem])
          have y5 : A.eval (.tmp 5) = _ := Eq.trans (hf 5) (by conv => lhs; simp [go_sem])
          have y6 : A.eval (.tmp 6) = _ := Eq.trans (hf 6) (by conv => lhs; simp [go_sem])
          have y7 : A.eval (.tmp 7) = _ := Eq.trans (hf 7) (by conv => lhs; simp [go_sem])
          have y8 : A.eval (.tmp 8) = _ := Eq.trans (hf 8) (by conv => lhs; simp [go_sem])
          have y9 : A.eval (.tmp 9) = _ := Eq.trans (hf 9) (by conv => lhs; simp [go_sem])
          have y10 : A.eval (.tmp 10) = _ := Eq.trans (hf 10) (by conv => lhs; simp [go_sem])
          have y11 : A.eval (.tmp 11) = _ := Eq.trans (hf 11) (by conv => lhs; simp [go_sem])
          have y12 : A.eval (.tmp 12) = _ := Eq.trans (hf 12) (by conv => lhs; simp [go_sem])
          have y13 : A.eval (.tmp 13) = _ := Eq.trans (hf 13) (by conv => lhs; simp [go_sem])
          have y14 : A.eval (.tmp 14) = _ := Eq.trans (hf 14) (by conv => lhs; simp [go_sem])
          have y15 : A.eval (.tmp 15) = _ := Eq.trans (hf 15) (by conv => lhs; simp [go_sem])
          have y16 : A.eval (.tmp 16) = _ := hf 16
          have y17 : A.eval (.tmp 17) = _ := hf 17
          have y18 : A.eval (.tmp 18) = _ := hf 18
          have y19 : A.eval (.tmp 19) = _ := hf 19
          have y20 : A.eval (.tmp 20) = _ := hf 20
          have y21 : A.eval (.tmp 21) = _ := hf 21
          have y22 : A.eval (.tmp 22) = _ := hf 22
          have y23 : A.eval (.tmp 23) = _ := hf 23
          have y24 : A.eval (.tmp 24) = _ := hf 24
          have y25 : A.eval (.tmp 25) = _ := hf 25
          have y26 : A.eval (.tmp 26) = _ := Eq.trans (hf 26) (by conv => lhs; simp [go_sem])
          have y27 : A.eval (.tmp 27) = _ := Eq.trans (hf 27) (by conv => lhs; simp [go_sem])
          have y28 : A.eval (.tmp 28) = _ := Eq.trans (hf 28) (by conv => lhs; simp [go_sem])
          have y29 : A.eval (.tmp 29) = _ := Eq.trans (hf 29) (by conv => lhs; simp [go_sem])
          have y30 : A.eval (.tmp 30) = _ := Eq.trans (hf 30) (by conv => lhs; simp [go_sem])
          have y31 : A.eval (.tmp 31) = _ := Eq.trans (hf 31) (by conv => lhs; simp [go_sem])
          have y32 : A.eval (.tmp 32) = _ := Eq.trans (hf 32) (by conv => lhs; simp [go_sem])
          have y33 : A.eval (.tmp 33) = _ := Eq.trans (hf 33) (by conv => lhs; simp [go_sem])
          have y34 : A.eval (.tmp 34) = _ := Eq.trans (hf 34) (by conv => lhs; simp [go_sem])
          have y35 : A.eval (.tmp 35) = _ := Eq.trans (hf 35) (by conv => lhs; simp [go_sem])
          have y36 : A.eval (.tmp 36) = _ := Eq.trans (hf 36) (by conv => lhs; simp [go_sem])
          have y37 : A.eval (.tmp 37) = _ := Eq.trans (hf 37) (by conv => lhs; simp [go_sem])
          have y38 : A.eval (.tmp 38) = _ := Eq.trans (hf 38) (by conv => lhs; simp [go_sem])
          have y39 : A.eval (.tmp 39) = _ := Eq.trans (hf 39) (by conv => lhs; simp [go_sem])
          have y40 : A.eval (.tmp 40) = _ := Eq.trans (hf 40) (by conv => lhs; simp [go_sem])
          have y41 : A.eval (.tmp 41) = _ := Eq.trans (hf 41) (by conv => lhs; simp [go_sem])
          have y42 : A.eval (.tmp 42) = _ := Eq.trans (hf 42) (by conv => lhs; simp [go_sem])
          have y43 : A.eval (.tmp 43) = _ := Eq.trans (hf 43) (by conv => lhs; simp [go_sem])
          have y44 : A.eval (.tmp 44) = _ := Eq.trans (hf 44) (by conv => lhs; simp [go_sem])
          have y45 : A.eval (.tmp 45) = _ := Eq.trans (hf 45) (by conv => lhs; simp [go_sem])
          have y46 : A.eval (.tmp 46) = _ := Eq.trans (hf 46) (by conv => lhs; simp [go_sem])
          have y47 : A.eval (.tmp 47) = _ := Eq.trans (hf 47) (by conv => lhs; simp [go_sem])
          have y48 : A.eval (.tmp 48) = _ := Eq.trans (hf 48) (by conv => lhs; simp [go_sem])
          have y49 : A.eval (.tmp 49) = _ := Eq.trans (hf 49) (by conv => lhs; simp [go_sem])
          have y50 : A.eval (.tmp 50) = _ := Eq.trans (hf 50) (by conv => lhs; simp [go_sem])
          have y51 : A.eval (.tmp 51) = _ := Eq.trans (hf 51) (by conv => lhs; simp [go_sem])
          have y52 : A.eval (.tmp 52) = _ := Eq.trans (hf 52) (by conv => lhs; simp [go_sem])
          have y53 : A.eval (.tmp 53) = _ := Eq.trans (hf 53) (by conv => lhs; simp [go_sem])
          have y54 : A.eval (.tmp 54) = _ := Eq.trans (hf 54) (by conv => lhs; simp [go_sem])
          have y55 : A.eval (.tmp 55) = _ := Eq.trans (hf 55) (by conv => lhs; simp [go_sem])
          have y56 : A.eval (.tmp 56) = _ := Eq.trans (hf 56) (by conv => lhs; simp [go_sem])
          have y57 : A.eval (.tmp 57) = _ := Eq.trans (hf 57) (by conv => lhs; simp [go_sem])
          have y58 : A.eval (.tmp 58) = _ := Eq.trans (hf 58) (by conv => lhs; simp [go_sem])
          have y59 : A.eval (.tmp 59) = _ := Eq.trans (hf 59) (by conv => lhs; simp [go_sem])
          have y60 : A.eval (.tmp 60) = _ := Eq.trans (hf 60) (by conv => lhs; simp [go_sem])
          clear hf
          have hA := frame_eq hn
          rw [show List.range 61 = [0, 1, 2, 3, 4, 5, 6, 7, 8, 9, 10, 11, 12, 13, 14, 15, 16, 17, 18, 19, 20, 21, 22, 23, 24, 25, 26, 27, 28, 29, 30, 31, 32, 33, 34, 35, 36, 37, 38, 39, 40, 41, 42, 43, 44, 45, 46, 47, 48, 49, 50, 51, 52, 53, 54, 55, 56, 57, 58, 59, 60] from rfl, hd] at hA
          simp only [List.map_cons, List.map_nil, y0, y1, y2, y3, y4, y5, y6, y7, y8, y9, y10, y11, y12, y13, y14, y15, y16, y17, y18, y19, y20, y21, y22, y23, y24, y25, y26, y27, y28, y29, y30, y31, y32, y33, y34, y35, y36, y37, y38, y39, y40, y41, y42, y43, y44, y45, y46, y47, y48, y49, y50, y51, y52, y53, y54, y55, y56, y57, y58, y59, y60] at hA
          clear y0 y1 y2 y3 y4 y5 y6 y7 y8 y9 y10 y11 y12 y13 y14 y15 y16 y17 y18 y19 y20 y21 y22 y23 y24 y25 y26 y27 y28 y29 y30 y31 y32 y33 y34 y35 y36 y37 y38 y39 y40 y41 y42 y43 y44 y45 y46 y47 y48 y49 y50 y51 y52 y53 y54 y55 y56 y57 y58 y59 y60
          clear hn hd
          subst hA
          have HS5 := Lib.hid (HS.out.low hC)
          clear HS hC kc hIf
          go_wp2_with fail
          go_roundw
          case rel => exact ⟨k + 1, by go_num, by omega, by omega, HS5, fun i h1 h3 => by
            by_cases e : i = k
            · subst e
              rw [HX.out, ← HJ.out, HY.out]
              exact HE.out
            · exact HD.out i h1 (by omega)⟩
          case measure => simp [intOf]; omega
      · have hltz : ¬ (k : Int) < (n : Int) := by omega
        obtain rfl : k = n := by omega
        have hk := cpk_all (ls := ls) (k := k) (by rw [← HN.out]; exact Nat.le_refl _) HD.out
        rw [HN.out, List.take_length, ← HN.out] at hk
        have HK := Lib.hid hk
        clear hk
        go_wp2_with fail
        go_ret
        exact ⟨k, rfl, by rw [HK.out]; exact HN.out, by rw [HK.out]; exact HS.out⟩
end Go.Proofs.Ytmimgpnogjgliaa

namespace Go.Proofs.Ytmimgpnogjgliaa
set_option maxRecDepth 100000
open Go.RowKit

/-- The level of a view that is told; those of all that are told, rising, each once. -/
def lv3 (y : Vw) : Lv := (y.2.2.1, y.2.2.2.1, y.2.2.2.2.1)
def tldL (l : List Vw) : List Vw := l.filter (fun y => tld y.2)
def lvlR (l : List Vw) : List Lv := (vordL (tldL l)).map lv3
def lvlF (l : List Vw) : List Lv := cpk (lvlR l) (lvlR l).length
theorem tld_nul (i : Int) : tld (nulX i) = false := by
  show told true 0 0 0 0 i = false
  unfold told
  simp
theorem dir_nul (l : List Vw) : dirL l (nulX 0) 1 = tldL l := by
  unfold dirL tldL
  congr 1
  funext y
  unfold dirB dirF
  rw [tld_nul]
  cases tld y.2 <;> rfl
theorem lcomp_nil (w : World) : Calls Try.prog 40 #[.slice none 0 0] w fun e w' => e = .returned (.slice none 0 0) ∧ w' = w := by
  go_enter Try.func40, Try.ntmps40
  go_wp2_with fail
  go_ret
  exact ⟨rfl, rfl⟩
theorem lmap_succ (l : List Vw) (k : Nat) (h : k < l.length) : (l.take (k + 1)).map lv3 = (l.take k).map lv3 ++ [lv3 (l.getD k zVw)] := by
  rw [vtake_succ l k h, List.map_append]
  rfl
set_option maxHeartbeats 8000000 in
theorem llev_any (v : Value) (l : List Vw) (w : World) (hv : Vs w v l) (hl : l.length ≤ 1000) :
    Calls Try.prog 20 #[v] w fun e w' => ∃ r, e = .returned r ∧ Ls w' r (lvlF l) ∧ Below w.heap.size w w' := by
  obtain ⟨ys, hys⟩ : ∃ ys, vordL (tldL l) = ys := ⟨_, rfl⟩
  have hln : ys.length ≤ 1000 := by
    rw [← hys, (vord_perm _).length_eq]
    exact Nat.le_trans (List.length_filter_le _ _) hl
  have htl : ∀ y ∈ ys, tld y.2 = true := fun y hy => by
    rw [← hys] at hy
    have := ((vord_perm _).mem_iff.1 hy)
    unfold tldL at this
    exact (List.mem_filter.1 this).2
  have hr : lvlR l = ys.map lv3 := by unfold lvlR; rw [hys]
  unfold lvlF
  rw [hr]
  have C := Lib.hid (fun W h => lupw_any v l (nulX 0) 1 (.inl rfl) W h hl)
  rw [dir_nul, hys] at C
  have HV := Lib.hid hv
  have HT := Lib.hid htl
  have HLN := Lib.hid hln
  obtain ⟨a, c, rfl⟩ := hv.form
  clear hv htl hys hr
  go_enter Try.func20, Try.ntmps20
  go_wp2_with fail
  refine (null_any _ _).mono ?_
  rintro e w1 ⟨rfl, hb1⟩
  have HB1 := Lib.hid hb1
  have C1 := Lib.hid (C.out w1 (HV.out.below hb1))
  simp only [nulX] at C1
  clear hb1 C
  go_wp2_with fail
  refine C1.out.mono ?_
  rintro e w2 ⟨r, rfl, hns, hb2⟩
  have HNS := Lib.hid hns
  have HB2 := Lib.hid (HB1.out.trans (hb2.mono HB1.out.size))
  obtain ⟨a3, c3, rfl⟩ := hns.form
  clear hns hb2 C1 HB1
  go_wp2_with fail
  go_loopw [3, 10] (fun ov i wr => ∃ (k : Nat) (ax : Option Addr) (cx : Nat) (xs : List Lv), k ≤ ys.length ∧ i = .int .i64 k ∧ ov = .slice ax xs.length cx ∧ Hid ((ys.take k).map lv3 = xs) ∧ Hid (OwL wr w2.heap.size (.slice ax xs.length cx) xs) ∧ Hid (xs = [] → ax = none ∧ cx = 0) ∧ Hid (Below w2.heap.size w2 wr)) (fun _ i _ => ys.length - (intOf i).toNat)
  case atStart => exact ⟨0, none, 0, [], Nat.zero_le _, rfl, rfl, rfl, OwL_nil w2 _, fun _ => ⟨rfl, rfl⟩, Below.refl _ _⟩
  case round =>
    obtain ⟨k, ax, cx, xs, hk, rfl, rfl, HF, HO, HN, HB⟩ := hrel
    have hxl : xs.length ≤ k := by
      have h1 := congrArg List.length HF.out
      rw [List.length_map, List.length_take] at h1
      omega
    by_cases hlt : k < ys.length
    · have hst := lmap_succ ys k hlt
      rw [HF.out] at hst
      have hty := HT.out _ (getD_mem hlt)
      obtain ⟨b2, off, rfl, hB, p0, p1, p2, p3, p4, p5, p6⟩ := (HNS.out.below HB.out).at hlt
      obtain ⟨y, hy⟩ : ∃ y, ys.getD k zVw = y := ⟨_, rfl⟩
      rw [hy] at p0 p1 p2 p3 p4 p5 p6 hst hty
      clear hy
      have HST := Lib.hid hst
      have cL := level_any y.2.1 y.2.2.1 y.2.2.2.1 y.2.2.2.2.1 y.2.2.2.2.2.1 y.2.2.2.2.2.2 
      unfold levV at cL
      rw [if_pos (show told y.2.1 y.2.2.1 y.2.2.2.1 y.2.2.2.2.1 y.2.2.2.2.2.1 y.2.2.2.2.2.2 = true from hty)] at cL
      have CL := Lib.hid cL
      obtain ⟨V, hV⟩ : ∃ V, wr.alloc (.cells #[.int .i64 y.1, .bool y.2.1, .int .i64 y.2.2.1, .int .i64 y.2.2.2.1, .int .i64 y.2.2.2.2.1, .int .i64 y.2.2.2.2.2.1, .int .i64 y.2.2.2.2.2.2] 64) = V := ⟨_, rfl⟩
      have hbv : Below wr.heap.size wr V := hV ▸ (Below.refl _ wr).alloc (Nat.le_refl _) _
      have OY := Lib.hid (hV ▸ ownV_alloc wr y wr.heap.size rfl 64 : OwnV V wr.heap.size y)
      have HBV := Lib.hid (HB.out.trans (hbv.mono HB.out.size))
      have HOV := Lib.hid (HO.out.below hbv)
      have HLE1 : Hid (xs.length ≤ 3000) := by show _ ≤ _; omega
      obtain ⟨⟨d0, d1, d2, d3, d4, d5, d6⟩, df⟩ := OY.out
      simp only [Nat.zero_add] at d1 d2 d3 d4 d5 d6
      go_upto_region 5 with (fail)
      clear p0 p1 p2 p3 p4 p5 p6 hV hbv hB HO hst hty cL
      go_wp2_with fail
      refine (CL.out _).mono ?_
      rintro e V2 ⟨rfl, hb2⟩
      have HB5 := Lib.hid (HBV.out.trans (hb2.mono HBV.out.size))
      have HO5 := Lib.hid (HOV.out.below hb2)
      have HSW : Hid (w2.heap.size ≤ V2.heap.size) := HB5.out.size
      clear hb2 d0 d1 d2 d3 d4 d5 d6 df
      go_wp2_with (at_builtin; refine lapp1_any rfl (.tmp 14) (.tmp 18) rfl V2 (lv3 y) rfl w2.heap.size (.slice ax xs.length cx) xs rfl rfl HO5.out HLE1.out HSW.out ?_; intro g1 cap1 wa ho9 hb9; have HO1 := Lib.hid ho9; have HA1 := Lib.hid hb9; clear ho9 hb9)
      go_roundw
      case rel => exact ⟨k + 1, some ⟨g1, 0, none⟩, cap1, xs ++ [lv3 y], by omega, by go_num, by rw [List.length_append]; rfl, HST.out, by have h9 := HO1.out; rw [List.length_append]; exact h9, fun h => absurd h (by simp), HB5.out.trans HA1.out⟩
      case measure => simp [intOf]; omega
    · obtain rfl : k = ys.length := by omega
      have h1 := HF.out
      rw [List.take_length] at h1
      have H1 := Lib.hid h1
      by_cases hx0 : xs = []
      · obtain ⟨rfl, rfl⟩ := HN.out hx0
        subst hx0
        have HBX := Lib.hid (HB2.out.trans (HB.out.mono HB2.out.size))
        clear h1
        simp only [List.length_nil]
        go_wp2_with fail
        refine (lcomp_nil _).mono ?_
        rintro e w3 ⟨rfl, rfl⟩
        go_wp2_with fail
        go_ret
        exact ⟨_, rfl, by rw [H1.out]; exact Ls_nil _, HBX.out⟩
      · obtain ⟨n, hn⟩ : ∃ n, xs.length = n := ⟨_, rfl⟩
        have ho := HO.out
        rw [hn] at ho ⊢
        obtain ⟨g, rfl, hlr, hcap⟩ := lr_of_own ho hn.symm hx0
        have C := Lib.hid (lcomp_any g cx n xs _ _ _ hlr hn.symm (by omega) (by omega))
        have HLE := Lib.hid (show n ≤ cx by omega)
        have HNN := Lib.hid hn
        clear ho hlr hcap h1 hn hx0
        go_wp2_with fail
        refine C.out.mono ?_
        rintro e w3 ⟨m, rfl, hm, hlr⟩
        have hls := lr_ls (cap := cx) hlr (by have := cpk_len xs n; have := HLE.out; omega)
        rw [← hm] at hls
        have HLS := Lib.hid hls
        have HBX := Lib.hid (HB2.out.trans ((HB.out.trans hlr.bel).mono HB2.out.size))
        clear hm hlr hls C
        go_wp2_with fail
        go_ret
        exact ⟨_, rfl, by rw [H1.out, HNN.out]; exact HLS.out, HBX.out⟩
end Go.Proofs.Ytmimgpnogjgliaa
