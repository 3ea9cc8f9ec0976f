/- The echoes of others: the program's others. No conditions but on lengths. -/
import Derived.Test.YtaflgabjpcfgpaaHea
import Derived.Test.YtaflgabjpcfgpaaBmt
namespace Go.Proofs.Ytaflgabjpcfgpaa
set_option maxRecDepth 100000
open Go.RowKit
attribute [local go_sem] Oper.semAt_some

/-- A builtin append within a fence, by its run. -/
theorem app_in {F : Fence} {n : Nat} {P : Program} {ops : Array Oper} {rest : List Oper} {o : Oper} {a : Act} {Q : Exit → Act → World → Prop} {w : World} (hg : o.guard = none) (s x : Operand) (t : TypeId)
    (hop : o.op = Op.call { callee := Callee.builtin Builtin.append, args := #[s, x], argTypes := #[t, t] }) (v u r : Value) (w' : World) (hs : a.eval s = v) (hx : a.eval x = u)
    (hr : (Builtin.append_ #[t, t] o.type #[v, u]).run P w = .ok r w') (h : wpListIn F n P ops Q rest (a.put o.dst r) w') : wpListIn F n P ops Q (o :: rest) a w := by
  refine wpListIn_plain hg fun K hK' => ?_
  unfold Oper.wpIn
  refine ⟨?_, ?_⟩
  · simp [Oper.about, hop, resolve, Target.leads, Sem.run_pure]
  · rw [Oper.semAt_plain F _ _ (by rw [hop]; intro c hc'; cases hc')]
    simp [execOp, hop, resolve, invoke, builtin, hs, hx, hr, Result.andThen]
    exact hK' _ _ h

section
variable (R : RowT)
/-- One element more: the row is the elder one's block, or a new one. -/
theorem run_gapp2 (w : World) (ty : TypeId) (S : Nat) (v : Value) (xs : List R.α) (hown : w.ownsRow S R.T R.K v xs.length (gflat R xs)) (b : Nat) (y : R.α) (hy : GC R w b 0 y) (hl : xs.length ≤ 3000) (hS : S ≤ w.heap.size) :
    ∃ g cap w', (Builtin.append_ #[R.SL, R.SL] ty #[v, .slice (some ⟨b, 0, none⟩) 1 1]).run Try.prog w = .ok (.slice (some ⟨g, 0, none⟩) (xs.length + 1) cap) w' ∧ w'.ownsRow S R.T R.K (.slice (some ⟨g, 0, none⟩) (xs.length + 1) cap) (xs ++ [y]).length (gflat R (xs ++ [y])) ∧ w.grownBy w' v.ownBlock ∧ (v.ownBlock = some g ∨ w.heap.size ≤ g) := by
  obtain ⟨i0, hi, hz0, hz1, hz2⟩ := info_parts R.hinfo
  have hzs := R.hz
  have hbb := R.hb
  have hpos := R.hK
  have e : gflat R (xs ++ [y]) = gflat R xs ++ R.cl y := by rw [gflat_app, gflat_one]
  have e2 : (xs ++ [y]).length = xs.length + 1 := by simp
  have hnews : ∀ j u, (R.cl y)[j]? = some u → w.cell? ((⟨b, 0, none⟩ : Addr).add j) = some u := fun j u hj => by
    have := (List.getElem?_eq_some_iff.1 hj).1
    rw [R.hcl] at this
    rw [add_spot', hy j this]; exact hj
  have hone : ∀ u ∈ R.cl y, u.oneCell' = true := R.hone y
  have hfl := gflat_len R xs
  have hcl1 : (R.cl y).length = 1 * R.K := by rw [R.hcl, Nat.one_mul]
  have hby : (xs.length + 1) * R.bytes ≤ 140737488355328 := Nat.le_trans (Nat.mul_le_mul (show xs.length + 1 ≤ 3001 by omega) hbb) (by decide)
  have new : ∀ {w' : World} {v' : Value} {n : Nat} {zs : List Value}, w'.ownsRow w.heap.size R.T R.K v' (n + 1) zs → ∃ g cap, v' = .slice (some ⟨g, 0, none⟩) (n + 1) cap ∧ w.heap.size ≤ g := fun h => by
    rcases h.2 with ⟨_, h0⟩ | ⟨g, cap, _, rfl, hg, _⟩
    · omega
    · exact ⟨g, cap, rfl, hg⟩
  rw [e, e2]
  rcases hown.2 with ⟨rfl, h0⟩ | ⟨g, cap, cur, rfl, hg1, hg2, _⟩
  · obtain ⟨v', w', hr, h2, h3, _, _⟩ := run_append_own_at (P := Try.prog) w w.heap.size R.SL ty R.T i0 R.zero R.K R.bytes R.hSL hi hz0 hz1 hz2 hzs hpos (.slice none 0 0) xs.length (gflat R xs) ⟨hown.1, .inl ⟨rfl, h0⟩⟩ ⟨b, 0, none⟩ 1 1 (R.cl y) hcl1 hnews hone (by unfold maxLen; omega) hby (Nat.le_refl _)
    obtain ⟨g, cap, rfl, hg⟩ := new h2
    exact ⟨g, cap, w', hr, gown_mono h2 hS, h3, .inr hg⟩
  · by_cases hroom : xs.length + 1 ≤ cap
    · obtain ⟨w', hr, h2, h3⟩ := run_append_fits (P := Try.prog) w S R.SL ty R.T i0 R.K R.hSL hi hz1 g xs.length cap (gflat R xs) hown ⟨b, 0, none⟩ 1 1 (R.cl y) hcl1 hnews hone hroom
      exact ⟨g, cap, w', hr, h2, h3, .inl rfl⟩
    · obtain ⟨v', w', hr, h2, h3⟩ := run_append_arg_grows (P := Try.prog) w R.SL ty R.T i0 R.zero R.K R.bytes R.hSL hi hz0 hz1 hz2 hzs hpos ⟨g, 0, none⟩ xs.length cap (gflat R xs) hfl (hown.cells rfl) ⟨b, 0, none⟩ 1 1 (R.cl y) hcl1 hnews (by omega) (by unfold maxLen; omega) hby
      obtain ⟨g', cap', rfl, hg⟩ := new h2
      exact ⟨g', cap', w', hr, gown_mono h2 hS, ⟨h3.os, h3.tape, h3.output, h3.size, fun k hk _ => h3.block k hk (by simp)⟩, .inr hg⟩
end

/-- 'x = append(x, y)' of echoes, x and u two boxed rows: what stands behind the store. -/
theorem two_step {W w1 : World} {E n₀ B c g cap : Nat} {v u : Value} {xs ys : List (Int × Int)} {y : Int × Int} {tmp : Obj} (hB : n₀ ≤ B) (hBc : B < c) (hcE : c ≤ E) (hE : E ≤ W.heap.size)
    (b1 : Boxed W B 22 v) (o1 : OwE W E v xs) (o2 : OwE W E u ys) (hap : ∀ b, v.ownBlock = some b → u.ownBlock ≠ some b)
    (hown : w1.ownsRow E 52 2 (.slice (some ⟨g, 0, none⟩) (xs.length + 1) cap) (xs ++ [y]).length (eflat (xs ++ [y]))) (hg : (W.alloc tmp).grownBy w1 v.ownBlock) (hgg : v.ownBlock = some g ∨ (W.alloc tmp).heap.size ≤ g) :
    Boxed w1 B 22 v ∧ Boxed (w1.setCell ⟨B, 0, none⟩ (.slice (some ⟨g, 0, none⟩) (xs.length + 1) cap)) B 22 (.slice (some ⟨g, 0, none⟩) (xs.length + 1) cap) ∧
    OwE (w1.setCell ⟨B, 0, none⟩ (.slice (some ⟨g, 0, none⟩) (xs.length + 1) cap)) E (.slice (some ⟨g, 0, none⟩) (xs.length + 1) cap) (xs ++ [y]) ∧
    OwE (w1.setCell ⟨B, 0, none⟩ (.slice (some ⟨g, 0, none⟩) (xs.length + 1) cap)) E u ys ∧
    (∀ b, (Value.slice (some ⟨g, 0, none⟩) (xs.length + 1) cap).ownBlock = some b → u.ownBlock ≠ some b) ∧
    Keep c E W (w1.setCell ⟨B, 0, none⟩ (.slice (some ⟨g, 0, none⟩) (xs.length + 1) cap)) ∧ Below n₀ W (w1.setCell ⟨B, 0, none⟩ (.slice (some ⟨g, 0, none⟩) (xs.length + 1) cap)) ∧
    (∀ k, k < W.heap.size → k ≠ B → v.ownBlock ≠ some k → (w1.setCell ⟨B, 0, none⟩ (.slice (some ⟨g, 0, none⟩) (xs.length + 1) cap)).heap[k]? = W.heap[k]?) := by
  have hv : ∀ k, v.ownBlock = some k → E ≤ k ∧ k < W.heap.size := fun k hk => o1.lt k hk
  have hu : ∀ k, u.ownBlock = some k → E ≤ k ∧ k < W.heap.size := fun k hk => o2.lt k hk
  have b1' : Boxed w1 B 22 v := (b1.alloc tmp).kept hg (fun e => by have := hv B e.symm; omega)
  have hk : ∀ k, k < W.heap.size → k ≠ B → v.ownBlock ≠ some k → (w1.setCell ⟨B, 0, none⟩ (.slice (some ⟨g, 0, none⟩) (xs.length + 1) cap)).heap[k]? = W.heap[k]? := fun k h1 h2 h3 =>
    (Below.heap_setCell w1 ⟨B, 0, none⟩ _ k h2).trans ((hg.block k (by simp; omega) (fun e => h3 e.symm)).trans (Below.heap_alloc W tmp k h1))
  refine ⟨b1', b1'.set _, ?_, ?_, fun b hb hub => ?_, ⟨by simpa using (show W.heap.size ≤ w1.heap.size by have := hg.size; simp at this; omega), fun k h1 h2 h3 => hk k h3 (by omega) (fun e => by have := hv k e; omega)⟩, ?_, hk⟩
  · exact gown_apart (w := w1) hown (by omega) 0
  · refine gown_apart (w := w1) (World.ownsRow.kept (w := W.alloc tmp) (gown_below o2 ((Below.refl _ _).alloc (Nat.le_refl _) _)) hg ?_) (by omega) 0
    cases hq : u.ownBlock with
    | none => exact .inl rfl
    | some q => exact .inr (fun e => hap q e.symm hq)
  · simp only [Value.ownBlock, Option.some.injEq] at hb
    subst hb
    rcases hgg with h | h
    · exact hap _ h hub
    · have := (hu _ hub).2; simp at h; omega
  · exact (((Below.refl n₀ W).alloc (by omega) tmp).grown hg (by simp; omega) (fun k e => by have := hv k e; omega)).setCell (p := ⟨B, 0, none⟩) hB _

def seconds (pre : List ((Int × Int) × (Int × Int))) : List (Int × Int) := pre.map Prod.snd
theorem seconds_upto (ys : List (Int × Int)) : seconds (uptoE ys ys.length) = ys := by
  refine List.ext_getElem (by simp [seconds, uptoE]) fun i h1 h2 => ?_
  simp [seconds, uptoE, prE, List.getD, h2]
theorem seconds_snoc (pre : List ((Int × Int) × (Int × Int))) (x : (Int × Int) × (Int × Int)) : seconds (pre ++ [x]) = seconds pre ++ [x.2] := by simp [seconds]
theorem loE_snoc (l : List (Int × Int)) (y : Int × Int) (id : Int) : loE (l ++ [y]) id = if y.1 < id then loE l id ++ [y] else loE l id := by
  unfold loE
  rw [List.filter_append]
  by_cases h : y.1 < id <;> simp [h]
theorem hiE_snoc (l : List (Int × Int)) (y : Int × Int) (id : Int) : hiE (l ++ [y]) id = if id < y.1 then hiE l id ++ [y] else hiE l id := by
  unfold hiE
  rw [List.filter_append]
  by_cases h : id < y.1 <;> simp [h]

/-- The two rows in their boxes. -/
def Two (s : Nat) (W : World) (v u : Value) (xs ys : List (Int × Int)) : Prop := Boxed W (s + 1) 22 v ∧ Boxed W (s + 2) 22 u ∧ OwE W (s + 8) v xs ∧ OwE W (s + 8) u ys ∧ ∀ b, v.ownBlock = some b → u.ownBlock ≠ some b
def I27 (w : World) (id : Int) (pre : List ((Int × Int) × (Int × Int))) (W : World) : Prop :=
  Boxed W w.heap.size 3 (.int .i64 id) ∧ (∃ v u, Two w.heap.size W v u (loE (seconds pre) id) (hiE (seconds pre) id)) ∧ Below w.heap.size w W
theorem Two.turn {s : Nat} {W W' : World} {v u : Value} {xs ys : List (Int × Int)} {row : Option Nat} (h : Two s W v u xs ys) (hg : W.grownBy W' row) (hr : ∀ r, row = some r → s + 4 ≤ r ∧ r < s + 8) : Two s W' v u xs ys := by
  obtain ⟨h1, h2, h3, h4, h5⟩ := h
  have ne : ∀ {x : Value} {zs : List (Int × Int)}, OwE W (s + 8) x zs → x.ownBlock = none ∨ x.ownBlock ≠ row := fun {x zs} hx => by
    cases hq : x.ownBlock with
    | none => exact .inl rfl
    | some q => exact .inr (fun e => by have := hr q e.symm; have := hx.lt q hq; omega)
  exact ⟨h1.kept hg (fun e => by have := hr _ e.symm; omega), h2.kept hg (fun e => by have := hr _ e.symm; omega), World.ownsRow.kept h3 hg (ne h3), World.ownsRow.kept h4 hg (ne h4), h5⟩
theorem abK_27 (w : World) (id : Int) : AbK (w.heap.size + 4) (w.heap.size + 4 + 2 + 2) (I27 w id) := by
  rintro s W W' row ⟨h1, ⟨v, u, h2⟩, h3⟩ hg hr
  exact ⟨h1.kept hg (fun e => by have := hr _ e.symm; omega), ⟨v, u, h2.turn hg (fun r e => by have := hr r e; omega)⟩, h3.grown hg h3.size (fun k e => by have := hr k e; omega)⟩
theorem boxed_same {W W' : World} {B : Nat} {t : TypeId} {v : Value} (h : Boxed W B t v) (hs : W'.heap[B]? = W.heap[B]?) : Boxed W' B t v := Eq.trans hs h
set_option maxHeartbeats 16000000 in
theorem others_any (v : Value) (ys : List (Int × Int)) (id : Int) (w : World) (hE : El w v ys) (hl : ys.length ≤ 2000) :
    Calls Try.prog 27 #[v, .int .i64 id] w fun e w' => (∃ u1 u2, e = .returned (.tuple #[u1, u2]) ∧ OwE w' w.heap.size u1 (loE ys id) ∧ OwE w' w.heap.size u2 (hiE ys id) ∧ ∀ b, u1.ownBlock = some b → u2.ownBlock ≠ some b) ∧ Below w.heap.size w w' := by
  obtain ⟨a, c, rfl⟩ := hE.1.form
  obtain ⟨W1, hW1⟩ : ∃ W1, W1 = ((w.alloc (.cells #[.int .i64 id] 3)).alloc (.cells #[.slice none 0 0] 22)).alloc (.cells #[.slice none 0 0] 22) := ⟨_, rfl⟩
  have hs1 : W1.heap.size = w.heap.size + 3 := by rw [hW1]; simp
  have hb1 : Below w.heap.size w W1 := by rw [hW1]; exact (((Below.refl w.heap.size w).alloc (Nat.le_refl _) _).alloc (by simp) _).alloc (by simp; omega) _
  have bI : Boxed W1 w.heap.size 3 (.int .i64 id) := by rw [hW1]; exact ((Boxed.new w 3 _).alloc _).alloc _
  have bA : Boxed W1 (w.heap.size + 1) 22 (.slice none 0 0) := by
    rw [hW1]
    have := Boxed.new (w.alloc (.cells #[.int .i64 id] 3)) 22 (.slice none 0 0)
    rw [World.size_alloc] at this
    exact this.alloc _
  have bB : Boxed W1 (w.heap.size + 2) 22 (.slice none 0 0) := by
    rw [hW1]
    have := Boxed.new ((w.alloc (.cells #[.int .i64 id] 3)).alloc (.cells #[.slice none 0 0] 22)) 22 (.slice none 0 0)
    rw [World.size_alloc, World.size_alloc] at this
    exact this
  have cT := inturn25 _ ys W1 (hE.below hb1).1
  obtain ⟨W2, hW2⟩ : ∃ W2, W2 = W1.alloc (.cells #[.slice a ys.length c] 22) := ⟨_, rfl⟩
  rw [← hW2] at cT
  have hs2 : W2.heap.size = w.heap.size + 4 := by rw [hW2]; simp [hs1]
  have bL : Boxed W2 (w.heap.size + 3) 22 (.slice a ys.length c) := by rw [hW2, ← hs1]; exact Boxed.new W1 22 _
  have hb2 : Below w.heap.size w W2 := by rw [hW2]; exact hb1.alloc (by omega) _
  have h0 : I27 w id [] W2 := ⟨by rw [hW2]; exact bI.alloc _, ⟨.slice none 0 0, .slice none 0 0, by rw [hW2]; exact bA.alloc _, by rw [hW2]; exact bB.alloc _, eown_nil _ _, eown_nil _ _, fun b h => (by cases h)⟩, hb2⟩
  have SQ := iter36 4 w W2 (w.heap.size + 3) a c ys hE hb2 (by omega) bL.cell
  clear bI bA bB bL hb1
  refine callsIn_wide.1 (callsIn_of_wp_marks (n := 5) Try.func27 rfl trivial ?_ rfl)
  simp only [Try.ntmps27, List.size_toArray, List.length_cons, List.length_nil, Nat.reduceAdd, Nat.reduceSub, Array.replicate_succ, Array.replicate_zero, List.push_toArray, List.append_toArray, List.nil_append, List.cons_append]
  gi_wp2_with fail
  rw [← hW1]
  rw [hs1] at cT
  refine wideC' (cT.mono ?_)
  rintro e V2 ⟨rfl, rfl⟩
  clear cT hW1 hW2
  gi_wp2_with fail
  rw [show w.heap.size + 1 + 1 = w.heap.size + 2 from rfl]
  refine wpIn_rangeFuncV rfl (by decide) (gf := 36) (lb := #[.pointer (some ⟨w.heap.size + 3, 0, none⟩)]) rfl trivial (enters_of Try.func36 (by kernel_rfl) rfl) SQ (Below.refl _ _) (fun _ => rfl)
    (w.heap.size + 4) (w.heap.size + 4 + 2 + 2) hs2 rfl (by omega) (by omega) (by omega)
    (I27 w id) (fun _ _ _ => False) (abK_27 w id) (fun _ _ _ _ _ hs _ _ => hs) h0 ?round ?done ?stop
  case round =>
    rintro l pre ⟨⟨x1, x2⟩, y1, y2⟩ W hI hsz hpre
    have hpl := (uptoE_at hpre).1
    have HQ := Lib.hid (And.intro hI (And.intro hsz hpl))
    clear hE hb2 SQ hI hpre h0 hpl
    simp [encE]
    gi_wp2_with fail
    refine ⟨Keep.alloc _ _ _ _, (Below.refl _ W).alloc (by omega) _, fun V hg => ?_⟩
    obtain ⟨⟨e0, e1⟩, hs⟩ := one_new y1 y2 hg (by omega)
    obtain ⟨h1, ⟨v, u, h2⟩, h3⟩ := HQ.out.1
    have hnew : W.grownBy (W.alloc (.cells #[.int .i64 y1, .int .i64 y2] 52)) none := World.grownBy_alloc W _ none
    have hi : Boxed V w.heap.size 3 (.int .i64 id) := (h1.alloc _).kept hg (by simp <;> omega)
    have h2V : Two w.heap.size V v u (loE (seconds pre) id) (hiE (seconds pre) id) := (h2.turn hnew (fun r e => by cases e)).turn hg (fun r e => by cases e; omega)
    have hbw : Below w.heap.size w V := (h3.alloc (by omega) _).grown hg (by simp; omega) (fun k e => by cases e; omega)
    have hvW : ∀ b, v.ownBlock = some b → b ≠ W.heap.size := fun b hb => by have := (h2.2.2.1.lt b hb).2; omega
    have huW : ∀ b, u.ownBlock = some b → b ≠ W.heap.size := fun b hb => by have := (h2.2.2.2.1.lt b hb).2; omega
    have hpv : (loE (seconds pre) id).length ≤ 3000 ∧ (hiE (seconds pre) id).length ≤ 3000 := by
      have h7 : (seconds pre).length = pre.length := by simp [seconds]
      have h8 := HQ.out.2.2
      have h9 : (loE (seconds pre) id).length ≤ (seconds pre).length := List.length_filter_le _ _
      have h10 : (hiE (seconds pre) id).length ≤ (seconds pre).length := List.length_filter_le _ _
      omega
    clear hnew h1 h2 h3
    obtain ⟨a3, c3, rfl⟩ := h2V.2.2.1.form
    obtain ⟨a4, c4, rfl⟩ := h2V.2.2.2.1.form
    have HS := Lib.hid (seconds_snoc pre ((x1, x2), y1, y2))
    obtain ⟨xs, hxs⟩ : ∃ xs, loE (seconds pre) id = xs := ⟨_, rfl⟩
    obtain ⟨zs, hzs⟩ : ∃ zs, hiE (seconds pre) id = zs := ⟨_, rfl⟩
    rw [hxs] at h2V hpv hvW
    rw [hzs] at h2V hpv huW
    have HXS := Lib.hid hxs
    have HZS := Lib.hid hzs
    have HV := Lib.hid (And.intro hi (And.intro h2V hbw))
    have HE8 : Hid (w.heap.size + 8 ≤ V.heap.size) := by show _ ≤ _; omega
    have HVW := Lib.hid hvW
    have HUW := Lib.hid huW
    have HGV := Lib.hid (show W.heap.size < V.heap.size by omega)
    have HGE := Lib.hid (show w.heap.size + 8 ≤ W.heap.size by omega)
    have r0 := hi.cell
    have r1 := h2V.1.cell
    have r2 := h2V.2.1.cell
    clear hi hbw hg hvW huW hxs hzs
    generalize W.heap.size = g at *
    by_cases c1 : y1 < id
    · have c2 : ¬ id < y1 := by omega
      have HC := Lib.hid (And.intro c1 c2)
      obtain ⟨gq, cq, wq, hr, hq1, hq2, hq3⟩ := run_gapp2 RE (V.alloc (.cells #[.int .i64 y1, .int .i64 y2] 52)) 22 (w.heap.size + 8) (.slice a3 xs.length c3) xs (gown_below h2V.2.2.1 ((Below.refl _ _).alloc (Nat.le_refl _) _)) V.heap.size (y1, y2) (ec_alloc V y1 y2) hpv.1 (by simp; have := HE8.out; omega)
      obtain ⟨k1, k2, k3, k4, k5, k6, k7, k8⟩ := two_step (E := w.heap.size + 8) (n₀ := w.heap.size) (c := w.heap.size + 3) (B := w.heap.size + 1) (by omega) (by omega) (by omega) HE8.out h2V.1 h2V.2.2.1 h2V.2.2.2.1 h2V.2.2.2.2 hq1 hq2 hq3
      have s0 := k1.cell
      have s1 := k1.frozen
      have HR := Lib.hid hr
      have HK := Lib.hid (And.intro k2 (And.intro k3 (And.intro k4 (And.intro k5 (And.intro k6 (And.intro k7 k8))))))
      have t1 : wq.cell? ⟨g, 0, none⟩ = some (.int .i64 y1) :=
        (World.cell?_of_block (a := ⟨g, 0, none⟩) ((Below.heap_setCell wq ⟨w.heap.size + 1, 0, none⟩ _ g (by have := HGE.out; show g ≠ w.heap.size + 1; omega)).symm.trans (k8 g HGV.out (by have := HGE.out; omega) (fun e => HVW.out g e rfl)))).trans e0
      have t2 : wq.cell? ⟨w.heap.size, 0, none⟩ = some (.int .i64 id) :=
        (World.cell?_of_block (a := ⟨w.heap.size, 0, none⟩) ((Below.heap_setCell wq ⟨w.heap.size + 1, 0, none⟩ _ w.heap.size (by show w.heap.size ≠ w.heap.size + 1; omega)).symm.trans (k8 w.heap.size (by have := HE8.out; omega) (by omega) (fun e => by have := (h2V.2.2.1.lt _ e).1; omega)))).trans r0
      have t3 : g ≠ w.heap.size + 1 := by have := HGE.out; omega
      clear hr hq1 hq2 hq3 k1 k2 k3 k4 k5 k6 k7 k8 h2V c1
      have c1 : y1 < id := HC.out.1
      gi_wp2_with (gi_at_builtin; refine app_in rfl (.tmp 18) (.tmp 20) 22 rfl _ _ _ _ rfl rfl HR.out ?_)
      obtain ⟨m2, m3, m4, m5, m6, m7, m8⟩ := HK.out
      have hlo : loE (seconds (pre ++ [((x1, x2), y1, y2)])) id = xs ++ [(y1, y2)] := by rw [HS.out, loE_snoc, if_pos HC.out.1, HXS.out]
      have hhi : hiE (seconds (pre ++ [((x1, x2), y1, y2)])) id = zs := by rw [HS.out, hiE_snoc, if_neg (by have := HC.out.2; omega), HZS.out]
      refine ⟨m6, m7, boxed_same HV.out.1 (m8 w.heap.size (by have := HE8.out; omega) (by omega) (fun e => by have := (HV.out.2.1.2.2.1.lt _ e).1; omega)), ⟨.slice (some ⟨gq, 0, none⟩) (xs.length + 1) cq, .slice a4 zs.length c4, ?_⟩, HV.out.2.2.trans m7⟩
      rw [hlo, hhi]
      exact ⟨m2, boxed_same HV.out.2.1.2.1 (m8 (w.heap.size + 2) (by have := HE8.out; omega) (by omega) (fun e => by have := (HV.out.2.1.2.2.1.lt _ e).1; omega)), m3, m4, m5⟩
    · by_cases c2 : id < y1
      · have HC := Lib.hid (And.intro c1 c2)
        obtain ⟨gq, cq, wq, hr, hq1, hq2, hq3⟩ := run_gapp2 RE (V.alloc (.cells #[.int .i64 y1, .int .i64 y2] 52)) 22 (w.heap.size + 8) (.slice a4 zs.length c4) zs (gown_below h2V.2.2.2.1 ((Below.refl _ _).alloc (Nat.le_refl _) _)) V.heap.size (y1, y2) (ec_alloc V y1 y2) hpv.2 (by simp; have := HE8.out; omega)
        obtain ⟨k1, k2, k3, k4, k5, k6, k7, k8⟩ := two_step (E := w.heap.size + 8) (n₀ := w.heap.size) (c := w.heap.size + 3) (B := w.heap.size + 2) (by omega) (by omega) (by omega) HE8.out h2V.2.1 h2V.2.2.2.1 h2V.2.2.1 (fun b hb he => h2V.2.2.2.2 b he hb) hq1 hq2 hq3
        have s0 := k1.cell
        have s1 := k1.frozen
        have HR := Lib.hid hr
        have HK := Lib.hid (And.intro k2 (And.intro k3 (And.intro k4 (And.intro k5 (And.intro k6 (And.intro k7 k8))))))
        clear hr hq1 hq2 hq3 k1 k2 k3 k4 k5 k6 k7 k8 h2V
        gi_wp2_with (gi_at_builtin; refine app_in rfl (.tmp 26) (.tmp 28) 22 rfl _ _ _ _ rfl rfl HR.out ?_)
        obtain ⟨m2, m3, m4, m5, m6, m7, m8⟩ := HK.out
        have hlo : loE (seconds (pre ++ [((x1, x2), y1, y2)])) id = xs := by rw [HS.out, loE_snoc, if_neg (by have := HC.out.1; omega), HXS.out]
        have hhi : hiE (seconds (pre ++ [((x1, x2), y1, y2)])) id = zs ++ [(y1, y2)] := by rw [HS.out, hiE_snoc, if_pos HC.out.2, HZS.out]
        refine ⟨m6, m7, boxed_same HV.out.1 (m8 w.heap.size (by have := HE8.out; omega) (by omega) (fun e => by have := (HV.out.2.1.2.2.2.1.lt _ e).1; omega)), ⟨.slice a3 xs.length c3, .slice (some ⟨gq, 0, none⟩) (zs.length + 1) cq, ?_⟩, HV.out.2.2.trans m7⟩
        rw [hlo, hhi]
        exact ⟨boxed_same HV.out.2.1.1 (m8 (w.heap.size + 1) (by have := HE8.out; omega) (by omega) (fun e => by have := (HV.out.2.1.2.2.2.1.lt _ e).1; omega)), m2, m4, m3, fun b hb he => m5 b he hb⟩
      · have HC := Lib.hid (And.intro c1 c2)
        clear h2V
        gi_wp2_with fail
        have hlo : loE (seconds (pre ++ [((x1, x2), y1, y2)])) id = xs := by rw [HS.out, loE_snoc, if_neg (by have := HC.out.1; omega), HXS.out]
        have hhi : hiE (seconds (pre ++ [((x1, x2), y1, y2)])) id = zs := by rw [HS.out, hiE_snoc, if_neg (by have := HC.out.2; omega), HZS.out]
        refine ⟨Keep.refl _ _ _, Below.refl _ _, HV.out.1, ⟨.slice a3 xs.length c3, .slice a4 zs.length c4, ?_⟩, HV.out.2.2⟩
        rw [hlo, hhi]
        exact HV.out.2.1
  case done =>
    rintro W ⟨hI, ⟨v, u, h2⟩, hbel⟩ hK
    rw [seconds_upto] at h2
    have hm : Try.prog.follows .mixedOrders = true := by kernel_rfl
    obtain ⟨a3, c3, rfl⟩ := h2.2.2.1.form
    obtain ⟨a4, c4, rfl⟩ := h2.2.2.2.1.form
    have r1 := h2.1.cell
    have r2 := h2.2.1.cell
    have h3 : Two w.heap.size (W.drew.putObj (w.heap.size + 4) (.deferred none)) _ _ _ _ := (h2.turn (grownBy_drew W) (fun r e => by cases e)).turn (grownBy_putObj' W.drew (w.heap.size + 4) (.deferred none)) (fun r e => by cases e; omega)
    have h4 : Below w.heap.size w (W.drew.putObj (w.heap.size + 4) (.deferred none)) := hbel.drew.grown (grownBy_putObj' _ _ _) hbel.size (fun k e => by cases e; omega)
    have HZ := Lib.hid (And.intro h3 (And.intro h4 hK))
    clear h2 h3 h4 hI hbel hK hE hb2 SQ h0
    obtain ⟨L1, hL1⟩ : ∃ L1, (loE ys id).length = L1 := ⟨_, rfl⟩
    obtain ⟨L2, hL2⟩ : ∃ L2, (hiE ys id).length = L2 := ⟨_, rfl⟩
    rw [hL1] at r1 HZ
    rw [hL2] at r2 HZ
    clear hL1 hL2
    gi_wp2_with fail
    gi_region_o
    gi_wp2_with fail
    refine postM_cell HZ.out.2.2 (v := .tuple #[.slice a3 L1 c3, .slice a4 L2 c4]) (by simp [results, Try.results27, go_sem]) ⟨⟨_, _, rfl, HZ.out.1.2.2.1.mono (by omega), HZ.out.1.2.2.2.1.mono (by omega), HZ.out.1.2.2.2.2⟩, HZ.out.2.1⟩
  case stop =>
    rintro ex pre W hpre h
    exact h.elim
#print axioms others_any
end Go.Proofs.Ytaflgabjpcfgpaa
