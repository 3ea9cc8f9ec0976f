/- The reference's views: Own, Same, Get, Right. No conditions but on lengths. The reference's views: Get, Right. No conditions but on lengths. The reference's views: Set, Drop. No conditions but on lengths. The reference's views: Drop. No conditions but on lengths. The reference's views: Forget. No conditions but on lengths. The reference's views: Lowest. No conditions but on lengths. The reference's views: which order they are listed in. No conditions but on lengths. The reference's views: Below, Above. No conditions but on lengths. -/
import Derived.Test.YtmimgpnogjgliaaVrw
import Derived.Test.YtmimgpnogjgliaaTyped
import Derived.Test.YtmimgpnogjgliaaTyp2
import Derived.Deep.RegionHeld3
import Derived.Orders
import Derived.IntWalk
import Derived.Deep.Cut
import Derived.Deep.CutBlock
namespace Go.Proofs.Ytmimgpnogjgliaa
set_option maxRecDepth 100000
open Go.RowKit

theorem vrow_ext {l l' : List Vw} (hn : l.length = l'.length) (h : ∀ i, i < l.length → l.getD i zVw = l'.getD i zVw) : l = l' := by
  refine List.ext_getElem hn fun i h1 h2 => ?_
  have := h i h1
  simpa [List.getD, h1, h2] using this
theorem vtake_succ (l : List Vw) (k : Nat) (h : k < l.length) : l.take (k + 1) = l.take k ++ [l.getD k zVw] := by
  rw [List.take_add_one]
  simp [List.getD, h]
/-- A whole readable slice behind a row of one's own. -/
theorem run_gappv (w : World) (ty : TypeId) (S : Nat) (v : Value) (xs : List Vw) (hown : OwV w S v xs) (u : Value) (ys : List Vw) (hu : Vs w u ys) (hl : xs.length + ys.length ≤ 3000) (hS : S ≤ w.heap.size) :
    ∃ r w', (Builtin.append_ #[22, 22] ty #[v, u]).run Try.prog w = .ok r w' ∧ OwV w' S r (xs ++ ys) ∧ w.grownBy w' v.ownBlock ∧ (∀ g, r.ownBlock = some g → v.ownBlock = some g ∨ w.heap.size ≤ g) := by
  obtain ⟨i0, hi, hz0, hz1, hz2⟩ := info_parts RV.hinfo
  have e : gflat RV (xs ++ ys) = gflat RV xs ++ gflat RV ys := gflat_app RV xs ys
  have e2 : (xs ++ ys).length = xs.length + ys.length := by simp
  have hfy : (gflat RV ys).length = ys.length * 7 := gflat_len RV ys
  have hone := gflat_ones RV ys
  have hby : (xs.length + ys.length) * 56 ≤ 140737488355328 := Nat.le_trans (Nat.mul_le_mul_right 56 hl) (by decide)
  have go : ∀ (a : Addr) (c : Nat), (∀ j q, (gflat RV ys)[j]? = some q → w.cell? (a.add j) = some q) →
      ∃ r w', (Builtin.append_ #[22, 22] ty #[v, .slice (some a) ys.length c]).run Try.prog w = .ok r w' ∧ OwV w' S r (xs ++ ys) ∧ w.grownBy w' v.ownBlock ∧ (∀ g, r.ownBlock = some g → v.ownBlock = some g ∨ w.heap.size ≤ g) := by
    intro a c hnews
    obtain ⟨v', w', hr, h2, h3, _, h5⟩ := run_append_own_at (P := Try.prog) w S 22 ty 43 i0 RV.zero 7 56 RV.hSL hi hz0 hz1 hz2 RV.hz (by decide) v xs.length (gflat RV xs) hown a ys.length c (gflat RV ys) hfy hnews hone (by unfold maxLen; omega) hby hS
    refine ⟨v', w', hr, ?_, h3, fun g hg => ?_⟩
    · unfold OwV
      rw [e, e2]; exact h2
    · rcases h5 with h | h
      · exact .inl (h ▸ hg)
      · rw [h] at hg
        exact .inr (by cases hg; exact Nat.le_refl _)
  rcases hu with ⟨a, cap, rfl, hc, rfl⟩ | ⟨b, off, cap, rfl, h2, h3, h4⟩
  · cases a with
    | none =>
      obtain rfl := hc rfl
      refine ⟨v, w, run_append_owned_none (P := Try.prog) (w := w) S 22 ty 43 i0 7 RV.hSL hi v xs.length (gflat RV xs) hown, ?_, ⟨rfl, rfl, rfl, Nat.le_refl _, fun _ _ _ => rfl⟩, fun g hg => .inl hg⟩
      exact (congrArg (fun z : List Vw => OwV w S v z) (List.append_nil xs)).mpr hown
    | some a => exact go a cap (fun j q hj => by simp [gflat] at hj)
  · refine go ⟨b, off, none⟩ cap (fun j q hj => ?_)
    have hlt := (List.getElem?_eq_some_iff.1 hj).1
    rw [hfy] at hlt
    have hd : j / 7 < ys.length := by omega
    have h5 := h4 (j / 7) hd (j % 7) (Nat.mod_lt _ (by decide))
    have h6 := gflat_at RV ys (j / 7) (j % 7) hd (Nat.mod_lt _ (by decide))
    have h7 : j / 7 * RV.K + j % 7 = j := by show j / 7 * 7 + j % 7 = j; omega
    rw [h7] at h6
    rw [add_spot', ← hj, h6, ← h5]
    congr 2
    show off + j = off + j / 7 * 7 + j % 7
    omega
/-- The reference's Own: views in memory of their own. -/
theorem rvown_any (v : Value) (l : List Vw) (w : World) (h : Vs w v l) (hl : l.length ≤ 1000) :
    Calls Try.prog 8 #[v] w fun e w' => (∃ a c, e = .returned (.slice a l.length c) ∧ OwV w' w.heap.size (.slice a l.length c) l) ∧ Below w.heap.size w w' := by
  obtain ⟨r, w2, hr, ho, hg, _⟩ := run_gappv w 22 w.heap.size (.slice none 0 0) [] (OwV_nil w _) v l h (by simp; omega) (Nat.le_refl _)
  rw [List.nil_append] at ho
  obtain ⟨a, c, rfl⟩ := h.form
  obtain ⟨a2, c2, rfl⟩ := ho.form
  have HO := Lib.hid ho
  have HB : Hid (Below w.heap.size w w2) := (Below.refl _ w).grown hg (Nat.le_refl _) (fun k hk => by cases hk)
  clear ho hg h
  go_enter Try.func8, Try.ntmps8
  go_wp2_with (at_builtin; refine app_go rfl (.tmp 4) (.tmp 5) 22 rfl _ _ _ _ rfl rfl hr ?_)
  go_ret
  exact ⟨⟨a2, c2, rfl, HO.out⟩, HB.out⟩
set_option maxHeartbeats 8000000 in
/-- The reference's Same of views. -/
theorem rvsame_any (v u : Value) (ys zs : List Vw) (w : World) (hy : Vs w v ys) (hz : Vs w u zs) (hl : ys.length ≤ 3000) :
    Calls Try.prog 22 #[v, u] w fun e w' => e = .returned (.bool (decide (ys = zs))) ∧ Below w.heap.size w w' := by
  obtain ⟨a, c, rfl⟩ := hy.form
  obtain ⟨a', c', rfl⟩ := hz.form
  have HY := Lib.hid hy
  have HZ := Lib.hid hz
  clear hy hz
  by_cases hne : ys.length = zs.length
  · have hL : ((ys.length : Int) != (zs.length : Int)) = false := by rw [hne]; simp
    have HN := Lib.hid hne
    clear hne
    go_enter Try.func22, Try.ntmps22
    go_wp2_with fail
    go_loopw [5] (fun i wr => ∃ k : Nat, k ≤ ys.length ∧ i = .int .i64 k ∧ (∀ i, i < k → ys.getD i zVw = zs.getD i zVw) ∧ Below w.heap.size w wr) (fun i _ => ys.length - (intOf i).toNat)
    case atStart => exact ⟨0, Nat.zero_le _, rfl, fun i h => absurd h (Nat.not_lt_zero _), Below.refl _ _⟩
    case round =>
      obtain ⟨k, hk, rfl, hsame, hbel⟩ := hrel
      have HS := Lib.hid hsame
      have HW := Lib.hid hbel
      clear hsame hbel
      by_cases hlt : k < ys.length
      · obtain ⟨b, off, rfl, hB, p0, p1, p2, p3, p4, p5, p6⟩ := (HY.out.below HW.out).at hlt
        have hlt2 : k < zs.length := by have := HN.out; omega
        obtain ⟨b2, off2, rfl, hB2, q0, q1, q2, q3, q4, q5, q6⟩ := (HZ.out.below HW.out).at hlt2
        obtain ⟨y, hyk⟩ : ∃ y, ys.getD k zVw = y := ⟨_, rfl⟩
        obtain ⟨z, hzk⟩ : ∃ z, zs.getD k zVw = z := ⟨_, rfl⟩
        rw [hyk] at p0 p1 p2 p3 p4 p5 p6
        rw [hzk] at q0 q1 q2 q3 q4 q5 q6
        have HK := Lib.hid hyk
        have HK2 := Lib.hid hzk
        clear hyk hzk
        have E1 := guardVW
        have E2 := fun W => neqVW y z W
        obtain ⟨q, hq⟩ : ∃ q, eqVw y z = q := ⟨_, rfl⟩
        have HQ : Hid (q = true ↔ y = z) := by rw [← hq]; exact eqVw_iff
        simp only [hq] at E2
        clear hq
        go_wp2_with fail
        go_region
        cases q with
        | true =>
          go_wp2_with fail
          go_roundw
          case rel =>
            refine ⟨k + 1, by omega, by go_num, ?_, HW.out.drew⟩
            intro j hj
            by_cases h : j < k
            · exact HS.out j h
            · obtain rfl : j = k := by omega
              rw [HK.out, HK2.out]; exact HQ.out.1 rfl
          case measure => simp [intOf]; omega
        | false =>
          go_wp2_with fail
          go_ret
          refine ⟨?_, HW.out.drew⟩
          have hn : ¬ ys = zs := fun h => by
            subst h
            have := HQ.out.2 (HK.out.symm.trans HK2.out)
            cases this
          rw [decide_eq_false hn]
          rfl
      · obtain rfl : k = ys.length := by omega
        go_wp2_with fail
        go_ret
        rw [decide_eq_true (vrow_ext HN.out HS.out)]
        exact ⟨rfl, HW.out⟩
  · have hL : ((ys.length : Int) != (zs.length : Int)) = true := by simpa using fun h : (ys.length : Int) = zs.length => hne (Int.ofNat.inj h)
    go_enter Try.func22, Try.ntmps22
    go_wp2_with fail
    go_ret
    rw [decide_eq_false (fun h => hne (congrArg List.length h))]
    exact ⟨rfl, Below.refl _ _⟩
end Go.Proofs.Ytmimgpnogjgliaa

namespace Go.Proofs.Ytmimgpnogjgliaa
set_option maxRecDepth 100000
open Go.RowKit

/-- The height of the first view of a node; whether there is one. -/
def isId (id : Int) (y : Vw) : Bool := y.1 == id
def getV (l : List Vw) (id : Int) : Hx := ((l.find? (isId id)).map (·.2)).getD zHx
def getB (l : List Vw) (id : Int) : Bool := l.any (isId id)
theorem get_at {l : List Vw} {id : Int} {k : Nat} (h : k < l.length) (hb : ∀ i, i < k → (l.getD i zVw).1 ≠ id) (hk : (l.getD k zVw).1 = id) :
    getV l id = (l.getD k zVw).2 ∧ getB l id = true := by
  induction k generalizing l with
  | zero =>
    cases l with
    | nil => simp at h
    | cons y r =>
      have hy : isId id y = true := by simpa [isId] using hk
      simp [getV, getB, hy]
  | succ k ih =>
    cases l with
    | nil => simp at h
    | cons y r =>
      have hy : isId id y = false := by have := hb 0 (by omega); simpa [isId] using this
      obtain ⟨h1, h2⟩ := ih (l := r) (by simpa using h) (fun i hi => by have := hb (i + 1) (by omega); simpa using this) (by simpa using hk)
      refine ⟨?_, ?_⟩
      · rw [List.getD_cons_succ, ← h1]; simp [getV, hy]
      · rw [← h2]; unfold getB; rw [List.any_cons, hy, Bool.false_or]
theorem get_no {l : List Vw} {id : Int} (hb : ∀ i, i < l.length → (l.getD i zVw).1 ≠ id) : getV l id = zHx ∧ getB l id = false := by
  have h : ∀ y ∈ l, isId id y = false := by
    intro y hy
    obtain ⟨i, hi, rfl⟩ := List.mem_iff_getElem.1 hy
    have := hb i hi
    simpa [isId, List.getD, hi] using this
  refine ⟨?_, ?_⟩
  · unfold getV
    rw [List.find?_eq_none.2 (fun y hy => by rw [h y hy]; simp)]
    rfl
  · unfold getB
    exact List.any_eq_false.2 fun y hy => by rw [h y hy]; simp
/-- A view that may stand there. -/
def VwAt (l : List Vw) (i : Nat) : Prop := NodeOk (l.getD i zVw).1 ∧ (0 < i → (l.getD (i - 1) zVw).1 < (l.getD i zVw).1) ∧ hOk (l.getD i zVw).2 ∧ (l.getD i zVw).2.2.2.2.2.2 = (l.getD i zVw).1
instance (l : List Vw) (i : Nat) : Decidable (VwAt l i) := by unfold VwAt NodeOk; infer_instance
/-- Views that are right. -/
def VOk (l : List Vw) : Prop := ∀ i, i < l.length → VwAt l i
instance (l : List Vw) : Decidable (VOk l) := by unfold VOk; infer_instance
end Go.Proofs.Ytmimgpnogjgliaa

namespace Go.Proofs.Ytmimgpnogjgliaa
set_option maxRecDepth 100000
open Go.RowKit

theorem vapp1_any {ops : Array Oper} {rest : List Oper} {o : Oper} {a : Act} {Q : Exit → Act → World → Prop} {W : World} (hgd : o.guard = none) (s x : Operand)
    (ho : o.op = .call { callee := .builtin .append, args := #[s, x], argTypes := #[22, 22] }) (w : World) (y : Vw) (hW : W = w.alloc (.cells #[.int .i64 y.1, .bool y.2.1, .int .i64 y.2.2.1, .int .i64 y.2.2.2.1, .int .i64 y.2.2.2.2.1, .int .i64 y.2.2.2.2.2.1, .int .i64 y.2.2.2.2.2.2] 43)) (S : Nat) (v : Value) (xs : List Vw)
    (hs : a.eval s = v) (hx : a.eval x = .slice (some ⟨w.heap.size, 0, none⟩) 1 1) (hown : OwV w S v xs) (hl : xs.length ≤ 3000) (hS : S ≤ w.heap.size)
    (h : ∀ g cap w', OwV w' S (.slice (some ⟨g, 0, none⟩) (xs.length + 1) cap) (xs ++ [y]) → Below S w w' → wpList Try.prog ops Q rest (a.put o.dst (.slice (some ⟨g, 0, none⟩) (xs.length + 1) cap)) w') : wpList Try.prog ops Q (o :: rest) a W :=
  gapp1_any (R := RV) hgd s x ho w y 43 hW S v xs hs hx hown hl hS h
/-- One more of l, where a view of id is being set. -/
def st1 (id : Int) (h : Hx) (acc : List Vw × Bool) (y : Vw) : List Vw × Bool := if acc.2 = false ∧ id ≤ y.1 then (acc.1 ++ [(id, h)], true) else acc
def st2 (id : Int) (acc : List Vw × Bool) (y : Vw) : List Vw × Bool := if y.1 = id then acc else (acc.1 ++ [y], acc.2)
def stS (id : Int) (h : Hx) (acc : List Vw × Bool) (y : Vw) : List Vw × Bool := st2 id (st1 id h acc y) y
def rawF (id : Int) (h : Hx) (r : List Vw × Bool) : List Vw := if r.2 = true then r.1 else r.1 ++ [(id, h)]
def rawS (id : Int) (h : Hx) (l : List Vw) : List Vw := rawF id h (l.foldl (stS id h) ([], false))
def setE (l : List Vw) (id : Int) (h : Hx) : Int := if VOk l ∧ VOk (rawS id h l) then 0 else 1
def setL (l : List Vw) (id : Int) (h : Hx) : List Vw := if VOk l ∧ VOk (rawS id h l) then rawS id h l else []
theorem st1_len (id : Int) (h : Hx) (acc : List Vw × Bool) (y : Vw) (n : Nat) (hn : acc.1.length ≤ n + acc.2.toNat) : (st1 id h acc y).1.length ≤ n + (st1 id h acc y).2.toNat := by
  unfold st1
  by_cases h1 : acc.2 = false ∧ id ≤ y.1
  · rw [if_pos h1, List.length_append]
    rw [h1.1] at hn
    simp only [Bool.toNat_false, Nat.add_zero] at hn
    simp only [List.length_cons, List.length_nil, Bool.toNat_true]
    omega
  · rw [if_neg h1]
    exact hn
theorem st2_len (id : Int) (acc : List Vw × Bool) (y : Vw) (n : Nat) (hn : acc.1.length ≤ n + acc.2.toNat) : (st2 id acc y).1.length ≤ n + 1 + (st2 id acc y).2.toNat := by
  unfold st2
  by_cases h2 : y.1 = id
  · rw [if_pos h2]; omega
  · rw [if_neg h2, List.length_append]
    simp only [List.length_cons, List.length_nil]
    omega
theorem fold_len (id : Int) (h : Hx) (l : List Vw) (acc : List Vw × Bool) (n : Nat) (hn : acc.1.length ≤ n + acc.2.toNat) : (l.foldl (stS id h) acc).1.length ≤ n + l.length + (l.foldl (stS id h) acc).2.toNat := by
  induction l generalizing acc n with
  | nil => exact hn
  | cons y r ih =>
    have := ih (stS id h acc y) (n + 1) (st2_len id _ y n (st1_len id h acc y n hn))
    rw [List.foldl_cons, List.length_cons]
    omega
theorem raw_len (id : Int) (h : Hx) (l : List Vw) : (rawS id h l).length ≤ l.length + 1 := by
  have h1 := fold_len id h l ([], false) 0 (Nat.zero_le _)
  unfold rawS rawF
  cases h2 : (l.foldl (stS id h) ([], false)).2 with
  | true =>
    rw [if_pos rfl]
    rw [h2] at h1
    simp only [Bool.toNat_true] at h1
    omega
  | false =>
    rw [if_neg (by simp), List.length_append]
    rw [h2] at h1
    simp only [Bool.toNat_false] at h1
    simp only [List.length_cons, List.length_nil]
    omega
end Go.Proofs.Ytmimgpnogjgliaa

namespace Go.Proofs.Ytmimgpnogjgliaa
set_option maxRecDepth 100000
open Go.RowKit

/-- All but the view of a node. -/
def dropF (l : List Vw) (id : Int) : List Vw := l.filter (fun y => !isId id y)
theorem dropF_le (l : List Vw) (id : Int) : (dropF l id).length ≤ l.length := List.length_filter_le _ _
theorem drop_step (l : List Vw) (id : Int) (k : Nat) (h : k < l.length) : dropF (l.take (k + 1)) id = dropF (l.take k) id ++ if (l.getD k zVw).1 = id then [] else [l.getD k zVw] := by
  rw [vtake_succ l k h]
  unfold dropF
  rw [List.filter_append]
  congr 1
  generalize l.getD k zVw = z
  by_cases hd : z.1 = id
  · rw [if_pos hd, List.filter_cons_of_neg (by simp [isId, hd])]; rfl
  · rw [if_neg hd, List.filter_cons_of_pos (by simp [isId, hd])]; rfl
def dropE (l : List Vw) (id : Int) : Int := if VOk l then (if (dropF l id).length = l.length then 7 else 0) else 1
def dropL (l : List Vw) (id : Int) : List Vw := if VOk l then (if (dropF l id).length = l.length then [] else dropF l id) else []
end Go.Proofs.Ytmimgpnogjgliaa

namespace Go.Proofs.Ytmimgpnogjgliaa
set_option maxRecDepth 100000
open Go.RowKit

theorem ownV_set1 {w : World} {b : Nat} {y : Vw} (h : OwnV w b y) (x : Hx) : OwnV ((((((w.setCell ⟨b, 1, none⟩ (.bool x.1)).setCell ⟨b, 2, none⟩ (.int .i64 x.2.1)).setCell ⟨b, 3, none⟩ (.int .i64 x.2.2.1)).setCell ⟨b, 4, none⟩ (.int .i64 x.2.2.2.1)).setCell ⟨b, 5, none⟩ (.int .i64 x.2.2.2.2.1)).setCell ⟨b, 6, none⟩ (.int .i64 x.2.2.2.2.2)) b (y.1, x) := by
  obtain ⟨⟨h0, h1, h2, h3, h4, h5, h6⟩, hf⟩ := h
  refine ⟨⟨?_, ?_, ?_, ?_, ?_, ?_, ?_⟩, fun k => ?_⟩ <;> simp [go_sem, h0, h1, h2, h3, h4, h5, h6, hf]
theorem vbel_set1 {B : Nat} {a w : World} {b : Nat} (h : Below B a w) (hB : B ≤ b) (x : Hx) : Below B a ((((((w.setCell ⟨b, 1, none⟩ (.bool x.1)).setCell ⟨b, 2, none⟩ (.int .i64 x.2.1)).setCell ⟨b, 3, none⟩ (.int .i64 x.2.2.1)).setCell ⟨b, 4, none⟩ (.int .i64 x.2.2.2.1)).setCell ⟨b, 5, none⟩ (.int .i64 x.2.2.2.2.1)).setCell ⟨b, 6, none⟩ (.int .i64 x.2.2.2.2.2)) :=
  (((((h.setCell (by exact hB) _).setCell (by exact hB) _).setCell (by exact hB) _).setCell (by exact hB) _).setCell (by exact hB) _).setCell (by exact hB) _
theorem ownr_one {w : World} {S b j : Nat} {v u : Value} {xs : List Vw} (h : OwV w S v xs) (hn : ∀ k, v.ownBlock = some k → k ≠ b) : OwV (w.setCell ⟨b, j, none⟩ u) S v xs := by
  refine ⟨h.1, ?_⟩
  rcases h.2 with h2 | ⟨g, cap, cur, rfl, h3, hg, rest⟩
  · exact .inl h2
  · refine .inr ⟨g, cap, cur, rfl, h3, ?_, rest⟩
    have hne : b ≠ g := fun e => hn g rfl e.symm
    simp [World.setCell, Array.getElem?_modify, hne, hg]
theorem ownr_set1 {w : World} {S b : Nat} {v : Value} {xs : List Vw} (h : OwV w S v xs) (hn : ∀ k, v.ownBlock = some k → k ≠ b) (x : Hx) : OwV ((((((w.setCell ⟨b, 1, none⟩ (.bool x.1)).setCell ⟨b, 2, none⟩ (.int .i64 x.2.1)).setCell ⟨b, 3, none⟩ (.int .i64 x.2.2.1)).setCell ⟨b, 4, none⟩ (.int .i64 x.2.2.2.1)).setCell ⟨b, 5, none⟩ (.int .i64 x.2.2.2.2.1)).setCell ⟨b, 6, none⟩ (.int .i64 x.2.2.2.2.2)) S v xs :=
  ownr_one (ownr_one (ownr_one (ownr_one (ownr_one (ownr_one h hn) hn) hn) hn) hn) hn
/-- What is left of a view, where a level is forgotten. -/
def fgt (v : Lv) (keep : Int) (y : Vw) : Vw := if y.1 ≠ keep ∧ tld y.2 = true ∧ (y.2.2.1, y.2.2.2.1, y.2.2.2.2.1) = v then (y.1, nulX y.2.2.2.2.2.2) else y
def forL (l : List Vw) (v : Lv) (keep : Int) : List Vw := l.map (fgt v keep)
theorem eqLv_iff {t o r t' o' r' : Int} : eqL t o r t' o' r' = true ↔ t = t' ∧ o = o' ∧ r = r' := by simp [eqL]
theorem for_step (l : List Vw) (v : Lv) (keep : Int) (k : Nat) (h : k < l.length) : forL (l.take (k + 1)) v keep = forL (l.take k) v keep ++ [fgt v keep (l.getD k zVw)] := by
  rw [vtake_succ l k h]
  unfold forL
  rw [List.map_append]
  rfl
end Go.Proofs.Ytmimgpnogjgliaa

namespace Go.Proofs.Ytmimgpnogjgliaa
set_option maxRecDepth 100000
open Go.RowKit

theorem ownV_set7 {w : World} {b : Nat} {x : Vw} (h : OwnV w b x) (y : Vw) : OwnV (((((((w.setCell ⟨b, 0, none⟩ (.int .i64 y.1)).setCell ⟨b, 1, none⟩ (.bool y.2.1)).setCell ⟨b, 2, none⟩ (.int .i64 y.2.2.1)).setCell ⟨b, 3, none⟩ (.int .i64 y.2.2.2.1)).setCell ⟨b, 4, none⟩ (.int .i64 y.2.2.2.2.1)).setCell ⟨b, 5, none⟩ (.int .i64 y.2.2.2.2.2.1)).setCell ⟨b, 6, none⟩ (.int .i64 y.2.2.2.2.2.2)) b y := by
  obtain ⟨⟨h0, h1, h2, h3, h4, h5, h6⟩, hf⟩ := h
  refine ⟨⟨?_, ?_, ?_, ?_, ?_, ?_, ?_⟩, fun k => ?_⟩ <;> simp [go_sem, h0, h1, h2, h3, h4, h5, h6, hf]
theorem ownV_off {w : World} {b c j : Nat} {x : Vw} {u : Value} (h : OwnV w c x) (hn : c ≠ b) : OwnV (w.setCell ⟨b, j, none⟩ u) c x := by
  obtain ⟨⟨h0, h1, h2, h3, h4, h5, h6⟩, hf⟩ := h
  have e : ∀ i, (w.setCell ⟨b, j, none⟩ u).cell? ⟨c, i, none⟩ = w.cell? ⟨c, i, none⟩ := fun i => World.cell?_setCell_other _ _ _ _ (fun e => hn (congrArg Addr.block e).symm)
  refine ⟨⟨(e _).trans h0, (e _).trans h1, (e _).trans h2, (e _).trans h3, (e _).trans h4, (e _).trans h5, (e _).trans h6⟩, fun k => by rw [World.frozen?_setCell]; exact hf k⟩
theorem ownV_off7 {w : World} {b c : Nat} {x : Vw} (h : OwnV w c x) (hn : c ≠ b) (y : Vw) : OwnV (((((((w.setCell ⟨b, 0, none⟩ (.int .i64 y.1)).setCell ⟨b, 1, none⟩ (.bool y.2.1)).setCell ⟨b, 2, none⟩ (.int .i64 y.2.2.1)).setCell ⟨b, 3, none⟩ (.int .i64 y.2.2.2.1)).setCell ⟨b, 4, none⟩ (.int .i64 y.2.2.2.2.1)).setCell ⟨b, 5, none⟩ (.int .i64 y.2.2.2.2.2.1)).setCell ⟨b, 6, none⟩ (.int .i64 y.2.2.2.2.2.2)) c x :=
  ownV_off (ownV_off (ownV_off (ownV_off (ownV_off (ownV_off (ownV_off h hn) hn) hn) hn) hn) hn) hn
theorem vbel_set7 {B : Nat} {a w : World} {b : Nat} (h : Below B a w) (hB : B ≤ b) (y : Vw) : Below B a (((((((w.setCell ⟨b, 0, none⟩ (.int .i64 y.1)).setCell ⟨b, 1, none⟩ (.bool y.2.1)).setCell ⟨b, 2, none⟩ (.int .i64 y.2.2.1)).setCell ⟨b, 3, none⟩ (.int .i64 y.2.2.2.1)).setCell ⟨b, 4, none⟩ (.int .i64 y.2.2.2.2.1)).setCell ⟨b, 5, none⟩ (.int .i64 y.2.2.2.2.2.1)).setCell ⟨b, 6, none⟩ (.int .i64 y.2.2.2.2.2.2)) :=
  ((((((h.setCell (by exact hB) _).setCell (by exact hB) _).setCell (by exact hB) _).setCell (by exact hB) _).setCell (by exact hB) _).setCell (by exact hB) _).setCell (by exact hB) _
/-- The lowest one so far; whether one was told. -/
def lowS (acc : Vw × Bool) (y : Vw) : Vw × Bool := if tld y.2 = true ∧ (acc.2 = false ∨ lsx y.2 acc.1.2 = true) then (y, true) else acc
def lowF (l : List Vw) : Vw × Bool := l.foldl lowS (zVw, false)
theorem low_step (l : List Vw) (k : Nat) (h : k < l.length) : lowF (l.take (k + 1)) = lowS (lowF (l.take k)) (l.getD k zVw) := by
  rw [vtake_succ l k h]
  unfold lowF
  rw [List.foldl_append]
  rfl
set_option maxHeartbeats 4000000 in
theorem rvlow_any (v : Value) (l : List Vw) (w : World) (hv : Vs w v l) (hl : l.length ≤ 1000) :
    Calls Try.prog 59 #[v] w fun e w' => e = .returned (.tuple #[vwV (lowF l).1, .bool (lowF l).2]) ∧ Below w.heap.size w w' := by
  obtain ⟨a, c, rfl⟩ := hv.form
  obtain ⟨w1, hw1⟩ : ∃ w1, (w.alloc (.cells #[.int .i64 0, .bool false, .int .i64 0, .int .i64 0, .int .i64 0, .int .i64 0, .int .i64 0] 43)).alloc (.cells #[.int .i64 0, .bool false, .int .i64 0, .int .i64 0, .int .i64 0, .int .i64 0, .int .i64 0] 43) = w1 := ⟨_, rfl⟩
  have hr1 : OwnV (w.alloc (.cells #[.int .i64 0, .bool false, .int .i64 0, .int .i64 0, .int .i64 0, .int .i64 0, .int .i64 0] 43)) w.heap.size zVw := ownV_alloc w zVw w.heap.size rfl 43
  have hb1 : Below w.heap.size w (w.alloc (.cells #[.int .i64 0, .bool false, .int .i64 0, .int .i64 0, .int .i64 0, .int .i64 0, .int .i64 0] 43)) := (Below.refl _ w).alloc (Nat.le_refl _) _
  have hr2 : OwnV w1 w.heap.size zVw := hw1 ▸ hr1.below ((Below.refl _ _).alloc (Nat.le_refl _) _)
  have hr3 : OwnV w1 (w.heap.size + 1) zVw := hw1 ▸ ownV_alloc (w.alloc (.cells #[.int .i64 0, .bool false, .int .i64 0, .int .i64 0, .int .i64 0, .int .i64 0, .int .i64 0] 43)) zVw (w.heap.size + 1) (by simp) 43
  have hb2 : Below w.heap.size w w1 := hw1 ▸ hb1.alloc hb1.size _
  have HV := Lib.hid hv
  have OR1 := Lib.hid hr2
  have OB1 := Lib.hid hr3
  have HB1 := Lib.hid hb2
  have HW1 := Lib.hid hw1
  clear hv hr1 hb1 hr2 hr3 hb2 hw1
  go_enter Try.func59, Try.ntmps59
  go_upto_region 2 with (fail)
  rw [HW1.out]
  go_wp2_with fail
  go_loopw [5, 6] (fun av i wr => ∃ (k : Nat) (best : Vw) (an : Bool), k ≤ l.length ∧ i = .int .i64 k ∧ av = .bool an ∧ Hid (lowF (l.take k) = (best, an)) ∧ Hid (OwnV wr (w.heap.size + 1) best) ∧ Hid (OwnV wr w.heap.size zVw) ∧ Hid (Below w.heap.size w wr)) (fun _ i _ => l.length - (intOf i).toNat)
  case atStart => exact ⟨0, zVw, false, Nat.zero_le _, rfl, rfl, rfl, OB1.out, OR1.out, HB1.out⟩
  case round =>
    obtain ⟨k, best, an, hk, rfl, rfl, HF, OB, OR, HB⟩ := hrel
    by_cases hlt : k < l.length
    · have hst := low_step l k hlt
      rw [HF.out] at hst
      obtain ⟨b2, off, rfl, hB, p0, p1, p2, p3, p4, p5, p6⟩ := (HV.out.below HB.out).at hlt
      obtain ⟨y, hy⟩ : ∃ y, l.getD k zVw = y := ⟨_, rfl⟩
      rw [hy] at p0 p1 p2 p3 p4 p5 p6 hst
      have HY := Lib.hid hy
      clear hy
      have kc : ∀ w', Below wr.heap.size wr w' → C7 w' b2 (off + k * 7) y ∧ C7 w' (w.heap.size + 1) 0 best := fun w' hb => ⟨C7.below ⟨p0, p1, p2, p3, p4, p5, p6⟩ hb hB, OB.out.1.below hb OB.out.lt⟩
      simp only [C7, Nat.zero_add] at kc
      clear p0 p1 p2 p3 p4 p5 p6 hB
      have cT := fun W => rtold_any y.2.1 y.2.2.1 y.2.2.2.1 y.2.2.2.2.1 y.2.2.2.2.2.1 y.2.2.2.2.2.2 W
      have cX := fun W => rless_any y.2.1 y.2.2.1 y.2.2.2.1 y.2.2.2.2.1 y.2.2.2.2.2.1 y.2.2.2.2.2.2 best.2.1 best.2.2.1 best.2.2.2.1 best.2.2.2.2.1 best.2.2.2.2.2.1 best.2.2.2.2.2.2 W
      cases g2 : tld y.2 with
      | false =>
        rw [show told y.2.1 y.2.2.1 y.2.2.2.1 y.2.2.2.2.1 y.2.2.2.2.2.1 y.2.2.2.2.2.2 = false from g2] at cT
        have HST : Hid (lowF (l.take (k + 1)) = (best, an)) := by
          show _ = _
          rw [hst]
          unfold lowS
          rw [if_neg (fun h => by rw [g2] at h; exact absurd h.1 (by decide))]
        clear hst
        go_upto_region 6 with (fail)
        refine wp_region_typed (C := fun w' => Below wr.heap.size wr w') (X := fun w w' => Below w.heap.size w w') (n := 40) (by kernel_rfl) (by kernel_rfl) rfl (fun w => Below.refl _ w) (Below.refl _ _).drew ?_
        refine w_is (fun w => Below.refl _ w) _ (.inl rfl) (fun ρ w hC hc hfn hf => by have e0 : ρ (.tmp 0) = _ := hf 0 (by decide); (conv => lhs; simp [execOp, go_sem, hc, e0])) ?_
        refine w_is (fun w => Below.refl _ w) _ (.inl rfl) (fun ρ w hC hc hfn hf => by have e6 : ρ (.tmp 6) = _ := hf 6 (by decide); (conv => lhs; simp [execOp, go_sem, hc, e6])) ?_
        refine w_is (fun w => Below.refl _ w) _ (.inl rfl) (fun ρ w hC hc hfn hf => by have e14 : ρ (.tmp 14) = _ := hf 14 (by decide); have e15 : ρ (.tmp 15) = _ := hf 15 (by decide); (conv => lhs; simp [execOp, go_sem, hc, e14, e15, hlt])) ?_
        refine w_is (fun w => Below.refl _ w) _ (.inl rfl) (fun ρ w hC hc hfn hf => by have e16 : ρ (.tmp 16) = _ := hf 16 (by decide); (conv => lhs; simp [execOp, go_sem, hc, e16])) ?_
        refine w_is (fun w => Below.refl _ w) _ (.inl rfl) (fun ρ w hC hc hfn hf => by have e17 : ρ (.tmp 17) = _ := hf 17 (by decide); (conv => lhs; simp [execOp, go_sem, hc, e17, kc w hC])) ?_
        refine w_call (Is _) (fun _ _ _ h _ => h) 34 (.inl rfl) (fun ρ w hC hc hfn hf => by have e18 : ρ (.tmp 18) = _ := hf 18 (by decide); exact ⟨_, by (conv => lhs; simp [execOp, resolve, invoke, go_sem, hc, hfn, e18]), tc_below hC (cT w)⟩) ?_
        refine w_is (fun w => Below.refl _ w) _ (.inl rfl) (fun ρ w hC hc hfn hf => by have e19 : ρ (.tmp 19) = _ := hf 19 (by decide); (conv => lhs; simp [execOp, go_sem, hc, e19])) ?_
        refine w_skip rfl rfl (known_is rfl) ?_
        refine w_skip rfl rfl (known_is rfl) ?_
        refine w_skip rfl rfl (known_is rfl) ?_
        refine w_skipU rfl rfl (known_is rfl) ?_
        refine w_skipU rfl rfl (known_is rfl) ?_
        refine w_skipU rfl rfl (known_is rfl) ?_
        refine w_skipU rfl rfl (known_is rfl) ?_
        refine w_skipU rfl rfl (known_is rfl) ?_
        refine w_skipU rfl rfl (known_is rfl) ?_
        refine w_skipU rfl rfl (known_is rfl) ?_
        refine w_skipU rfl rfl (known_is rfl) ?_
        refine w_skip rfl rfl (known_is rfl) ?_
        refine w_is (fun w => Below.refl _ w) _ (.inl rfl) (fun ρ w hC hc hfn hf => by have e20 : ρ (.tmp 20) = _ := hf 20 (by decide); have e32 : ρ (.tmp 32) = _ := hf 32 (by decide); (conv => lhs; simp [execOp, go_sem, hc, e20, e32])) ?_
        intro A V5 hC hn hd hf
        have y0 : A.eval (.tmp 0) = _ := Eq.trans (hf 0) (by conv => lhs; simp [go_sem])
        have y1 : A.eval (.tmp 1) = _ := Eq.trans (hf 1) (by conv => lhs; simp [go_sem])
        have y2 : A.eval (.tmp 2) = _ := Eq.trans (hf 2) (by conv => lhs; simp [go_sem])
        have y3 : A.eval (.tmp 3) = _ := Eq.trans (hf 3) (by conv => lhs; simp [go_sem])
        have y4 : A.eval (.tmp 4) = _ := Eq.trans (hf 4) (by conv => lhs; simp [go_sem])
        have y5 : A.eval (.tmp 5) = _ := Eq.trans (hf 5) (by conv => lhs; simp [go_sem])
        have y6 : A.eval (.tmp 6) = _ := Eq.trans (hf 6) (by conv => lhs; simp [go_sem])
        have y7 : A.eval (.tmp 7) = _ := Eq.trans (hf 7) (by conv => lhs; simp [go_sem])
        have y8 : A.eval (.tmp 8) = _ := Eq.trans (hf 8) (by conv => lhs; simp [go_sem])
        have y9 : A.eval (.tmp 9) = _ := Eq.trans (hf 9) (by conv => lhs; simp [go_sem])
        have y10 : A.eval (.tmp 10) = _ := Eq.trans (hf 10) (by conv => lhs; simp [go_sem])
        have y11 : A.eval (.tmp 11) = _ := Eq.trans (hf 11) (by conv => lhs; simp [go_sem])
        have y12 : A.eval (.tmp 12) = _ := Eq.trans (hf 12) (by conv => lhs; simp [go_sem])
        have y13 : A.eval (.tmp 13) = _ := Eq.trans (hf 13) (by conv => lhs; simp [go_sem])
        have y14 : A.eval (.tmp 14) = _ := hf 14
        have y15 : A.eval (.tmp 15) = _ := hf 15
        have y16 : A.eval (.tmp 16) = _ := hf 16
        have y17 : A.eval (.tmp 17) = _ := hf 17
        have y18 : A.eval (.tmp 18) = _ := hf 18
        have y19 : A.eval (.tmp 19) = _ := hf 19
        have y20 : A.eval (.tmp 20) = _ := hf 20
        have y21 : A.eval (.tmp 21) = _ := hf 21
        have y22 : A.eval (.tmp 22) = _ := hf 22
        have y23 : A.eval (.tmp 23) = _ := hf 23
        have y24 : A.eval (.tmp 24) = _ := hf 24
        have y25 : A.eval (.tmp 25) = _ := hf 25
        have y26 : A.eval (.tmp 26) = _ := hf 26
        have y27 : A.eval (.tmp 27) = _ := hf 27
        have y28 : A.eval (.tmp 28) = _ := hf 28
        have y29 : A.eval (.tmp 29) = _ := hf 29
        have y30 : A.eval (.tmp 30) = _ := hf 30
        have y31 : A.eval (.tmp 31) = _ := hf 31
        have y32 : A.eval (.tmp 32) = _ := hf 32
        have y33 : A.eval (.tmp 33) = _ := hf 33
        have y34 : A.eval (.tmp 34) = _ := Eq.trans (hf 34) (by conv => lhs; simp [go_sem])
        have y35 : A.eval (.tmp 35) = _ := Eq.trans (hf 35) (by conv => lhs; simp [go_sem])
        have y36 : A.eval (.tmp 36) = _ := Eq.trans (hf 36) (by conv => lhs; simp [go_sem])
        have y37 : A.eval (.tmp 37) = _ := Eq.trans (hf 37) (by conv => lhs; simp [go_sem])
        have y38 : A.eval (.tmp 38) = _ := Eq.trans (hf 38) (by conv => lhs; simp [go_sem])
        have y39 : A.eval (.tmp 39) = _ := Eq.trans (hf 39) (by conv => lhs; simp [go_sem])
        clear hf
        have hA := frame_eq hn
        rw [show List.range 40 = [0, 1, 2, 3, 4, 5, 6, 7, 8, 9, 10, 11, 12, 13, 14, 15, 16, 17, 18, 19, 20, 21, 22, 23, 24, 25, 26, 27, 28, 29, 30, 31, 32, 33, 34, 35, 36, 37, 38, 39] from rfl, hd] at hA
        simp only [List.map_cons, List.map_nil, y0, y1, y2, y3, y4, y5, y6, y7, y8, y9, y10, y11, y12, y13, y14, y15, y16, y17, y18, y19, y20, y21, y22, y23, y24, y25, y26, y27, y28, y29, y30, y31, y32, y33, y34, y35, y36, y37, y38, y39] at hA
        clear y0 y1 y2 y3 y4 y5 y6 y7 y8 y9 y10 y11 y12 y13 y14 y15 y16 y17 y18 y19 y20 y21 y22 y23 y24 y25 y26 y27 y28 y29 y30 y31 y32 y33 y34 y35 y36 y37 y38 y39
        clear hn hd
        subst hA
        have HB5 := Lib.hid (HB.out.trans (hC.mono HB.out.size))
        have OB5 := Lib.hid (OB.out.below hC)
        have OR5 := Lib.hid (OR.out.below hC)
        clear hC
        go_wp2_with fail
        go_roundw
        case rel => exact ⟨k + 1, best, an, by omega, by go_num, rfl, HST.out, OB5.out, OR5.out, HB5.out⟩
        case measure => simp [intOf]; omega
      | true =>
        rw [show told y.2.1 y.2.2.1 y.2.2.2.1 y.2.2.2.2.1 y.2.2.2.2.2.1 y.2.2.2.2.2.2 = true from g2] at cT
        cases an with
        | false =>
          have HST : Hid (lowF (l.take (k + 1)) = (y, true)) := by
            show _ = _
            rw [hst]
            unfold lowS
            rw [if_pos ⟨g2, .inl rfl⟩]
          clear hst
          go_upto_region 6 with (fail)
          refine wp_region_typed (C := fun w' => Below wr.heap.size wr w') (X := fun w w' => Below w.heap.size w w') (n := 40) (by kernel_rfl) (by kernel_rfl) rfl (fun w => Below.refl _ w) (Below.refl _ _).drew ?_
          refine w_is (fun w => Below.refl _ w) _ (.inl rfl) (fun ρ w hC hc hfn hf => by have e0 : ρ (.tmp 0) = _ := hf 0 (by decide); (conv => lhs; simp [execOp, go_sem, hc, e0])) ?_
          refine w_is (fun w => Below.refl _ w) _ (.inl rfl) (fun ρ w hC hc hfn hf => by have e6 : ρ (.tmp 6) = _ := hf 6 (by decide); (conv => lhs; simp [execOp, go_sem, hc, e6])) ?_
          refine w_is (fun w => Below.refl _ w) _ (.inl rfl) (fun ρ w hC hc hfn hf => by have e14 : ρ (.tmp 14) = _ := hf 14 (by decide); have e15 : ρ (.tmp 15) = _ := hf 15 (by decide); (conv => lhs; simp [execOp, go_sem, hc, e14, e15, hlt])) ?_
          refine w_is (fun w => Below.refl _ w) _ (.inl rfl) (fun ρ w hC hc hfn hf => by have e16 : ρ (.tmp 16) = _ := hf 16 (by decide); (conv => lhs; simp [execOp, go_sem, hc, e16])) ?_
          refine w_is (fun w => Below.refl _ w) _ (.inl rfl) (fun ρ w hC hc hfn hf => by have e17 : ρ (.tmp 17) = _ := hf 17 (by decide); (conv => lhs; simp [execOp, go_sem, hc, e17, kc w hC])) ?_
          refine w_call (Is _) (fun _ _ _ h _ => h) 34 (.inl rfl) (fun ρ w hC hc hfn hf => by have e18 : ρ (.tmp 18) = _ := hf 18 (by decide); exact ⟨_, by (conv => lhs; simp [execOp, resolve, invoke, go_sem, hc, hfn, e18]), tc_below hC (cT w)⟩) ?_
          refine w_is (fun w => Below.refl _ w) _ (.inl rfl) (fun ρ w hC hc hfn hf => by have e19 : ρ (.tmp 19) = _ := hf 19 (by decide); (conv => lhs; simp [execOp, go_sem, hc, e19])) ?_
          refine w_is (fun w => Below.refl _ w) _ (.inr ⟨6, 20, true, rfl, rfl, known_is rfl⟩) (fun ρ w hC hc hfn hf => by have e5 : ρ (.tmp 5) = _ := hf 5 (by decide); (conv => lhs; simp [execOp, go_sem, hc, e5])) ?_
          refine w_is (fun w => Below.refl _ w) _ (.inr ⟨6, 20, true, rfl, rfl, known_is rfl⟩) (fun ρ w hC hc hfn hf => by have e21 : ρ (.tmp 21) = _ := hf 21 (by decide); (conv => lhs; simp [execOp, go_sem, hc, e21])) ?_
          refine w_is (fun w => Below.refl _ w) _ (.inr ⟨6, 20, true, rfl, rfl, known_is rfl⟩) (fun ρ w hC hc hfn hf => by have e22 : ρ (.tmp 22) = _ := hf 22 (by decide); (conv => lhs; simp [execOp, go_sem, hc, e22])) ?_
          refine w_skip rfl rfl (known_is rfl) ?_
          refine w_skip rfl rfl (known_is rfl) ?_
          refine w_skip rfl rfl (known_is rfl) ?_
          refine w_skip rfl rfl (known_is rfl) ?_
          refine w_skip rfl rfl (known_is rfl) ?_
          refine w_skip rfl rfl (known_is rfl) ?_
          refine w_skip rfl rfl (known_is rfl) ?_
          refine w_skip rfl rfl (known_is rfl) ?_
          refine w_is (fun w => Below.refl _ w) _ (.inr ⟨6, 20, true, rfl, rfl, known_is rfl⟩) (fun ρ w hC hc hfn hf => by have e23 : ρ (.tmp 23) = _ := hf 23 (by decide); have e31 : ρ (.tmp 31) = _ := hf 31 (by decide); (conv => lhs; simp [execOp, go_sem, hc, e23, e31])) ?_
          refine w_is (fun w => Below.refl _ w) _ (.inl rfl) (fun ρ w hC hc hfn hf => by have e20 : ρ (.tmp 20) = _ := hf 20 (by decide); have e32 : ρ (.tmp 32) = _ := hf 32 (by decide); (conv => lhs; simp [execOp, go_sem, hc, e20, e32])) ?_
          intro A V5 hC hn hd hf
          have y0 : A.eval (.tmp 0) = _ := Eq.trans (hf 0) (by conv => lhs; simp [go_sem])
          have y1 : A.eval (.tmp 1) = _ := Eq.trans (hf 1) (by conv => lhs; simp [go_sem])
          have y2 : A.eval (.tmp 2) = _ := Eq.trans (hf 2) (by conv => lhs; simp [go_sem])
          have y3 : A.eval (.tmp 3) = _ := Eq.trans (hf 3) (by conv => lhs; simp [go_sem])
          have y4 : A.eval (.tmp 4) = _ := Eq.trans (hf 4) (by conv => lhs; simp [go_sem])
          have y5 : A.eval (.tmp 5) = _ := Eq.trans (hf 5) (by conv => lhs; simp [go_sem])
          have y6 : A.eval (.tmp 6) = _ := Eq.trans (hf 6) (by conv => lhs; simp [go_sem])
          have y7 : A.eval (.tmp 7) = _ := Eq.trans (hf 7) (by conv => lhs; simp [go_sem])
          have y8 : A.eval (.tmp 8) = _ := Eq.trans (hf 8) (by conv => lhs; simp [go_sem])
          have y9 : A.eval (.tmp 9) = _ := Eq.trans (hf 9) (by conv => lhs; simp [go_sem])
          have y10 : A.eval (.tmp 10) = _ := Eq.trans (hf 10) (by conv => lhs; simp [go_sem])
          have y11 : A.eval (.tmp 11) = _ := Eq.trans (hf 11) (by conv => lhs; simp [go_sem])
          have y12 : A.eval (.tmp 12) = _ := Eq.trans (hf 12) (by conv => lhs; simp [go_sem])
          have y13 : A.eval (.tmp 13) = _ := Eq.trans (hf 13) (by conv => lhs; simp [go_sem])
          have y14 : A.eval (.tmp 14) = _ := hf 14
          have y15 : A.eval (.tmp 15) = _ := hf 15
          have y16 : A.eval (.tmp 16) = _ := hf 16
          have y17 : A.eval (.tmp 17) = _ := hf 17
          have y18 : A.eval (.tmp 18) = _ := hf 18
          have y19 : A.eval (.tmp 19) = _ := hf 19
          have y20 : A.eval (.tmp 20) = _ := hf 20
          have y21 : A.eval (.tmp 21) = _ := hf 21
          have y22 : A.eval (.tmp 22) = _ := hf 22
          have y23 : A.eval (.tmp 23) = _ := hf 23
          have y24 : A.eval (.tmp 24) = _ := hf 24
          have y25 : A.eval (.tmp 25) = _ := hf 25
          have y26 : A.eval (.tmp 26) = _ := hf 26
          have y27 : A.eval (.tmp 27) = _ := hf 27
          have y28 : A.eval (.tmp 28) = _ := hf 28
          have y29 : A.eval (.tmp 29) = _ := hf 29
          have y30 : A.eval (.tmp 30) = _ := hf 30
          have y31 : A.eval (.tmp 31) = _ := hf 31
          have y32 : A.eval (.tmp 32) = _ := hf 32
          have y33 : A.eval (.tmp 33) = _ := hf 33
          have y34 : A.eval (.tmp 34) = _ := Eq.trans (hf 34) (by conv => lhs; simp [go_sem])
          have y35 : A.eval (.tmp 35) = _ := Eq.trans (hf 35) (by conv => lhs; simp [go_sem])
          have y36 : A.eval (.tmp 36) = _ := Eq.trans (hf 36) (by conv => lhs; simp [go_sem])
          have y37 : A.eval (.tmp 37) = _ := Eq.trans (hf 37) (by conv => lhs; simp [go_sem])
          have y38 : A.eval (.tmp 38) = _ := Eq.trans (hf 38) (by conv => lhs; simp [go_sem])
          have y39 : A.eval (.tmp 39) = _ := Eq.trans (hf 39) (by conv => lhs; simp [go_sem])
          clear hf
          have hA := frame_eq hn
          rw [show List.range 40 = [0, 1, 2, 3, 4, 5, 6, 7, 8, 9, 10, 11, 12, 13, 14, 15, 16, 17, 18, 19, 20, 21, 22, 23, 24, 25, 26, 27, 28, 29, 30, 31, 32, 33, 34, 35, 36, 37, 38, 39] from rfl, hd] at hA
          simp only [List.map_cons, List.map_nil, y0, y1, y2, y3, y4, y5, y6, y7, y8, y9, y10, y11, y12, y13, y14, y15, y16, y17, y18, y19, y20, y21, y22, y23, y24, y25, y26, y27, y28, y29, y30, y31, y32, y33, y34, y35, y36, y37, y38, y39] at hA
          clear y0 y1 y2 y3 y4 y5 y6 y7 y8 y9 y10 y11 y12 y13 y14 y15 y16 y17 y18 y19 y20 y21 y22 y23 y24 y25 y26 y27 y28 y29 y30 y31 y32 y33 y34 y35 y36 y37 y38 y39
          clear hn hd
          subst hA
          have HB5 := Lib.hid (HB.out.trans (hC.mono HB.out.size))
          have OB5 := Lib.hid (OB.out.below hC)
          have OR5 := Lib.hid (OR.out.below hC)
          clear hC
          obtain ⟨hB5, p0, p1, p2, p3, p4, p5, p6⟩ := (HV.out.below HB5.out).all hlt
          rw [HY.out] at p0 p1 p2 p3 p4 p5 p6
          obtain ⟨⟨e0, e1, e2, e3, e4, e5, e6⟩, ef⟩ := OB5.out
          go_wp2_with fail
          obtain ⟨V7, hV7⟩ : ∃ V7, ((((((V5.setCell ⟨(w.heap.size + 1), 0, none⟩ (.int .i64 y.1)).setCell ⟨(w.heap.size + 1), 1, none⟩ (.bool y.2.1)).setCell ⟨(w.heap.size + 1), 2, none⟩ (.int .i64 y.2.2.1)).setCell ⟨(w.heap.size + 1), 3, none⟩ (.int .i64 y.2.2.2.1)).setCell ⟨(w.heap.size + 1), 4, none⟩ (.int .i64 y.2.2.2.2.1)).setCell ⟨(w.heap.size + 1), 5, none⟩ (.int .i64 y.2.2.2.2.2.1)).setCell ⟨(w.heap.size + 1), 6, none⟩ (.int .i64 y.2.2.2.2.2.2) = V7 := ⟨_, rfl⟩
          have OB7 := Lib.hid (hV7 ▸ ownV_set7 OB5.out y : OwnV V7 (w.heap.size + 1) y)
          have OR7 := Lib.hid (hV7 ▸ ownV_off7 OR5.out (by omega) y : OwnV V7 w.heap.size zVw)
          have hb7 : Below w.heap.size w V7 := hV7 ▸ vbel_set7 HB5.out (by omega) y
          have HB7 := Lib.hid hb7
          simp only [hV7]
          clear e0 e1 e2 e3 e4 e5 e6 ef hV7 hb7 p0 p1 p2 p3 p4 p5 p6 hB5
          go_roundw
          case rel => exact ⟨k + 1, y, true, by omega, by go_num, rfl, HST.out, OB7.out, OR7.out, HB7.out⟩
          case measure => simp [intOf]; omega
        | true =>
          cases g3 : lsx y.2 best.2 with
          | false =>
            rw [show lessB y.2.1 y.2.2.1 y.2.2.2.1 y.2.2.2.2.1 y.2.2.2.2.2.1 y.2.2.2.2.2.2 best.2.1 best.2.2.1 best.2.2.2.1 best.2.2.2.2.1 best.2.2.2.2.2.1 best.2.2.2.2.2.2 = false from g3] at cX
            have HST : Hid (lowF (l.take (k + 1)) = (best, true)) := by
              show _ = _
              rw [hst]
              unfold lowS
              rw [if_neg (fun h => by rw [g3] at h; exact h.2.elim (fun h => by cases h) (fun h => by cases h))]
            clear hst
            go_upto_region 6 with (fail)
            refine wp_region_typed (C := fun w' => Below wr.heap.size wr w') (X := fun w w' => Below w.heap.size w w') (n := 40) (by kernel_rfl) (by kernel_rfl) rfl (fun w => Below.refl _ w) (Below.refl _ _).drew ?_
            refine w_is (fun w => Below.refl _ w) _ (.inl rfl) (fun ρ w hC hc hfn hf => by have e0 : ρ (.tmp 0) = _ := hf 0 (by decide); (conv => lhs; simp [execOp, go_sem, hc, e0])) ?_
            refine w_is (fun w => Below.refl _ w) _ (.inl rfl) (fun ρ w hC hc hfn hf => by have e6 : ρ (.tmp 6) = _ := hf 6 (by decide); (conv => lhs; simp [execOp, go_sem, hc, e6])) ?_
            refine w_is (fun w => Below.refl _ w) _ (.inl rfl) (fun ρ w hC hc hfn hf => by have e14 : ρ (.tmp 14) = _ := hf 14 (by decide); have e15 : ρ (.tmp 15) = _ := hf 15 (by decide); (conv => lhs; simp [execOp, go_sem, hc, e14, e15, hlt])) ?_
            refine w_is (fun w => Below.refl _ w) _ (.inl rfl) (fun ρ w hC hc hfn hf => by have e16 : ρ (.tmp 16) = _ := hf 16 (by decide); (conv => lhs; simp [execOp, go_sem, hc, e16])) ?_
            refine w_is (fun w => Below.refl _ w) _ (.inl rfl) (fun ρ w hC hc hfn hf => by have e17 : ρ (.tmp 17) = _ := hf 17 (by decide); (conv => lhs; simp [execOp, go_sem, hc, e17, kc w hC])) ?_
            refine w_call (Is _) (fun _ _ _ h _ => h) 34 (.inl rfl) (fun ρ w hC hc hfn hf => by have e18 : ρ (.tmp 18) = _ := hf 18 (by decide); exact ⟨_, by (conv => lhs; simp [execOp, resolve, invoke, go_sem, hc, hfn, e18]), tc_below hC (cT w)⟩) ?_
            refine w_is (fun w => Below.refl _ w) _ (.inl rfl) (fun ρ w hC hc hfn hf => by have e19 : ρ (.tmp 19) = _ := hf 19 (by decide); (conv => lhs; simp [execOp, go_sem, hc, e19])) ?_
            refine w_is (fun w => Below.refl _ w) _ (.inr ⟨6, 20, true, rfl, rfl, known_is rfl⟩) (fun ρ w hC hc hfn hf => by have e5 : ρ (.tmp 5) = _ := hf 5 (by decide); (conv => lhs; simp [execOp, go_sem, hc, e5])) ?_
            refine w_is (fun w => Below.refl _ w) _ (.inr ⟨6, 20, true, rfl, rfl, known_is rfl⟩) (fun ρ w hC hc hfn hf => by have e21 : ρ (.tmp 21) = _ := hf 21 (by decide); (conv => lhs; simp [execOp, go_sem, hc, e21])) ?_
            refine w_is (fun w => Below.refl _ w) _ (.inr ⟨6, 20, true, rfl, rfl, known_is rfl⟩) (fun ρ w hC hc hfn hf => by have e22 : ρ (.tmp 22) = _ := hf 22 (by decide); (conv => lhs; simp [execOp, go_sem, hc, e22])) ?_
            refine w_is (fun w => Below.refl _ w) _ (.inr ⟨9, 23, false, rfl, rfl, known_is rfl⟩) (fun ρ w hC hc hfn hf => by have e0 : ρ (.tmp 0) = _ := hf 0 (by decide); (conv => lhs; simp [execOp, go_sem, hc, e0])) ?_
            refine w_is (fun w => Below.refl _ w) _ (.inr ⟨9, 23, false, rfl, rfl, known_is rfl⟩) (fun ρ w hC hc hfn hf => by have e6 : ρ (.tmp 6) = _ := hf 6 (by decide); (conv => lhs; simp [execOp, go_sem, hc, e6])) ?_
            refine w_is (fun w => Below.refl _ w) _ (.inr ⟨9, 23, false, rfl, rfl, known_is rfl⟩) (fun ρ w hC hc hfn hf => by have e24 : ρ (.tmp 24) = _ := hf 24 (by decide); have e25 : ρ (.tmp 25) = _ := hf 25 (by decide); (conv => lhs; simp [execOp, go_sem, hc, e24, e25, hlt])) ?_
            refine w_is (fun w => Below.refl _ w) _ (.inr ⟨9, 23, false, rfl, rfl, known_is rfl⟩) (fun ρ w hC hc hfn hf => by have e26 : ρ (.tmp 26) = _ := hf 26 (by decide); (conv => lhs; simp [execOp, go_sem, hc, e26])) ?_
            refine w_is (fun w => Below.refl _ w) _ (.inr ⟨9, 23, false, rfl, rfl, known_is rfl⟩) (fun ρ w hC hc hfn hf => by have e27 : ρ (.tmp 27) = _ := hf 27 (by decide); (conv => lhs; simp [execOp, go_sem, hc, e27, kc w hC])) ?_
            refine w_is (fun w => Below.refl _ w) _ (.inr ⟨9, 23, false, rfl, rfl, known_is rfl⟩) (fun ρ w hC hc hfn hf => by have e4 : ρ (.tmp 4) = _ := hf 4 (by decide); (conv => lhs; simp [execOp, go_sem, hc, e4])) ?_
            refine w_is (fun w => Below.refl _ w) _ (.inr ⟨9, 23, false, rfl, rfl, known_is rfl⟩) (fun ρ w hC hc hfn hf => by have e29 : ρ (.tmp 29) = _ := hf 29 (by decide); (conv => lhs; simp [execOp, go_sem, hc, e29, kc w hC])) ?_
            refine w_call (Is _) (fun _ _ _ h _ => h) 35 (.inr ⟨9, 23, false, rfl, rfl, known_is rfl⟩) (fun ρ w hC hc hfn hf => by have e28 : ρ (.tmp 28) = _ := hf 28 (by decide); have e30 : ρ (.tmp 30) = _ := hf 30 (by decide); exact ⟨_, by (conv => lhs; simp [execOp, resolve, invoke, go_sem, hc, hfn, e28, e30]), tc_below hC (cX w)⟩) ?_
            refine w_is (fun w => Below.refl _ w) _ (.inr ⟨6, 20, true, rfl, rfl, known_is rfl⟩) (fun ρ w hC hc hfn hf => by have e23 : ρ (.tmp 23) = _ := hf 23 (by decide); have e31 : ρ (.tmp 31) = _ := hf 31 (by decide); (conv => lhs; simp [execOp, go_sem, hc, e23, e31])) ?_
            refine w_is (fun w => Below.refl _ w) _ (.inl rfl) (fun ρ w hC hc hfn hf => by have e20 : ρ (.tmp 20) = _ := hf 20 (by decide); have e32 : ρ (.tmp 32) = _ := hf 32 (by decide); (conv => lhs; simp [execOp, go_sem, hc, e20, e32])) ?_
            intro A V5 hC hn hd hf
            have y0 : A.eval (.tmp 0) = _ := Eq.trans (hf 0) (by conv => lhs; simp [go_sem])
            have y1 : A.eval (.tmp 1) = _ := Eq.trans (hf 1) (by conv => lhs; simp [go_sem])
            have y2 : A.eval (.tmp 2) = _ := Eq.trans (hf 2) (by conv => lhs; simp [go_sem])
            have y3 : A.eval (.tmp 3) = _ := Eq.trans (hf 3) (by conv => lhs; simp [go_sem])
            have y4 : A.eval (.tmp 4) = _ := Eq.trans (hf 4) (by conv => lhs; simp [go_sem])
            have y5 : A.eval (.tmp 5) = _ := Eq.trans (hf 5) (by conv => lhs; simp [go_sem])
            have y6 : A.eval (.tmp 6) = _ := Eq.trans (hf 6) (by conv => lhs; simp [go_sem])
            have y7 : A.eval (.tmp 7) = _ := Eq.trans (hf 7) (by conv => lhs; simp [go_sem])
            have y8 : A.eval (.tmp 8) = _ := Eq.trans (hf 8) (by conv => lhs; simp [go_sem])
            have y9 : A.eval (.tmp 9) = _ := Eq.trans (hf 9) (by conv => lhs; simp [go_sem])
            have y10 : A.eval (.tmp 10) = _ := Eq.trans (hf 10) (by conv => lhs; simp [go_sem])
            have y11 : A.eval (.tmp 11) = _ := Eq.trans (hf 11) (by conv => lhs; simp [go_sem])
            have y12 : A.eval (.tmp 12) = _ := Eq.trans (hf 12) (by conv => lhs; simp [go_sem])
            have y13 : A.eval (.tmp 13) = _ := Eq.trans (hf 13) (by conv => lhs; simp [go_sem])
            have y14 : A.eval (.tmp 14) = _ := hf 14
            have y15 : A.eval (.tmp 15) = _ := hf 15
            have y16 : A.eval (.tmp 16) = _ := hf 16
            have y17 : A.eval (.tmp 17) = _ := hf 17
            have y18 : A.eval (.tmp 18) = _ := hf 18
            have y19 : A.eval (.tmp 19) = _ := hf 19
            have y20 : A.eval (.tmp 20) = _ := hf 20
            have y21 : A.eval (.tmp 21) = _ := hf 21
            have y22 : A.eval (.tmp 22) = _ := hf 22
            have y23 : A.eval (.tmp 23) = _ := hf 23
            have y24 : A.eval (.tmp 24) = _ := hf 24
            have y25 : A.eval (.tmp 25) = _ := hf 25
            have y26 : A.eval (.tmp 26) = _ := hf 26
            have y27 : A.eval (.tmp 27) = _ := hf 27
            have y28 : A.eval (.tmp 28) = _ := hf 28
            have y29 : A.eval (.tmp 29) = _ := hf 29
            have y30 : A.eval (.tmp 30) = _ := hf 30
            have y31 : A.eval (.tmp 31) = _ := hf 31
            have y32 : A.eval (.tmp 32) = _ := hf 32
            have y33 : A.eval (.tmp 33) = _ := hf 33
            have y34 : A.eval (.tmp 34) = _ := Eq.trans (hf 34) (by conv => lhs; simp [go_sem])
            have y35 : A.eval (.tmp 35) = _ := Eq.trans (hf 35) (by conv => lhs; simp [go_sem])
            have y36 : A.eval (.tmp 36) = _ := Eq.trans (hf 36) (by conv => lhs; simp [go_sem])
            have y37 : A.eval (.tmp 37) = _ := Eq.trans (hf 37) (by conv => lhs; simp [go_sem])
            have y38 : A.eval (.tmp 38) = _ := Eq.trans (hf 38) (by conv => lhs; simp [go_sem])
            have y39 : A.eval (.tmp 39) = _ := Eq.trans (hf 39) (by conv => lhs; simp [go_sem])
            clear hf
            have hA := frame_eq hn
            rw [show List.range 40 = [0, 1, 2, 3, 4, 5, 6, 7, 8, 9, 10, 11, 12, 13, 14, 15, 16, 17, 18, 19, 20, 21, 22, 23, 24, 25, 26, 27, 28, 29, 30, 31, 32, 33, 34, 35, 36, 37, 38, 39] from rfl, hd] at hA
            simp only [List.map_cons, List.map_nil, y0, y1, y2, y3, y4, y5, y6, y7, y8, y9, y10, y11, y12, y13, y14, y15, y16, y17, y18, y19, y20, y21, y22, y23, y24, y25, y26, y27, y28, y29, y30, y31, y32, y33, y34, y35, y36, y37, y38, y39] at hA
            clear y0 y1 y2 y3 y4 y5 y6 y7 y8 y9 y10 y11 y12 y13 y14 y15 y16 y17 y18 y19 y20 y21 y22 y23 y24 y25 y26 y27 y28 y29 y30 y31 y32 y33 y34 y35 y36 y37 y38 y39
            clear hn hd
            subst hA
            have HB5 := Lib.hid (HB.out.trans (hC.mono HB.out.size))
            have OB5 := Lib.hid (OB.out.below hC)
            have OR5 := Lib.hid (OR.out.below hC)
            clear hC
            go_wp2_with fail
            go_roundw
            case rel => exact ⟨k + 1, best, true, by omega, by go_num, rfl, HST.out, OB5.out, OR5.out, HB5.out⟩
            case measure => simp [intOf]; omega
          | true =>
            rw [show lessB y.2.1 y.2.2.1 y.2.2.2.1 y.2.2.2.2.1 y.2.2.2.2.2.1 y.2.2.2.2.2.2 best.2.1 best.2.2.1 best.2.2.2.1 best.2.2.2.2.1 best.2.2.2.2.2.1 best.2.2.2.2.2.2 = true from g3] at cX
            have HST : Hid (lowF (l.take (k + 1)) = (y, true)) := by
              show _ = _
              rw [hst]
              unfold lowS
              rw [if_pos ⟨g2, .inr g3⟩]
            clear hst
            go_upto_region 6 with (fail)
            refine wp_region_typed (C := fun w' => Below wr.heap.size wr w') (X := fun w w' => Below w.heap.size w w') (n := 40) (by kernel_rfl) (by kernel_rfl) rfl (fun w => Below.refl _ w) (Below.refl _ _).drew ?_
            refine w_is (fun w => Below.refl _ w) _ (.inl rfl) (fun ρ w hC hc hfn hf => by have e0 : ρ (.tmp 0) = _ := hf 0 (by decide); (conv => lhs; simp [execOp, go_sem, hc, e0])) ?_
            refine w_is (fun w => Below.refl _ w) _ (.inl rfl) (fun ρ w hC hc hfn hf => by have e6 : ρ (.tmp 6) = _ := hf 6 (by decide); (conv => lhs; simp [execOp, go_sem, hc, e6])) ?_
            refine w_is (fun w => Below.refl _ w) _ (.inl rfl) (fun ρ w hC hc hfn hf => by have e14 : ρ (.tmp 14) = _ := hf 14 (by decide); have e15 : ρ (.tmp 15) = _ := hf 15 (by decide); (conv => lhs; simp [execOp, go_sem, hc, e14, e15, hlt])) ?_
            refine w_is (fun w => Below.refl _ w) _ (.inl rfl) (fun ρ w hC hc hfn hf => by have e16 : ρ (.tmp 16) = _ := hf 16 (by decide); (conv => lhs; simp [execOp, go_sem, hc, e16])) ?_
            refine w_is (fun w => Below.refl _ w) _ (.inl rfl) (fun ρ w hC hc hfn hf => by have e17 : ρ (.tmp 17) = _ := hf 17 (by decide); (conv => lhs; simp [execOp, go_sem, hc, e17, kc w hC])) ?_
            refine w_call (Is _) (fun _ _ _ h _ => h) 34 (.inl rfl) (fun ρ w hC hc hfn hf => by have e18 : ρ (.tmp 18) = _ := hf 18 (by decide); exact ⟨_, by (conv => lhs; simp [execOp, resolve, invoke, go_sem, hc, hfn, e18]), tc_below hC (cT w)⟩) ?_
            refine w_is (fun w => Below.refl _ w) _ (.inl rfl) (fun ρ w hC hc hfn hf => by have e19 : ρ (.tmp 19) = _ := hf 19 (by decide); (conv => lhs; simp [execOp, go_sem, hc, e19])) ?_
            refine w_is (fun w => Below.refl _ w) _ (.inr ⟨6, 20, true, rfl, rfl, known_is rfl⟩) (fun ρ w hC hc hfn hf => by have e5 : ρ (.tmp 5) = _ := hf 5 (by decide); (conv => lhs; simp [execOp, go_sem, hc, e5])) ?_
            refine w_is (fun w => Below.refl _ w) _ (.inr ⟨6, 20, true, rfl, rfl, known_is rfl⟩) (fun ρ w hC hc hfn hf => by have e21 : ρ (.tmp 21) = _ := hf 21 (by decide); (conv => lhs; simp [execOp, go_sem, hc, e21])) ?_
            refine w_is (fun w => Below.refl _ w) _ (.inr ⟨6, 20, true, rfl, rfl, known_is rfl⟩) (fun ρ w hC hc hfn hf => by have e22 : ρ (.tmp 22) = _ := hf 22 (by decide); (conv => lhs; simp [execOp, go_sem, hc, e22])) ?_
            refine w_is (fun w => Below.refl _ w) _ (.inr ⟨9, 23, false, rfl, rfl, known_is rfl⟩) (fun ρ w hC hc hfn hf => by have e0 : ρ (.tmp 0) = _ := hf 0 (by decide); (conv => lhs; simp [execOp, go_sem, hc, e0])) ?_
            refine w_is (fun w => Below.refl _ w) _ (.inr ⟨9, 23, false, rfl, rfl, known_is rfl⟩) (fun ρ w hC hc hfn hf => by have e6 : ρ (.tmp 6) = _ := hf 6 (by decide); (conv => lhs; simp [execOp, go_sem, hc, e6])) ?_
            refine w_is (fun w => Below.refl _ w) _ (.inr ⟨9, 23, false, rfl, rfl, known_is rfl⟩) (fun ρ w hC hc hfn hf => by have e24 : ρ (.tmp 24) = _ := hf 24 (by decide); have e25 : ρ (.tmp 25) = _ := hf 25 (by decide); (conv => lhs; simp [execOp, go_sem, hc, e24, e25, hlt])) ?_
            refine w_is (fun w => Below.refl _ w) _ (.inr ⟨9, 23, false, rfl, rfl, known_is rfl⟩) (fun ρ w hC hc hfn hf => by have e26 : ρ (.tmp 26) = _ := hf 26 (by decide); (conv => lhs; simp [execOp, go_sem, hc, e26])) ?_
            refine w_is (fun w => Below.refl _ w) _ (.inr ⟨9, 23, false, rfl, rfl, known_is rfl⟩) (fun ρ w hC hc hfn hf => by have e27 : ρ (.tmp 27) = _ := hf 27 (by decide); (conv => lhs; simp [execOp, go_sem, hc, e27, kc w hC])) ?_
            refine w_is (fun w => Below.refl _ w) _ (.inr ⟨9, 23, false, rfl, rfl, known_is rfl⟩) (fun ρ w hC hc hfn hf => by have e4 : ρ (.tmp 4) = _ := hf 4 (by decide); (conv => lhs; simp [execOp, go_sem, hc, e4])) ?_
            refine w_is (fun w => Below.refl _ w) _ (.inr ⟨9, 23, false, rfl, rfl, known_is rfl⟩) (fun ρ w hC hc hfn hf => by have e29 : ρ (.tmp 29) = _ := hf 29 (by decide); (conv => lhs; simp [execOp, go_sem, hc, e29, kc w hC])) ?_
            refine w_call (Is _) (fun _ _ _ h _ => h) 35 (.inr ⟨9, 23, false, rfl, rfl, known_is rfl⟩) (fun ρ w hC hc hfn hf => by have e28 : ρ (.tmp 28) = _ := hf 28 (by decide); have e30 : ρ (.tmp 30) = _ := hf 30 (by decide); exact ⟨_, by (conv => lhs; simp [execOp, resolve, invoke, go_sem, hc, hfn, e28, e30]), tc_below hC (cX w)⟩) ?_
            refine w_is (fun w => Below.refl _ w) _ (.inr ⟨6, 20, true, rfl, rfl, known_is rfl⟩) (fun ρ w hC hc hfn hf => by have e23 : ρ (.tmp 23) = _ := hf 23 (by decide); have e31 : ρ (.tmp 31) = _ := hf 31 (by decide); (conv => lhs; simp [execOp, go_sem, hc, e23, e31])) ?_
            refine w_is (fun w => Below.refl _ w) _ (.inl rfl) (fun ρ w hC hc hfn hf => by have e20 : ρ (.tmp 20) = _ := hf 20 (by decide); have e32 : ρ (.tmp 32) = _ := hf 32 (by decide); (conv => lhs; simp [execOp, go_sem, hc, e20, e32])) ?_
            intro A V5 hC hn hd hf
            have y0 : A.eval (.tmp 0) = _ := Eq.trans (hf 0) (by conv => lhs; simp [go_sem])
            have y1 : A.eval (.tmp 1) = _ := Eq.trans (hf 1) (by conv => lhs; simp [go_sem])
            have y2 : A.eval (.tmp 2) = _ := Eq.trans (hf 2) (by conv => lhs; simp [go_sem])
            have y3 : A.eval (.tmp 3) = _ := Eq.trans (hf 3) (by conv => lhs; simp [go_sem])
            have y4 : A.eval (.tmp 4) = _ := Eq.trans (hf 4) (by conv => lhs; simp [go_sem])
            have y5 : A.eval (.tmp 5) = _ := Eq.trans (hf 5) (by conv => lhs; simp [go_sem])
            have y6 : A.eval (.tmp 6) = _ := Eq.trans (hf 6) (by conv => lhs; simp [go_sem])
            have y7 : A.eval (.tmp 7) = _ := Eq.trans (hf 7) (by conv => lhs; simp [go_sem])
            have y8 : A.eval (.tmp 8) = _ := Eq.trans (hf 8) (by conv => lhs; simp [go_sem])
            have y9 : A.eval (.tmp 9) = _ := Eq.trans (hf 9) (by conv => lhs; simp [go_sem])
            have y10 : A.eval (.tmp 10) = _ := Eq.trans (hf 10) (by conv => lhs; simp [go_sem])
            have y11 : A.eval (.tmp 11) = _ := Eq.trans (hf 11) (by conv => lhs; simp [go_sem])
            have y12 : A.eval (.tmp 12) = _ := Eq.trans (hf 12) (by conv => lhs; simp [go_sem])
            have y13 : A.eval (.tmp 13) = _ := Eq.trans (hf 13) (by conv => lhs; simp [go_sem])
            have y14 : A.eval (.tmp 14) = _ := hf 14
            have y15 : A.eval (.tmp 15) = _ := hf 15
            have y16 : A.eval (.tmp 16) = _ := hf 16
            have y17 : A.eval (.tmp 17) = _ := hf 17
            have y18 : A.eval (.tmp 18) = _ := hf 18
            have y19 : A.eval (.tmp 19) = _ := hf 19
            have y20 : A.eval (.tmp 20) = _ := hf 20
            have y21 : A.eval (.tmp 21) = _ := hf 21
            have y22 : A.eval (.tmp 22) = _ := hf 22
            have y23 : A.eval (.tmp 23) = _ := hf 23
            have y24 : A.eval (.tmp 24) = _ := hf 24
            have y25 : A.eval (.tmp 25) = _ := hf 25
            have y26 : A.eval (.tmp 26) = _ := hf 26
            have y27 : A.eval (.tmp 27) = _ := hf 27
            have y28 : A.eval (.tmp 28) = _ := hf 28
            have y29 : A.eval (.tmp 29) = _ := hf 29
            have y30 : A.eval (.tmp 30) = _ := hf 30
            have y31 : A.eval (.tmp 31) = _ := hf 31
            have y32 : A.eval (.tmp 32) = _ := hf 32
            have y33 : A.eval (.tmp 33) = _ := hf 33
            have y34 : A.eval (.tmp 34) = _ := Eq.trans (hf 34) (by conv => lhs; simp [go_sem])
            have y35 : A.eval (.tmp 35) = _ := Eq.trans (hf 35) (by conv => lhs; simp [go_sem])
            have y36 : A.eval (.tmp 36) = _ := Eq.trans (hf 36) (by conv => lhs; simp [go_sem])
            have y37 : A.eval (.tmp 37) = _ := Eq.trans (hf 37) (by conv => lhs; simp [go_sem])
            have y38 : A.eval (.tmp 38) = _ := Eq.trans (hf 38) (by conv => lhs; simp [go_sem])
            have y39 : A.eval (.tmp 39) = _ := Eq.trans (hf 39) (by conv => lhs; simp [go_sem])
            clear hf
            have hA := frame_eq hn
            rw [show List.range 40 = [0, 1, 2, 3, 4, 5, 6, 7, 8, 9, 10, 11, 12, 13, 14, 15, 16, 17, 18, 19, 20, 21, 22, 23, 24, 25, 26, 27, 28, 29, 30, 31, 32, 33, 34, 35, 36, 37, 38, 39] from rfl, hd] at hA
            simp only [List.map_cons, List.map_nil, y0, y1, y2, y3, y4, y5, y6, y7, y8, y9, y10, y11, y12, y13, y14, y15, y16, y17, y18, y19, y20, y21, y22, y23, y24, y25, y26, y27, y28, y29, y30, y31, y32, y33, y34, y35, y36, y37, y38, y39] at hA
            clear y0 y1 y2 y3 y4 y5 y6 y7 y8 y9 y10 y11 y12 y13 y14 y15 y16 y17 y18 y19 y20 y21 y22 y23 y24 y25 y26 y27 y28 y29 y30 y31 y32 y33 y34 y35 y36 y37 y38 y39
            clear hn hd
            subst hA
            have HB5 := Lib.hid (HB.out.trans (hC.mono HB.out.size))
            have OB5 := Lib.hid (OB.out.below hC)
            have OR5 := Lib.hid (OR.out.below hC)
            clear hC
            obtain ⟨hB5, p0, p1, p2, p3, p4, p5, p6⟩ := (HV.out.below HB5.out).all hlt
            rw [HY.out] at p0 p1 p2 p3 p4 p5 p6
            obtain ⟨⟨e0, e1, e2, e3, e4, e5, e6⟩, ef⟩ := OB5.out
            go_wp2_with fail
            obtain ⟨V7, hV7⟩ : ∃ V7, ((((((V5.setCell ⟨(w.heap.size + 1), 0, none⟩ (.int .i64 y.1)).setCell ⟨(w.heap.size + 1), 1, none⟩ (.bool y.2.1)).setCell ⟨(w.heap.size + 1), 2, none⟩ (.int .i64 y.2.2.1)).setCell ⟨(w.heap.size + 1), 3, none⟩ (.int .i64 y.2.2.2.1)).setCell ⟨(w.heap.size + 1), 4, none⟩ (.int .i64 y.2.2.2.2.1)).setCell ⟨(w.heap.size + 1), 5, none⟩ (.int .i64 y.2.2.2.2.2.1)).setCell ⟨(w.heap.size + 1), 6, none⟩ (.int .i64 y.2.2.2.2.2.2) = V7 := ⟨_, rfl⟩
            have OB7 := Lib.hid (hV7 ▸ ownV_set7 OB5.out y : OwnV V7 (w.heap.size + 1) y)
            have OR7 := Lib.hid (hV7 ▸ ownV_off7 OR5.out (by omega) y : OwnV V7 w.heap.size zVw)
            have hb7 : Below w.heap.size w V7 := hV7 ▸ vbel_set7 HB5.out (by omega) y
            have HB7 := Lib.hid hb7
            simp only [hV7]
            clear e0 e1 e2 e3 e4 e5 e6 ef hV7 hb7 p0 p1 p2 p3 p4 p5 p6 hB5
            go_roundw
            case rel => exact ⟨k + 1, y, true, by omega, by go_num, rfl, HST.out, OB7.out, OR7.out, HB7.out⟩
            case measure => simp [intOf]; omega
    · obtain rfl : k = l.length := by omega
      rw [List.take_length] at HF
      obtain ⟨⟨e0, e1, e2, e3, e4, e5, e6⟩, ef⟩ := OB.out
      obtain ⟨⟨r0, r1, r2, r3, r4, r5, r6⟩, rf⟩ := OR.out
      go_wp2_with fail
      have hs := (ownV_set7 OR.out best).1
      have hcg := vbel_set7 HB.out (Nat.le_refl _) best
      generalize ((((((wr.setCell ⟨w.heap.size, 0, none⟩ (.int .i64 best.1)).setCell ⟨w.heap.size, 1, none⟩ (.bool best.2.1)).setCell ⟨w.heap.size, 2, none⟩ (.int .i64 best.2.2.1)).setCell ⟨w.heap.size, 3, none⟩ (.int .i64 best.2.2.2.1)).setCell ⟨w.heap.size, 4, none⟩ (.int .i64 best.2.2.2.2.1)).setCell ⟨w.heap.size, 5, none⟩ (.int .i64 best.2.2.2.2.2.1)).setCell ⟨w.heap.size, 6, none⟩ (.int .i64 best.2.2.2.2.2.2) = W5 at *
      obtain ⟨s0_, s1_, s2_, s3_, s4_, s5_, s6_⟩ := hs
      simp only [Nat.zero_add] at s1_ s2_ s3_ s4_ s5_ s6_
      exact bodyPost_ret (v := .tuple #[vwV best, .bool an]) (by simp [results, Try.results59, go_sem, s0_, s1_, s2_, s3_, s4_, s5_, s6_]) rfl ⟨by rw [HF.out], hcg⟩
end Go.Proofs.Ytmimgpnogjgliaa

namespace Go.Proofs.Ytmimgpnogjgliaa
set_option maxRecDepth 100000
open Go.RowKit

theorem infoI : (Try.prog.info? 3).map (fun i => (i.zero, i.size, i.bytes)) = some (some (.int .i64 0), 1, 8) := by kernel_rfl
theorem underIS : Try.prog.underlying 30 = some (.slice 3) := by kernel_rfl
theorem cellsI : Try.prog.cellsOf 3 = 1 := by kernel_rfl
noncomputable def RI : RowT where
  α := Int
  d := 0
  cl := fun x => [.int .i64 x]
  K := 1
  T := 3
  SL := 30
  zero := .int .i64 0
  bytes := 8
  hcl := fun _ => rfl
  hK := by decide
  hone := fun y u hu => by
    simp only [List.mem_cons, List.not_mem_nil, or_false] at hu
    rcases hu with rfl
    rfl
  hSL := underIS
  hinfo := infoI
  hz := rfl
  hb := by decide
  hc := cellsI
def OwI (w : World) (S : Nat) (v : Value) (l : List Int) : Prop := w.ownsRow S RI.T RI.K v l.length (gflat RI l)
theorem OwI_nil (w : World) (S : Nat) : OwI w S (.slice none 0 0) [] := gown_nil (R := RI) w S
theorem OwI.below {w w' : World} {S : Nat} {v : Value} {l : List Int} (h : OwI w S v l) (hb : Below w.heap.size w w') : OwI w' S v l := gown_below h hb
theorem OwI.mono {w : World} {S S' : Nat} {v : Value} {l : List Int} (h : OwI w S v l) (hS : S' ≤ S) : OwI w S' v l := gown_mono h hS
theorem OwI.form {w : World} {S : Nat} {v : Value} {l : List Int} (h : OwI w S v l) : ∃ a c, v = .slice a l.length c := gown_form h
theorem OwI.zs {w : World} {S : Nat} {v : Value} {l : List Int} (h : OwI w S v l) (hl : l.length ≤ 4000) : Zs w v l := by
  refine ⟨by omega, ?_⟩
  rcases (Gs_of_own (R := RI) h).1 with ⟨a, cap, h1, h2, h3⟩ | ⟨b, off, cap, h1, h2, h3, h4⟩
  · exact .inl ⟨a, cap, h1, h2, h3⟩
  · refine .inr ⟨b, off, cap, h1, h2, fun i hi => ?_⟩
    have h5 := h4 i hi 0 (show 0 < 1 by decide)
    have e : off + i * RI.K + 0 = off + i := by show off + i * 1 + 0 = off + i; omega
    rw [e] at h5
    exact h5
theorem iapp1_any {ops : Array Oper} {rest : List Oper} {o : Oper} {a : Act} {Q : Exit → Act → World → Prop} {W : World} (hgd : o.guard = none) (s x : Operand)
    (ho : o.op = .call { callee := .builtin .append, args := #[s, x], argTypes := #[30, 30] }) (w : World) (y : Int) (hW : W = w.alloc (.cells #[.int .i64 y] 3)) (S : Nat) (v : Value) (xs : List Int)
    (hs : a.eval s = v) (hx : a.eval x = .slice (some ⟨w.heap.size, 0, none⟩) 1 1) (hown : OwI w S v xs) (hl : xs.length ≤ 3000) (hS : S ≤ w.heap.size)
    (h : ∀ g cap w', OwI w' S (.slice (some ⟨g, 0, none⟩) (xs.length + 1) cap) (xs ++ [y]) → Below S w w' → wpList Try.prog ops Q rest (a.put o.dst (.slice (some ⟨g, 0, none⟩) (xs.length + 1) cap)) w') : wpList Try.prog ops Q (o :: rest) a W :=
  gapp1_any (R := RI) hgd s x ho w y 3 hW S v xs hs hx hown hl hS h
/-- A view put ahead of the first one that it is less than. -/
def in1 (y : Vw) (acc : List Vw × Bool) (x : Vw) : List Vw × Bool := if acc.2 = false ∧ lsx y.2 x.2 = true then (acc.1 ++ [y], true) else acc
def inS (y : Vw) (acc : List Vw × Bool) (x : Vw) : List Vw × Bool := ((in1 y acc x).1 ++ [x], (in1 y acc x).2)
def inF (y : Vw) (r : List Vw × Bool) : List Vw := if r.2 = true then r.1 else r.1 ++ [y]
def insO (y : Vw) (xs : List Vw) : List Vw := inF y (xs.foldl (inS y) ([], false))
def vordL (l : List Vw) : List Vw := l.foldl (fun xs y => insO y xs) []
theorem inS_len (y : Vw) (acc : List Vw × Bool) (x : Vw) (n : Nat) (hn : acc.1.length = n + acc.2.toNat) : (inS y acc x).1.length = n + 1 + (inS y acc x).2.toNat := by
  unfold inS in1
  by_cases h1 : acc.2 = false ∧ lsx y.2 x.2 = true
  · simp only [if_pos h1, List.length_append, List.length_cons, List.length_nil, Bool.toNat_true]
    rw [h1.1] at hn
    simp only [Bool.toNat_false, Nat.add_zero] at hn
    omega
  · simp only [if_neg h1, List.length_append, List.length_cons, List.length_nil]
    omega
theorem infold_len (y : Vw) (xs : List Vw) (acc : List Vw × Bool) (n : Nat) (hn : acc.1.length = n + acc.2.toNat) : (xs.foldl (inS y) acc).1.length = n + xs.length + (xs.foldl (inS y) acc).2.toNat := by
  induction xs generalizing acc n with
  | nil => exact hn
  | cons x r ih =>
    have := ih (inS y acc x) (n + 1) (inS_len y acc x n hn)
    rw [List.foldl_cons, List.length_cons]
    omega
theorem insO_len (y : Vw) (xs : List Vw) : (insO y xs).length = xs.length + 1 := by
  have h1 := infold_len y xs ([], false) 0 rfl
  unfold insO inF
  cases h2 : (xs.foldl (inS y) ([], false)).2 with
  | true =>
    rw [if_pos rfl]
    rw [h2] at h1
    simp only [Bool.toNat_true] at h1
    omega
  | false =>
    rw [if_neg (by simp), List.length_append]
    rw [h2] at h1
    simp only [Bool.toNat_false] at h1
    simp only [List.length_cons, List.length_nil]
    omega
theorem vord_step (l : List Vw) (k : Nat) (h : k < l.length) : vordL (l.take (k + 1)) = insO (l.getD k zVw) (vordL (l.take k)) := by
  rw [vtake_succ l k h]
  unfold vordL
  rw [List.foldl_append]
  rfl
theorem vord_len (l : List Vw) (k : Nat) (h : k ≤ l.length) : (vordL (l.take k)).length = k := by
  induction k with
  | zero => rfl
  | succ k ih => rw [vord_step l k h, insO_len, ih (by omega)]
end Go.Proofs.Ytmimgpnogjgliaa

namespace Go.Proofs.Ytmimgpnogjgliaa
set_option maxRecDepth 100000
open Go.RowKit

def belF (l : List Vw) (own : Hx) : List Vw := l.filter (fun y => lsx y.2 own)
def belV (l : List Vw) (own : Hx) : List Int := (vordL (belF l own)).map (·.1)
theorem belF_le (l : List Vw) (own : Hx) : (belF l own).length ≤ l.length := List.length_filter_le _ _
theorem bel_step (l : List Vw) (own : Hx) (k : Nat) (h : k < l.length) : belF (l.take (k + 1)) own = belF (l.take k) own ++ if lsx (l.getD k zVw).2 own = true then [l.getD k zVw] else [] := by
  rw [vtake_succ l k h]
  unfold belF
  rw [List.filter_append]
  congr 1
  generalize l.getD k zVw = z
  cases hd : lsx z.2 own with
  | true => rw [if_pos rfl, List.filter_cons_of_pos (by simpa using hd)]; rfl
  | false => rw [if_neg (by simp), List.filter_cons_of_neg (by simp [hd])]; rfl
def aboF (l : List Vw) (own : Hx) : List Vw := l.filter (fun y => lsx own y.2)
def aboV (l : List Vw) (own : Hx) : List Int := (vordL (aboF l own)).map (·.1)
theorem aboF_le (l : List Vw) (own : Hx) : (aboF l own).length ≤ l.length := List.length_filter_le _ _
theorem abo_step (l : List Vw) (own : Hx) (k : Nat) (h : k < l.length) : aboF (l.take (k + 1)) own = aboF (l.take k) own ++ if lsx own (l.getD k zVw).2 = true then [l.getD k zVw] else [] := by
  rw [vtake_succ l k h]
  unfold aboF
  rw [List.filter_append]
  congr 1
  generalize l.getD k zVw = z
  cases hd : lsx own z.2 with
  | true => rw [if_pos rfl, List.filter_cons_of_pos (by simpa using hd)]; rfl
  | false => rw [if_neg (by simp), List.filter_cons_of_neg (by simp [hd])]; rfl
end Go.Proofs.Ytmimgpnogjgliaa
