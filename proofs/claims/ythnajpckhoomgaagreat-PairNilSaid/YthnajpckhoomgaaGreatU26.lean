/- Texts Oth, Aq8, Tk2 of this proof, in one. No conditions but on lengths. -/
import Derived.Test.YthnajpckhoomgaaGreatRows
import Derived.Test.YthnajpckhoomgaaGreatU21
import Derived.Test.YthnajpckhoomgaaGreatU25
import Derived.ArgAppend
import Derived.Below
import Derived.BigQuiet
import Derived.Calls
import Derived.ChangeArms
import Derived.ChangeMade
import Derived.ChangeOld
import Derived.Deep.Cut
import Derived.Deep.QuietTactic
import Derived.Deep.RegionLaw
import Derived.Deep.RegionWith
import Derived.Deep.Slices
import Derived.Laws.AppendOwnNone
import Derived.Laws.BitsLemmas
import Derived.Laws.BytesArg
import Derived.Laws.LoneSync
import Derived.Laws.OwnMore
import Derived.Laws.StructEq
import Derived.Lib.Hide
import Derived.Lib.QuietBelow
import Derived.LoopIn
import Derived.LoopTactic
import Derived.Maps.AppendAt
import Derived.OpenShut
import Derived.Orders
import Derived.Outline
import Derived.OwnWalkIn
import Derived.ProofKit
import Derived.RangeFuncBox
import Derived.RangeFuncCalls
import Derived.RangeFuncLeaves
import Derived.RangeFuncNested
import Derived.Shelf.RegionOpen
import Derived.ShutString
import Derived.StillTail
import Derived.TacticsInMore
import Derived.WalkKit
import Derived.WalkSpells
import Derived.WideShapes
namespace Go.Proofs.YthnajpckhoomgaaGreat
set_option maxRecDepth 100000
open Go.RowKit
attribute [local go_sem] Oper.semAt_some

section
variable (R : RowT)
/-- One element more: the row is the elder one's block, or a new one. -/
theorem run_gapp2 (w : World) (ty : TypeId) (S : Nat) (v : Value) (xs : List R.α) (hown : w.ownsRow S R.T R.K v xs.length (gflat R xs)) (b : Nat) (y : R.α) (hy : GC R w b 0 y) (hl : xs.length ≤ 3000) (hS : S ≤ w.heap.size) :
    ∃ g cap w', (Builtin.append_ #[R.SL, R.SL] ty #[v, .slice (some ⟨b, 0, none⟩) 1 1]).run Tryz.prog w = .ok (.slice (some ⟨g, 0, none⟩) (xs.length + 1) cap) w' ∧ w'.ownsRow S R.T R.K (.slice (some ⟨g, 0, none⟩) (xs.length + 1) cap) (xs ++ [y]).length (gflat R (xs ++ [y])) ∧ w.grownBy w' v.ownBlock ∧ (v.ownBlock = some g ∨ w.heap.size ≤ g) := by
  obtain ⟨i0, hi, hz0, hz1, hz2⟩ := info_parts R.hinfo
  have hzs := R.hz
  have hbb := R.hb
  have hpos := R.hK
  have e : gflat R (xs ++ [y]) = gflat R xs ++ R.cl y := by rw [gflat_app, gflat_one]
  have e2 : (xs ++ [y]).length = xs.length + 1 := by simp
  have hnews : ∀ j u, (R.cl y)[j]? = some u → w.cell? ((⟨b, 0, none⟩ : Addr).add j) = some u := fun j u hj => by
    have := (List.getElem?_eq_some_iff.1 hj).1
    rw [R.hcl] at this
    rw [add_spot', hy j this]; exact hj
  have hone : ∀ u ∈ R.cl y, u.oneCell' = true := R.hone y
  have hfl := gflat_len R xs
  have hcl1 : (R.cl y).length = 1 * R.K := by rw [R.hcl, Nat.one_mul]
  have hby : (xs.length + 1) * R.bytes ≤ 140737488355328 := Nat.le_trans (Nat.mul_le_mul (show xs.length + 1 ≤ 3001 by omega) hbb) (by decide)
  have new : ∀ {w' : World} {v' : Value} {n : Nat} {zs : List Value}, w'.ownsRow w.heap.size R.T R.K v' (n + 1) zs → ∃ g cap, v' = .slice (some ⟨g, 0, none⟩) (n + 1) cap ∧ w.heap.size ≤ g := fun h => by
    rcases h.2 with ⟨_, h0⟩ | ⟨g, cap, _, rfl, hg, _⟩
    · omega
    · exact ⟨g, cap, rfl, hg⟩
  rw [e, e2]
  rcases hown.2 with ⟨rfl, h0⟩ | ⟨g, cap, cur, rfl, hg1, hg2, _⟩
  · obtain ⟨v', w', hr, h2, h3, _, _⟩ := run_append_own_at (P := Tryz.prog) w w.heap.size R.SL ty R.T i0 R.zero R.K R.bytes R.hSL hi hz0 hz1 hz2 hzs hpos (.slice none 0 0) xs.length (gflat R xs) ⟨hown.1, .inl ⟨rfl, h0⟩⟩ ⟨b, 0, none⟩ 1 1 (R.cl y) hcl1 hnews hone (by unfold maxLen; omega) hby (Nat.le_refl _)
    obtain ⟨g, cap, rfl, hg⟩ := new h2
    exact ⟨g, cap, w', hr, gown_mono h2 hS, h3, .inr hg⟩
  · by_cases hroom : xs.length + 1 ≤ cap
    · obtain ⟨w', hr, h2, h3⟩ := run_append_fits (P := Tryz.prog) w S R.SL ty R.T i0 R.K R.hSL hi hz1 g xs.length cap (gflat R xs) hown ⟨b, 0, none⟩ 1 1 (R.cl y) hcl1 hnews hone hroom
      exact ⟨g, cap, w', hr, h2, h3, .inl rfl⟩
    · obtain ⟨v', w', hr, h2, h3⟩ := run_append_arg_grows (P := Tryz.prog) w R.SL ty R.T i0 R.zero R.K R.bytes R.hSL hi hz0 hz1 hz2 hzs hpos ⟨g, 0, none⟩ xs.length cap (gflat R xs) hfl (hown.cells rfl) ⟨b, 0, none⟩ 1 1 (R.cl y) hcl1 hnews (by omega) (by unfold maxLen; omega) hby
      obtain ⟨g', cap', rfl, hg⟩ := new h2
      exact ⟨g', cap', w', hr, gown_mono h2 hS, ⟨h3.os, h3.tape, h3.output, h3.size, fun k hk _ => h3.block k hk (by simp)⟩, .inr hg⟩
end

/-- The two rows in their boxes. -/
def Two (s : Nat) (W : World) (v u : Value) (xs ys : List (Int × Int)) : Prop := Boxed W (s + 1) 70 v ∧ Boxed W (s + 2) 70 u ∧ OwE W (s + 8) v xs ∧ OwE W (s + 8) u ys ∧ ∀ b, v.ownBlock = some b → u.ownBlock ≠ some b
end Go.Proofs.YthnajpckhoomgaaGreat
namespace Go.Proofs.YthnajpckhoomgaaGreat
set_option maxRecDepth 100000
open Go.RowKit

theorem has_fix (i p x m n : Int) (w : World) :
    Calls Tryz.prog 126 #[.agg #[.int .i64 i, .int .i64 p, .int .i64 x, .int .i64 m], .int .i64 n] w fun e w' => e = .returned (.bool (decide (AkOne (i, p, x, m)) && hasN x m n)) ∧ Below w.heap.size w w' :=
  akhas_fix i p x m n _ decide_eq_true_iff w
def byA (ys : List (Int × Int × Int × Int)) : List Int := if AksOk ys then acB ys else []
def byE (ys : List (Int × Int × Int × Int)) : Int := if AksOk ys then 0 else 1
theorem byt_acB {ys : List (Int × Int × Int × Int)} (h : AksOk ys) : ∀ x ∈ acB ys, 0 ≤ x ∧ x < 256 := fun x hx => by
  unfold acB at hx
  rcases List.mem_append.1 hx with hx | hx
  · rw [List.mem_singleton.1 hx]; have := h.2.2; omega
  · obtain ⟨l, hl, hx⟩ := List.mem_flatten.1 hx
    obtain ⟨y, hy, rfl⟩ := List.mem_map.1 hl
    obtain ⟨i, hi, rfl⟩ := List.mem_iff_getElem.1 hy
    have h1 := (h.1 i hi).1
    have e : ys.getD i (0, 0, 0, 0) = ys[i] := by simp [List.getD, hi]
    rw [e] at h1
    unfold akB at hx
    rcases List.mem_cons.1 hx with hx | hx
    · rw [hx]; have := h1.1; omega
    · rcases List.mem_append.1 hx with hx | hx
      · exact lo_byt7 x hx
      · rcases List.mem_append.1 hx with hx | hx
        · exact lo_byt7 x hx
        · exact lo_byt7 x hx
theorem acB_len (ys : List (Int × Int × Int × Int)) : (acB ys).length = 1 + 9 * ys.length := by
  unfold acB
  rw [List.length_append, akB_flat_len]; rfl
end Go.Proofs.YthnajpckhoomgaaGreat
namespace Go.Proofs.YthnajpckhoomgaaGreat
set_option maxRecDepth 100000
set_option linter.unusedVariables false

/-- Take has room for x. -/
def TkIn (t : Tk) (x : Bt) : Prop := BtOk x.1 x.2 ∧ far t.nx x.1 ≤ 16 ∧ findH t.H x.1 = none
/-- What is refused turns nothing, and tells nothing. -/
theorem take_no {t : Tk} {x : Bt} (h : ¬ TkIn t x) : ∃ e : Int, takeR t x = (([], e), t) ∧ (e = 1 ∨ e = 10 ∨ e = 9) := by
  unfold takeR
  by_cases h1 : BtOk x.1 x.2
  · rw [if_neg (fun g => g h1)]
    by_cases h2 : 32768 ≤ far t.nx x.1
    · exact ⟨10, if_pos h2, .inr (.inl rfl)⟩
    · rw [if_neg h2]
      by_cases h3 : 16 < far t.nx x.1
      · exact ⟨1, if_pos h3, .inl rfl⟩
      · rw [if_neg h3]
        by_cases h4 : (findH t.H x.1).isSome = true
        · exact ⟨9, if_pos h4, .inr (.inr rfl)⟩
        · exact absurd ⟨h1, by omega, by simpa using h4⟩ h
  · exact ⟨1, if_pos h1, .inl rfl⟩
theorem take_in {t : Tk} {x : Bt} (h : TkIn t x) : takeR t x = (((runT (t.H.length + 1) ⟨t.nx, t.H ++ [x]⟩).1, 0), (runT (t.H.length + 1) ⟨t.nx, t.H ++ [x]⟩).2) := by
  unfold takeR
  rw [if_neg (fun g => g h.1), if_neg (by have := h.2.1; omega), if_neg (by have := h.2.1; omega), if_neg (by rw [h.2.2]; decide)]
theorem mid_in {t : Tk} (ht : TkOk t) {x : Bt} (h : TkIn t x) : TkMid ⟨t.nx, t.H ++ [x]⟩ := by
  refine ⟨ht.nx, fun y hy => ?_, fun y hy => ?_, ?_⟩
  · rcases List.mem_append.1 hy with hy | hy
    · exact ht.ok y hy
    · rw [List.mem_singleton.1 hy]; exact h.1
  · rcases List.mem_append.1 hy with hy | hy
    · exact (ht.near y hy).2
    · rw [List.mem_singleton.1 hy]; exact h.2.1
  · show (List.map Prod.fst (t.H ++ [x])).Nodup
    rw [List.map_append, List.nodup_append]
    refine ⟨ht.nd, by simp, fun a ha b hb e => ?_⟩
    obtain ⟨y, hy, rfl⟩ := List.mem_map.1 ha
    simp only [List.map_cons, List.map_nil, List.mem_singleton] at hb
    exact findH_none h.2.2 y hy (e.trans hb)
/-- What Take tells of what it has room for: batches in their order from next on, and what is left. -/
theorem take_ok {t : Tk} (ht : TkOk t) {x : Bt} (h : TkIn t x) : (takeR t x).1.2 = 0 ∧ TkOk (takeR t x).2 ∧ ∃ B : List Bt, (takeR t x).1.1 = (B.map Prod.snd).flatten ∧ (∀ i (hi : i < B.length), (B[i] ∈ t.H ∨ B[i] = x) ∧ B[i].1 = numAt t.nx i) ∧ (takeR t x).2.nx = numAt t.nx B.length ∧ (takeR t x).2.H.length + B.length = t.H.length + 1 ∧ (∀ y, y ∈ (takeR t x).2.H ↔ (y ∈ t.H ∨ y = x) ∧ y ∉ B) ∧ findH (takeR t x).2.H (takeR t x).2.nx = none := by
  have hl : (t.H ++ [x]).length = t.H.length + 1 := by rw [List.length_append]; rfl
  obtain ⟨k1, B, k2, k3, k4, k5, k6, k7⟩ := runT_ok (t.H.length + 1) ⟨t.nx, t.H ++ [x]⟩ (mid_in ht h) (by show (t.H ++ [x]).length ≤ _; omega)
  rw [take_in h]
  refine ⟨rfl, k1, B, k2, fun i hi => ?_, k4, k5.trans hl, fun y => ?_, k7⟩
  · obtain ⟨h1, h2⟩ := k3 i hi
    refine ⟨?_, h2⟩
    rcases List.mem_append.1 h1 with h1 | h1
    · exact .inl h1
    · exact .inr (List.mem_singleton.1 h1)
  · rw [k6 y]
    show y ∈ t.H ++ [x] ∧ _ ↔ _
    rw [List.mem_append, List.mem_singleton]
theorem tkok_take {t : Tk} (ht : TkOk t) (x : Bt) : TkOk (takeR t x).2 := by
  by_cases h : TkIn t x
  · exact (take_ok ht h).2.1
  · obtain ⟨e, he, _⟩ := take_no h
    rw [he]; exact ht
/-- No more are held than sixteen. -/
theorem nodup_le : ∀ (l : List Int) (k : Nat), l.Nodup → (∀ n ∈ l, 1 ≤ n ∧ n ≤ k) → l.length ≤ k
  | l, 0, _, h => by
    cases l with
    | nil => exact Nat.le_refl _
    | cons a l => have := h a List.mem_cons_self; omega
  | l, k + 1, hn, h => by
    have h1 := nodup_le (l.filter fun n => !(n == ((k + 1 : Nat) : Int))) k (hn.sublist List.filter_sublist) (fun n hm => by
      obtain ⟨h2, h3⟩ := List.mem_filter.1 hm
      have h4 := h n h2
      have h5 : n ≠ ((k + 1 : Nat) : Int) := by simpa using h3
      omega)
    have h2 : l.length ≤ (l.filter fun n => !(n == ((k + 1 : Nat) : Int))).length + 1 := by
      clear h h1
      induction l with
      | nil => exact Nat.zero_le _
      | cons a l ih =>
        obtain ⟨h3, h4⟩ := List.nodup_cons.1 hn
        by_cases ha : a = ((k + 1 : Nat) : Int)
        · have e : (l.filter fun n => !(n == ((k + 1 : Nat) : Int))) = l := by
            rw [List.filter_eq_self]
            intro y hy
            have : y ≠ ((k + 1 : Nat) : Int) := fun e => h3 (by rw [ha, ← e]; exact hy)
            simpa using this
          rw [List.filter_cons_of_neg (by simp [ha]), e, List.length_cons]
          exact Nat.le_refl _
        · rw [List.filter_cons_of_pos (by simpa using ha), List.length_cons, List.length_cons]
          have := ih h4
          omega
    omega
theorem held_le {t : Tk} (ht : TkOk t) : t.H.length ≤ 16 := by
  have h1 : ((t.H.map fun h => far t.nx h.1)).Nodup := by
    have h2 : (t.H.map fun h => far t.nx h.1) = (nums t.H).map (far t.nx) := by unfold nums; rw [List.map_map]; rfl
    rw [h2]
    have hr : ∀ n ∈ nums t.H, 0 ≤ n ∧ n ≤ 65535 := fun n hn => by
      obtain ⟨h, hh, rfl⟩ := List.mem_map.1 hn
      exact bt_rng (ht.ok h hh)
    have hnd := ht.nd
    generalize nums t.H = l at hr hnd
    induction l with
    | nil => exact List.nodup_nil
    | cons a l ih =>
      obtain ⟨h3, h4⟩ := List.nodup_cons.1 hnd
      rw [List.map_cons, List.nodup_cons]
      refine ⟨fun hm => ?_, ih (fun n hn => hr n (List.mem_cons_of_mem _ hn)) h4⟩
      obtain ⟨c, hc, he⟩ := List.mem_map.1 hm
      have r1 := hr a List.mem_cons_self
      have r2 := hr c (List.mem_cons_of_mem _ hc)
      have : c = a := by unfold far at he; omega
      exact h3 (this ▸ hc)
  have h5 := nodup_le _ 16 h1 (fun n hn => by
    obtain ⟨h, hh, rfl⟩ := List.mem_map.1 hn
    exact ht.near h hh)
  rw [List.length_map] at h5
  exact h5
end Go.Proofs.YthnajpckhoomgaaGreat
