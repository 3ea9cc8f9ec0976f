/- Texts Byr, Bma, Akx, Sd1 of this proof, in one. No conditions but on lengths. -/
import Derived.Test.YthnajpckhoomgaaGreatRows
import Derived.Test.YthnajpckhoomgaaGreatU08
import Derived.Test.YthnajpckhoomgaaGreatU16
import Derived.Test.YthnajpckhoomgaaGreatU19
import Derived.ArgAppend
import Derived.Below
import Derived.BigQuiet
import Derived.Calls
import Derived.ChangeArms
import Derived.ChangeMade
import Derived.ChangeOld
import Derived.Deep.Cut
import Derived.Deep.QuietTactic
import Derived.Deep.RegionLaw
import Derived.Deep.RegionWith
import Derived.Deep.Slices
import Derived.Laws.AppendOwnNone
import Derived.Laws.BitsLemmas
import Derived.Laws.BytesArg
import Derived.Laws.LoneSync
import Derived.Laws.OwnMore
import Derived.Laws.StructEq
import Derived.Lib.Hide
import Derived.Lib.QuietBelow
import Derived.LoopIn
import Derived.LoopTactic
import Derived.Maps.AppendAt
import Derived.OpenShut
import Derived.Orders
import Derived.Outline
import Derived.OwnWalkIn
import Derived.ProofKit
import Derived.RangeFuncBox
import Derived.RangeFuncCalls
import Derived.RangeFuncLeaves
import Derived.RangeFuncNested
import Derived.Shelf.RegionOpen
import Derived.ShutString
import Derived.StillTail
import Derived.TacticsInMore
import Derived.WalkKit
import Derived.WalkSpells
import Derived.WideShapes
namespace Go.Proofs.YthnajpckhoomgaaGreat
set_option maxRecDepth 100000
open Go.RowKit

section
variable (R : RowT)
theorem run_gapps3 (w : World) (ty : TypeId) (S : Nat) (v : Value) (xs : List R.α) (hown : w.ownsRow S R.T R.K v xs.length (gflat R xs)) (S' : Nat) (u : Value) (ys : List R.α) (hu : w.ownsRow S' R.T R.K u ys.length (gflat R ys)) (hl : xs.length + ys.length ≤ 3000) (hS : S ≤ w.heap.size) :
    ∃ r w', (Builtin.append_ #[R.SL, R.SL] ty #[v, u]).run Tryz.prog w = .ok r w' ∧ w'.ownsRow S R.T R.K r (xs ++ ys).length (gflat R (xs ++ ys)) ∧ w.grownBy w' v.ownBlock ∧ ∀ g, r.ownBlock = some g → v.ownBlock = some g ∨ w.heap.size ≤ g := by
  obtain ⟨i0, hi, hz0, hz1, hz2⟩ := info_parts R.hinfo
  have hzs := R.hz
  have hbb := R.hb
  have hpos := R.hK
  have e : gflat R (xs ++ ys) = gflat R xs ++ gflat R ys := gflat_app R xs ys
  have e2 : (xs ++ ys).length = xs.length + ys.length := by simp
  have hfl := gflat_len R xs
  have hfy := gflat_len R ys
  have hby : (xs.length + ys.length) * R.bytes ≤ 140737488355328 := Nat.le_trans (Nat.mul_le_mul hl hbb) (by decide)
  have same : ∀ row, w.grownBy w row := fun _ => ⟨rfl, rfl, rfl, Nat.le_refl _, fun _ _ _ => rfl⟩
  rcases hu.2 with ⟨rfl, h0⟩ | ⟨b, c, cur2, rfl, _, _, hyc, _⟩
  · have hy : ys = [] := List.length_eq_zero_iff.1 h0
    subst hy
    refine ⟨v, w, run_append_owned_none (P := Tryz.prog) (w := w) S R.SL ty R.T i0 R.K R.hSL hi v xs.length (gflat R xs) hown, ?_, same _, fun _ h => .inl h⟩
    rw [List.append_nil]; exact hown
  · have hnews : ∀ j q, (gflat R ys)[j]? = some q → w.cell? ((⟨b, 0, none⟩ : Addr).add j) = some q := fun j q hj => by
      have h1 := (List.getElem?_eq_some_iff.1 hj).1
      rw [hfy] at h1
      rw [add_spot', Nat.zero_add, gown_cell hu j h1]; exact hj
    have hone := gflat_ones R ys
    rw [e, e2]
    rcases hown.2 with ⟨rfl, h0⟩ | ⟨g, cap, cur, rfl, hg1, hg2, _⟩
    · obtain ⟨v', w', hr, h2, h3, _, _⟩ := run_append_own_at (P := Tryz.prog) w w.heap.size R.SL ty R.T i0 R.zero R.K R.bytes R.hSL hi hz0 hz1 hz2 hzs hpos (.slice none 0 0) xs.length (gflat R xs) ⟨hown.1, .inl ⟨rfl, h0⟩⟩ ⟨b, 0, none⟩ ys.length c (gflat R ys) hfy hnews hone (by unfold maxLen; omega) hby (Nat.le_refl _)
      exact ⟨v', w', hr, gown_mono h2 hS, h3, fun g hg => .inr (World.ownsRow.lt h2 g hg).1⟩
    · by_cases hroom : xs.length + ys.length ≤ cap
      · obtain ⟨w', hr, h2, h3⟩ := run_append_fits (P := Tryz.prog) w S R.SL ty R.T i0 R.K R.hSL hi hz1 g xs.length cap (gflat R xs) hown ⟨b, 0, none⟩ ys.length c (gflat R ys) hfy hnews hone hroom
        exact ⟨_, w', hr, h2, h3, fun g' h => .inl h⟩
      · obtain ⟨v', w', hr, h2, h3⟩ := run_append_arg_grows (P := Tryz.prog) w R.SL ty R.T i0 R.zero R.K R.bytes R.hSL hi hz0 hz1 hz2 hzs hpos ⟨g, 0, none⟩ xs.length cap (gflat R xs) hfl (hown.cells rfl) ⟨b, 0, none⟩ ys.length c (gflat R ys) hfy hnews (by omega) (by unfold maxLen; omega) hby
        exact ⟨v', w', hr, gown_mono h2 hS, ⟨h3.os, h3.tape, h3.output, h3.size, fun k hk _ => h3.block k hk (by simp)⟩, fun g' hg => .inr (World.ownsRow.lt h2 g' hg).1⟩
end
/-- A byte. -/
def bc (y : Int) : List Value := [.int .u8 y]
theorem underBY : Tryz.prog.underlying 115 = some (.slice 5) := by kernel_rfl
theorem infoBY : (Tryz.prog.info? 5).map (fun i => (i.zero, i.size, i.bytes)) = some (some (.int .u8 0), 1, 1) := by kernel_rfl
theorem cellsBY : Tryz.prog.cellsOf 5 = 1 := by kernel_rfl
theorem bc_ones (y : Int) : ∀ u ∈ bc y, u.oneCell' = true := by
  intro u hu
  simp only [bc, List.mem_cons, List.not_mem_nil, or_false] at hu
  rw [hu]; rfl
noncomputable def RB : RowT where
  α := Int
  d := 0
  cl := bc
  K := 1
  T := 5
  SL := 115
  zero := .int .u8 0
  bytes := 1
  hcl := fun _ => rfl
  hK := by decide
  hone := bc_ones
  hSL := underBY
  hinfo := infoBY
  hz := rfl
  hb := by decide
  hc := cellsBY
/-- Bytes in a row of the call's own. -/
def OwB (w : World) (S : Nat) (v : Value) (xs : List Int) : Prop := w.ownsRow S 5 1 v xs.length (xs.map (Value.int .u8))
theorem gflat_bytes (xs : List Int) : gflat RB xs = xs.map (Value.int .u8) := by
  show xs.flatMap bc = _
  induction xs with
  | nil => rfl
  | cons x xs ih => rw [List.flatMap_cons, ih]; rfl
theorem OwB.to {w : World} {S : Nat} {v : Value} {xs : List Int} (h : OwB w S v xs) : w.ownsRow S RB.T RB.K v xs.length (gflat RB xs) := by rw [gflat_bytes]; exact h
theorem OwB.of {w : World} {S : Nat} {v : Value} {xs : List Int} (h : w.ownsRow S RB.T RB.K v xs.length (gflat RB xs)) : OwB w S v xs := by rw [gflat_bytes] at h; exact h
theorem OwB.form {w : World} {S : Nat} {v : Value} {xs : List Int} (h : OwB w S v xs) : ∃ a c, v = .slice a xs.length c := gown_form h
theorem OwB.lt {w : World} {S : Nat} {v : Value} {xs : List Int} (h : OwB w S v xs) (b : Nat) (hb : v.ownBlock = some b) : S ≤ b ∧ b < w.heap.size := World.ownsRow.lt h b hb
theorem OwB.mono {w : World} {S B : Nat} {v : Value} {xs : List Int} (h : OwB w S v xs) (hB : B ≤ S) : OwB w B v xs := gown_mono h hB
theorem OwB.below {w w' : World} {S : Nat} {v : Value} {xs : List Int} (h : OwB w S v xs) (hb : Below w.heap.size w w') : OwB w' S v xs := gown_below h hb
end Go.Proofs.YthnajpckhoomgaaGreat
namespace Go.Proofs.YthnajpckhoomgaaGreat
set_option maxRecDepth 100000
open Go.RowKit Go.Sort

theorem bs_le37 (y : Ob) : y.bs.length ≤ 37 := by
  unfold Ob.bs obBs
  split
  · have h := htB_le y.n y.t y.o y.r y.d y.i
    unfold obB
    split
    · simp
    · split
      · simp; omega
      · split
        · simp [i8_len]
        · simp; omega
  · simp
theorem osz_app (xs ys : List Ob) : osz (xs ++ ys) = osz xs + osz ys := by
  unfold osz; rw [List.map_append, List.sum_append]
/-- The objects from A on, until T. -/
def seg (ys : List Ob) (A T : Nat) : List Ob := (ys.drop A).take (T - A)
theorem seg_len (ys : List Ob) {A T : Nat} (h : T ≤ ys.length) : (seg ys A T).length = T - A := by
  unfold seg; rw [List.length_take, List.length_drop]; omega
theorem seg_self (ys : List Ob) (A : Nat) : seg ys A A = [] := by unfold seg; simp
theorem seg_join (ys : List Ob) {A B T : Nat} (h1 : A ≤ B) (h2 : B ≤ T) : seg ys A T = seg ys A B ++ seg ys B T := by
  unfold seg
  rw [show T - A = (B - A) + (T - B) by omega, List.take_add, List.drop_drop, show A + (B - A) = B by omega]
theorem seg_succ (ys : List Ob) {A T : Nat} (h1 : A ≤ T) (h2 : T < ys.length) : seg ys A (T + 1) = seg ys A T ++ [ys.getD T z12] := by
  rw [seg_join ys h1 (Nat.le_succ T)]
  congr 1
  unfold seg
  rw [show T + 1 - T = 1 by omega, List.drop_eq_getElem_cons h2, List.take_succ_cons, List.take_zero]
  simp [List.getD, h2]
theorem seg_end (ys : List Ob) {A T : Nat} (h : ys.length ≤ T) : seg ys A T = ys.drop A := by
  unfold seg; rw [List.take_of_length_le]; rw [List.length_drop]; omega
theorem seg_ok {ys : List Ob} (h : AllOk ys) (A T : Nat) : AllOk (seg ys A T) := sub_ok h A (T - A)
theorem osz_one (ys : List Ob) {A : Nat} (h : A < ys.length) : osz (seg ys A (A + 1)) = (ys.getD A z12).bs.length := by
  rw [seg_succ ys (Nat.le_refl A) h, seg_self]; simp [osz]
theorem cutF_spec (most : Int) (ys : List Ob) (A : Nat) : ∀ f t : Nat, t ≤ ys.length → ys.length ≤ t + f → t ≤ cutF most ys A f t ∧ cutF most ys A f t ≤ ys.length ∧ ¬ Fit1 most ys A (cutF most ys A f t) ∧ ∀ s, t ≤ s → s < cutF most ys A f t → Fit1 most ys A s
  | 0, t, h1, h2 => by
    rw [cutF]
    exact ⟨Nat.le_refl _, h1, fun h => by have := h.1; omega, fun s h3 h4 => by omega⟩
  | f + 1, t, h1, h2 => by
    rw [cutF]
    by_cases h : Fit1 most ys A t
    · rw [if_pos h]
      have hl := h.1
      obtain ⟨k1, k2, k3, k4⟩ := cutF_spec most ys A f (t + 1) (by omega) (by omega)
      refine ⟨by omega, k2, k3, fun s h3 h4 => ?_⟩
      by_cases e : s = t
      · subst e; exact h
      · exact k4 s (by omega) h4
    · rw [if_neg h]
      exact ⟨Nat.le_refl _, h1, h, fun s h3 h4 => by omega⟩
theorem cut_spec (most : Int) (ys : List Ob) {A : Nat} (hA : A < ys.length) : A + 1 ≤ cutTo most ys A ∧ cutTo most ys A ≤ ys.length ∧ ¬ Fit1 most ys A (cutTo most ys A) ∧ ∀ s, A + 1 ≤ s → s < cutTo most ys A → Fit1 most ys A s :=
  cutF_spec most ys A ys.length (A + 1) hA (by omega)
/-- What is cut fits. -/
theorem cut_fit {most : Int} {ys : List Ob} {A : Nat} (hA : A < ys.length) (hm : 40 ≤ most) : (seg ys A (cutTo most ys A)).length ≤ 32 ∧ 3 + (osz (seg ys A (cutTo most ys A)) : Int) ≤ most := by
  obtain ⟨k1, k2, k3, k4⟩ := cut_spec most ys hA
  rw [seg_len ys k2]
  by_cases h : cutTo most ys A = A + 1
  · rw [h, osz_one ys hA]
    have := bs_le37 (ys.getD A z12)
    omega
  · obtain ⟨h1, h2, h3⟩ := k4 (cutTo most ys A - 1) (by omega) (by omega)
    rw [show cutTo most ys A - 1 + 1 - A = cutTo most ys A - A by omega] at h3
    exact ⟨by omega, h3⟩
theorem packF_nil (most : Int) (ys : List Ob) (f A : Nat) (n : Int) (h : ys.length ≤ A) : packF most ys f A n = [] := by
  cases f with
  | zero => rfl
  | succ f => rw [packF, if_neg (by omega)]
theorem packF_cons {most : Int} {ys : List Ob} {f A : Nat} {n : Int} (h : A < ys.length) : packF most ys (f + 1) A n = (n, seg ys A (cutTo most ys A)) :: packF most ys f (cutTo most ys A) (nxt n) := by
  rw [packF, if_pos h]; rfl
/-- All objects, in their order. -/
theorem packF_all (most : Int) (ys : List Ob) : ∀ (f A : Nat) (n : Int), ys.length ≤ A + f → ((packF most ys f A n).map Prod.snd).flatten = ys.drop A
  | 0, A, n, hf => by rw [packF, List.drop_eq_nil_of_le (by omega)]; rfl
  | f + 1, A, n, hf => by
    by_cases hA : A < ys.length
    · obtain ⟨k1, k2, _, _⟩ := cut_spec most ys hA
      rw [packF_cons hA, List.map_cons, List.flatten_cons, packF_all most ys f (cutTo most ys A) (nxt n) (by omega), ← seg_end ys (A := A) (Nat.le_refl _), ← seg_end ys (A := cutTo most ys A) (Nat.le_refl _)]
      exact (seg_join ys (by omega) k2).symm
    · rw [packF_nil most ys (f + 1) A n (by omega), List.drop_eq_nil_of_le (by omega)]; rfl
/-- The numbers, one behind the other. -/
def numAt (n : Int) : Nat → Int
  | 0 => n
  | i + 1 => numAt (nxt n) i
theorem nxt_rng (n : Int) : 0 ≤ nxt n ∧ nxt n ≤ 65535 := by unfold nxt; omega
theorem lft_rng (n : Int) : 0 ≤ lft n ∧ lft n ≤ 65535 := by unfold lft; omega
theorem packF_num (most : Int) (ys : List Ob) : ∀ (f A : Nat) (n : Int) (i : Nat), i < (packF most ys f A n).length → ((packF most ys f A n).getD i zb).1 = numAt n i
  | 0, A, n, i, h => by simp [packF] at h
  | f + 1, A, n, i, h => by
    by_cases hA : A < ys.length
    · rw [packF_cons hA] at h ⊢
      cases i with
      | zero => rfl
      | succ i =>
        rw [List.getD_cons_succ, numAt]
        exact packF_num most ys f (cutTo most ys A) (nxt n) i (by simpa using h)
    · rw [packF_nil most ys (f + 1) A n (by omega)] at h; simp at h
/-- Each one is right, and no longer than was asked for. -/
theorem packF_ok {most : Int} {ys : List Ob} (hok : AllOk ys) (hm : 40 ≤ most ∧ most ≤ 512) : ∀ (f A : Nat) (n : Int), 0 ≤ n ∧ n ≤ 65535 → ∀ i, i < (packF most ys f A n).length → BtOk ((packF most ys f A n).getD i zb).1 ((packF most ys f A n).getD i zb).2 ∧ 3 + (osz ((packF most ys f A n).getD i zb).2 : Int) ≤ most
  | 0, A, n, hn, i, h => by simp [packF] at h
  | f + 1, A, n, hn, i, h => by
    by_cases hA : A < ys.length
    · rw [packF_cons hA] at h ⊢
      cases i with
      | zero =>
        rw [List.getD_cons_zero]
        obtain ⟨k1, k2, _, _⟩ := cut_spec most ys hA
        obtain ⟨c1, c2⟩ := cut_fit hA hm.1
        have hl := seg_len ys (A := A) k2
        dsimp only
        exact ⟨⟨hn, ⟨by omega, c1⟩, seg_ok hok A _, by omega⟩, c2⟩
      | succ i =>
        rw [List.getD_cons_succ]
        exact packF_ok hok hm f (cutTo most ys A) (nxt n) (nxt_rng n) i (by simpa using h)
    · rw [packF_nil most ys (f + 1) A n (by omega)] at h; simp at h
theorem packL_all (most : Int) (ys : List Ob) (first : Int) : ((packL most ys first).map Prod.snd).flatten = ys := packF_all most ys ys.length 0 _ (by omega)
theorem packL_num (most : Int) (ys : List Ob) (first : Int) (i : Nat) (h : i < (packL most ys first).length) : ((packL most ys first).getD i zb).1 = numAt (lft first) i := packF_num most ys ys.length 0 _ i h
theorem packL_ok {most : Int} {ys : List Ob} (hok : AllOk ys) (hm : 40 ≤ most ∧ most ≤ 512) (first : Int) (i : Nat) (h : i < (packL most ys first).length) : BtOk ((packL most ys first).getD i zb).1 ((packL most ys first).getD i zb).2 ∧ 3 + (osz ((packL most ys first).getD i zb).2 : Int) ≤ most := packF_ok hok hm ys.length 0 _ (lft_rng first) i h
theorem packF_le (most : Int) (ys : List Ob) : ∀ (f A : Nat) (n : Int), (packF most ys f A n).length ≤ f
  | 0, A, n => by simp [packF]
  | f + 1, A, n => by
    by_cases hA : A < ys.length
    · rw [packF_cons hA, List.length_cons]; have := packF_le most ys f (cutTo most ys A) (nxt n); omega
    · rw [packF_nil most ys (f + 1) A n (by omega)]; simp
theorem packL_le (most : Int) (ys : List Ob) (first : Int) : (packL most ys first).length ≤ ys.length := packF_le most ys ys.length 0 _
end Go.Proofs.YthnajpckhoomgaaGreat
namespace Go.Proofs.YthnajpckhoomgaaGreat
set_option maxRecDepth 100000
open Go.RowKit

theorem pow2_eq (n : Nat) : pow2 n = ((2 ^ n : Nat) : Int) := by
  induction n with
  | zero => rfl
  | succ n ih => rw [pow2, ih, Nat.pow_succ]; push_cast; omega
theorem pow2_eq' (n : Nat) : pow2 n = (2 : Int) ^ n := by rw [pow2_eq]; push_cast; rfl
theorem wr62 (n : Int) (h₀ : 0 ≤ n) (h₁ : n < 2 ^ 62) : IntKind.i64.wrap n = n := by rw [IntKind.wrap_i64]; omega
theorem and_pow (a j : Nat) : a &&& 2 ^ j = if a.testBit j then 2 ^ j else 0 := by
  apply Nat.eq_of_testBit_eq
  intro i
  rw [Nat.testBit_and, Nat.testBit_two_pow]
  by_cases h : j = i
  · subst h
    cases ha : a.testBit j <;> simp
  · split <;> simp [h]
theorem and_bit {m : Int} {j : Nat} (h0 : 0 ≤ m) (h1 : m ≤ 65535) (hj : j ≤ 16) : bits .and .i64 m (pow2 j) = if m / pow2 j % 2 = 1 then pow2 j else 0 := by
  obtain ⟨a, rfl⟩ := Int.eq_ofNat_of_zero_le h0
  have hp := pow2_small hj
  rw [pow2_eq] at hp ⊢
  have hb : 2 ^ j < 2 ^ 62 := by have : (2 : Nat) ^ 62 = 4611686018427387904 := by decide
                                 omega
  have ha : a < 2 ^ 62 := by have : (2 : Nat) ^ 62 = 4611686018427387904 := by decide
                             omega
  rw [(bits_nat .i64 62 (by decide) wr62 a (2 ^ j) ha hb).1, and_pow, Nat.testBit_eq_decide_div_mod_eq]
  by_cases h : a / 2 ^ j % 2 = 1
  · have h' : ((a : Int) / ((2 ^ j : Nat) : Int)) % 2 = 1 := by exact_mod_cast h
    rw [if_pos h']
    simp [h]
  · have h' : ¬ ((a : Int) / ((2 ^ j : Nat) : Int)) % 2 = 1 := fun e => h (by exact_mod_cast e)
    rw [if_neg h']
    simp [h]
end Go.Proofs.YthnajpckhoomgaaGreat
namespace Go.Proofs.YthnajpckhoomgaaGreat
set_option maxRecDepth 100000

abbrev Bt := Int × List Ob
abbrev Ak := Int × Int × Int × Int
/-- A sender: its window, its tries, what waits, what is out and how often that was sent, the next number. -/
structure Sd where
  win : Int
  tries : Int
  W : List Ob
  L : List (Bt × Int)
  nx : Int
def Sd.out (s : Sd) : List Bt := s.L.map Prod.fst
def nwOk (win tries : Int) : Prop := (1 ≤ win ∧ win ≤ 16) ∧ 1 ≤ tries ∧ tries ≤ 100
instance (win tries : Int) : Decidable (nwOk win tries) := by unfold nwOk; infer_instance
def sd0 (win tries : Int) : Sd := ⟨win, tries, [], [], 0⟩
def fstN (s : Sd) : Int := match s.L with
  | [] => s.nx
  | e :: _ => e.1.1
def pushR (s : Sd) (y : Ob) : Int × Sd := if y.Ok then (if 1024 ≤ s.W.length then (8, s) else (0, { s with W := s.W ++ [y] })) else (1, s)
/-- What is sent: of the batches as many as fit. -/
def sdT (s : Sd) : List Bt := (packL 512 s.W s.nx).takeWhile fun p => decide (far (fstN s) p.1 < s.win)
def cnt (l : List Bt) : Nat := (l.map fun p => p.2.length).sum
def nxA (nx : Int) (l : List Bt) : Int := numAt nx l.length
def sdS (s : Sd) : Sd := { s with W := s.W.drop (cnt (sdT s)), L := s.L ++ (sdT s).map fun p => (p, 1), nx := nxA s.nx (sdT s) }
def agB (s : Sd) : Bool := s.L.all fun e => decide (e.2 < s.tries)
def agL (s : Sd) : List Bt := if agB s = true then s.out else []
def agS (s : Sd) : Sd := if agB s = true then { s with L := s.L.map fun e => (e.1, e.2 + 1) } else s
def gtB (s : Sd) (a : Ak) : Prop := AkOne a ∧ far (fstN s) a.2.2.1 ≤ far (fstN s) s.nx
instance (s : Sd) (a : Ak) : Decidable (gtB s a) := by unfold gtB; infer_instance
def kpt (a : Ak) (e : Bt × Int) : Bool := !hasN a.2.2.1 a.2.2.2 e.1.1
def gtS (s : Sd) (a : Ak) : Sd := if gtB s a then { s with L := s.L.filter (kpt a) } else s
def gtN (s : Sd) (a : Ak) : Nat := s.L.length - (gtS s a).L.length
/-- What is out lies within the window, from the first one on, each further than the one ahead of it, and the next number behind them all. -/
structure SdOk (s : Sd) : Prop where
  win : 1 ≤ s.win ∧ s.win ≤ 16
  tries : 1 ≤ s.tries ∧ s.tries ≤ 100
  wok : AllOk s.W
  wl : s.W.length ≤ 1024
  nx : 0 ≤ s.nx ∧ s.nx ≤ 65535
  inw : ∀ e ∈ s.L, far (fstN s) e.1.1 < s.win
  rise : s.L.Pairwise fun e e' => far (fstN s) e.1.1 < far (fstN s) e'.1.1
  below : ∀ e ∈ s.L, far (fstN s) e.1.1 < far (fstN s) s.nx
  top : far (fstN s) s.nx ≤ s.win
  bok : ∀ e ∈ s.L, BtOk e.1.1 e.1.2
  sent : ∀ e ∈ s.L, 1 ≤ e.2 ∧ e.2 ≤ s.tries
theorem far_self (a : Int) : far a a = 0 := by unfold far; omega
theorem sdok_new {win tries : Int} (h : nwOk win tries) : SdOk (sd0 win tries) :=
  ⟨h.1, h.2, fun i hi => absurd hi (Nat.not_lt_zero i), Nat.zero_le _, ⟨Int.le_refl 0, (show (0 : Int) ≤ 65535 by decide)⟩, fun e he => absurd he List.not_mem_nil, List.Pairwise.nil, fun e he => absurd he List.not_mem_nil, (by show far 0 0 ≤ win; rw [far_self]; have := h.1.1; omega), fun e he => absurd he List.not_mem_nil, fun e he => absurd he List.not_mem_nil⟩
theorem allok_app {xs ys : List Ob} (hx : AllOk xs) (hy : AllOk ys) : AllOk (xs ++ ys) := fun i hi => by
  by_cases h : i < xs.length
  · have e : (xs ++ ys).getD i z12 = xs.getD i z12 := by simp [List.getD, List.getElem?_append, h]
    rw [e]; exact hx i h
  · have e : (xs ++ ys).getD i z12 = ys.getD (i - xs.length) z12 := by simp [List.getD, List.getElem?_append, h]
    rw [e]; exact hy _ (by rw [List.length_append] at hi; omega)
theorem allok_one {y : Ob} (h : y.Ok) : AllOk [y] := fun i hi => by
  have hi' : i < 1 := hi
  obtain rfl : i = 0 := by omega
  exact h
theorem allok_drop {ys : List Ob} (h : AllOk ys) (k : Nat) : AllOk (ys.drop k) := fun i hi => by
  have e : (ys.drop k).getD i z12 = ys.getD (k + i) z12 := by simp [List.getD]
  rw [e]
  exact h _ (by rw [List.length_drop] at hi; omega)
theorem sdok_push {s : Sd} (h : SdOk s) (y : Ob) : SdOk (pushR s y).2 := by
  unfold pushR
  by_cases hy : y.Ok
  · rw [if_pos hy]
    by_cases hl : 1024 ≤ s.W.length
    · rw [if_pos hl]; exact h
    · rw [if_neg hl]
      exact ⟨h.win, h.tries, allok_app h.wok (allok_one hy), by show (s.W ++ [y]).length ≤ 1024; rw [List.length_append]; have e : [y].length = 1 := rfl; omega, h.nx, h.inw, h.rise, h.below, h.top, h.bok, h.sent⟩
  · rw [if_neg hy]; exact h
theorem sdok_again {s : Sd} (h : SdOk s) : SdOk (agS s) := by
  unfold agS
  cases hb : agB s with
  | false => exact h
  | true =>
    rw [if_pos rfl]
    have hf : fstN { s with L := s.L.map fun e => (e.1, e.2 + 1) } = fstN s := by
      unfold fstN
      cases s.L <;> rfl
    have hm : ∀ e ∈ s.L.map (fun e => (e.1, e.2 + 1)), ∃ e0 ∈ s.L, e = (e0.1, e0.2 + 1) := fun e he => by
      obtain ⟨e0, h0, h1⟩ := List.mem_map.1 he
      exact ⟨e0, h0, h1.symm⟩
    refine ⟨h.win, h.tries, h.wok, h.wl, h.nx, fun e he => ?_, ?_, fun e he => ?_, by rw [hf]; exact h.top, fun e he => ?_, fun e he => ?_⟩
    · obtain ⟨e0, h0, rfl⟩ := hm e he
      rw [hf]; exact h.inw e0 h0
    · rw [hf]
      exact List.pairwise_map.2 h.rise
    · obtain ⟨e0, h0, rfl⟩ := hm e he
      rw [hf]; exact h.below e0 h0
    · obtain ⟨e0, h0, rfl⟩ := hm e he
      exact h.bok e0 h0
    · obtain ⟨e0, h0, rfl⟩ := hm e he
      have h1 := h.sent e0 h0
      have h2 : decide (e0.2 < s.tries) = true := List.all_eq_true.1 hb e0 h0
      rw [decide_eq_true_iff] at h2
      show 1 ≤ e0.2 + 1 ∧ e0.2 + 1 ≤ s.tries
      omega
theorem far_shift {f g x : Int} (h : far f g ≤ far f x) : far g x = far f x - far f g := by
  unfold far at *
  omega
theorem sdok_got {s : Sd} (h : SdOk s) (a : Ak) : SdOk (gtS s a) := by
  unfold gtS
  by_cases hg : gtB s a
  · rw [if_pos hg]
    cases hL : s.L.filter (kpt a) with
    | nil =>
      have hf : fstN { s with L := [] } = s.nx := rfl
      exact ⟨h.win, h.tries, h.wok, h.wl, h.nx, fun e he => absurd he List.not_mem_nil, List.Pairwise.nil, fun e he => absurd he List.not_mem_nil, (by rw [hf]; show far s.nx s.nx ≤ s.win; rw [far_self]; have := h.win; omega), fun e he => absurd he List.not_mem_nil, fun e he => absurd he List.not_mem_nil⟩
    | cons e1 l1 =>
      have hf : fstN { s with L := e1 :: l1 } = e1.1.1 := rfl
      have hsub : List.Sublist (e1 :: l1) s.L := hL ▸ List.filter_sublist
      have hin : ∀ e ∈ e1 :: l1, e ∈ s.L := fun e he => hsub.subset he
      have hr : (e1 :: l1).Pairwise fun e e' => far (fstN s) e.1.1 < far (fstN s) e'.1.1 := h.rise.sublist hsub
      have h1 : ∀ e ∈ e1 :: l1, far (fstN s) e1.1.1 ≤ far (fstN s) e.1.1 := fun e he => by
        rcases List.mem_cons.1 he with rfl | he
        · exact Int.le_refl _
        · exact Int.le_of_lt ((List.pairwise_cons.1 hr).1 e he)
      have hb0 := far_bd (fstN s) e1.1.1
      refine ⟨h.win, h.tries, h.wok, h.wl, h.nx, fun e he => ?_, ?_, fun e he => ?_, ?_, fun e he => h.bok e (hin e he), fun e he => h.sent e (hin e he)⟩
      · rw [hf, far_shift (h1 e he)]
        have := h.inw e (hin e he)
        show _ < s.win
        omega
      · rw [hf]
        refine List.Pairwise.imp_of_mem (fun {x y} hx hy hxy => ?_) hr
        rw [far_shift (h1 x hx), far_shift (h1 y hy)]
        omega
      · have h2 := h.below e (hin e he)
        have h3 := h.below e1 (hin e1 List.mem_cons_self)
        rw [hf, far_shift (h1 e he)]
        show _ < far e1.1.1 s.nx
        rw [far_shift (Int.le_of_lt h3)]
        omega
      · have h3 := h.below e1 (hin e1 List.mem_cons_self)
        rw [hf]
        show far e1.1.1 s.nx ≤ s.win
        rw [far_shift (Int.le_of_lt h3)]
        have := h.top
        omega
  · rw [if_neg hg]; exact h
end Go.Proofs.YthnajpckhoomgaaGreat
