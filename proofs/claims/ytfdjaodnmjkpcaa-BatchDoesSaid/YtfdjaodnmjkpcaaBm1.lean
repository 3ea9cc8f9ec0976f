/- Objects as batches, the plain mathematics: what is cut, whole, in order, as full as may be. No conditions. Plain words on rows of numbers in memory; numbers that go round: the program's own calls. No conditions. Next, Far, Less, Within: the program's and the reference's. No conditions. What is left of a number, how many objects, which are right, how many bytes: the program's own calls. No conditions but on lengths. Which batches are right: the program's Check. No conditions but on lengths. Numbers as bytes, in a row of the call's own. No conditions beyond those of the theorems. A batch as bytes: the program's Bytes. No conditions but on lengths. A region that draws its order, by what is known of each slot, with a store in it: what it has stored is known of the slot that holds its address. Over any program. No conditions beyond those of the theorems. A typed walk over a region that draws its order and whose last operations come one behind the other, behind all the others: these are walked as a list. Over any program. No conditions beyond those of the theorems. -/
import Derived.Test.YtfdjaodnmjkpcaaOps
import Derived.Test.YtfdjaodnmjkpcaaRows
import Derived.Test.YtfdjaodnmjkpcaaTyp2
import Derived.Test.YtfdjaodnmjkpcaaOpp
import Derived.Test.YtfdjaodnmjkpcaaTyped
import Derived.WalkKit
import Derived.ProofKit
import Derived.OpenShut
import Derived.ShutString
import Derived.ChangeOld
import Derived.Below
import Derived.LoopTactic
import Derived.Lib.Hide
import Derived.Outline
import Derived.Laws.BytesArg
import Derived.StillTail
namespace Go.Proofs.Ytfdjaodnmjkpcaa
set_option maxRecDepth 100000
open Go.RowKit Go.Sort

theorem bs_le37 (y : Ob) : y.bs.length ≤ 37 := by
  unfold Ob.bs obBs
  split
  · have h := htB_le y.n y.t y.o y.r y.d y.i
    unfold obB
    split
    · simp
    · split
      · simp; omega
      · split
        · simp [i8_len]
        · simp; omega
  · simp
theorem osz_app (xs ys : List Ob) : osz (xs ++ ys) = osz xs + osz ys := by
  unfold osz; rw [List.map_append, List.sum_append]
/-- The objects from A on, until T. -/
def seg (ys : List Ob) (A T : Nat) : List Ob := (ys.drop A).take (T - A)
theorem seg_len (ys : List Ob) {A T : Nat} (h : T ≤ ys.length) : (seg ys A T).length = T - A := by
  unfold seg; rw [List.length_take, List.length_drop]; omega
theorem seg_self (ys : List Ob) (A : Nat) : seg ys A A = [] := by unfold seg; simp
theorem seg_join (ys : List Ob) {A B T : Nat} (h1 : A ≤ B) (h2 : B ≤ T) : seg ys A T = seg ys A B ++ seg ys B T := by
  unfold seg
  rw [show T - A = (B - A) + (T - B) by omega, List.take_add, List.drop_drop, show A + (B - A) = B by omega]
theorem seg_succ (ys : List Ob) {A T : Nat} (h1 : A ≤ T) (h2 : T < ys.length) : seg ys A (T + 1) = seg ys A T ++ [ys.getD T z12] := by
  rw [seg_join ys h1 (Nat.le_succ T)]
  congr 1
  unfold seg
  rw [show T + 1 - T = 1 by omega, List.drop_eq_getElem_cons h2, List.take_succ_cons, List.take_zero]
  simp [List.getD, h2]
theorem seg_get (ys : List Ob) {A T i : Nat} (hi : i < T - A) : (seg ys A T).getD i z12 = ys.getD (A + i) z12 := by
  unfold seg; simp [List.getD, hi]
theorem seg_end (ys : List Ob) {A T : Nat} (h : ys.length ≤ T) : seg ys A T = ys.drop A := by
  unfold seg; rw [List.take_of_length_le]; rw [List.length_drop]; omega
theorem seg_ok {ys : List Ob} (h : AllOk ys) (A T : Nat) : AllOk (seg ys A T) := sub_ok h A (T - A)
theorem osz_seg_le (ys : List Ob) {A B T : Nat} (h1 : A ≤ B) (h2 : B ≤ T) : osz (seg ys B T) ≤ osz (seg ys A T) := by
  rw [seg_join ys h1 h2, osz_app]; omega
theorem osz_one (ys : List Ob) {A : Nat} (h : A < ys.length) : osz (seg ys A (A + 1)) = (ys.getD A z12).bs.length := by
  rw [seg_succ ys (Nat.le_refl A) h, seg_self]; simp [osz]
theorem cutF_spec (most : Int) (ys : List Ob) (A : Nat) : ∀ f t : Nat, t ≤ ys.length → ys.length ≤ t + f → t ≤ cutF most ys A f t ∧ cutF most ys A f t ≤ ys.length ∧ ¬ Fit1 most ys A (cutF most ys A f t) ∧ ∀ s, t ≤ s → s < cutF most ys A f t → Fit1 most ys A s
  | 0, t, h1, h2 => by
    rw [cutF]
    exact ⟨Nat.le_refl _, h1, fun h => by have := h.1; omega, fun s h3 h4 => by omega⟩
  | f + 1, t, h1, h2 => by
    rw [cutF]
    by_cases h : Fit1 most ys A t
    · rw [if_pos h]
      have hl := h.1
      obtain ⟨k1, k2, k3, k4⟩ := cutF_spec most ys A f (t + 1) (by omega) (by omega)
      refine ⟨by omega, k2, k3, fun s h3 h4 => ?_⟩
      by_cases e : s = t
      · subst e; exact h
      · exact k4 s (by omega) h4
    · rw [if_neg h]
      exact ⟨Nat.le_refl _, h1, h, fun s h3 h4 => by omega⟩
theorem cut_spec (most : Int) (ys : List Ob) {A : Nat} (hA : A < ys.length) : A + 1 ≤ cutTo most ys A ∧ cutTo most ys A ≤ ys.length ∧ ¬ Fit1 most ys A (cutTo most ys A) ∧ ∀ s, A + 1 ≤ s → s < cutTo most ys A → Fit1 most ys A s :=
  cutF_spec most ys A ys.length (A + 1) hA (by omega)
/-- What is cut fits. -/
theorem cut_fit {most : Int} {ys : List Ob} {A : Nat} (hA : A < ys.length) (hm : 40 ≤ most) : (seg ys A (cutTo most ys A)).length ≤ 32 ∧ 3 + (osz (seg ys A (cutTo most ys A)) : Int) ≤ most := by
  obtain ⟨k1, k2, k3, k4⟩ := cut_spec most ys hA
  rw [seg_len ys k2]
  by_cases h : cutTo most ys A = A + 1
  · rw [h, osz_one ys hA]
    have := bs_le37 (ys.getD A z12)
    omega
  · obtain ⟨h1, h2, h3⟩ := k4 (cutTo most ys A - 1) (by omega) (by omega)
    rw [show cutTo most ys A - 1 + 1 - A = cutTo most ys A - A by omega] at h3
    exact ⟨by omega, h3⟩
/-- Objects from further on are cut further on. -/
theorem cut_mono {most more : Int} {ys : List Ob} {A B : Nat} (hmm : most ≤ more) (hAB : A ≤ B) (hB : B < ys.length) : cutTo most ys A ≤ cutTo more ys B := by
  obtain ⟨k1, k2, k3, k4⟩ := cut_spec most ys (show A < ys.length by omega)
  obtain ⟨j1, j2, j3, j4⟩ := cut_spec more ys hB
  refine Nat.le_of_not_lt fun h => j3 ?_
  obtain ⟨h1, h2, h3⟩ := k4 (cutTo more ys B) (by omega) h
  have := osz_seg_le ys hAB (show B ≤ cutTo more ys B + 1 by omega)
  unfold seg at this
  exact ⟨h1, by omega, by omega⟩
theorem packF_nil (most : Int) (ys : List Ob) (f A : Nat) (n : Int) (h : ys.length ≤ A) : packF most ys f A n = [] := by
  cases f with
  | zero => rfl
  | succ f => rw [packF, if_neg (by omega)]
theorem packF_cons {most : Int} {ys : List Ob} {f A : Nat} {n : Int} (h : A < ys.length) : packF most ys (f + 1) A n = (n, seg ys A (cutTo most ys A)) :: packF most ys f (cutTo most ys A) (nxt n) := by
  rw [packF, if_pos h]; rfl
/-- With a greater bound there are no more. -/
theorem packF_mono {most more : Int} {ys : List Ob} (hmm : most ≤ more) : ∀ (f A B : Nat) (n m : Int), A ≤ B → ys.length ≤ A + f → (packF more ys f B m).length ≤ (packF most ys f A n).length
  | 0, A, B, n, m, _, _ => by simp [packF]
  | f + 1, A, B, n, m, hAB, hf => by
    by_cases hB : B < ys.length
    · rw [packF_cons hB, packF_cons (show A < ys.length by omega), List.length_cons, List.length_cons]
      have h1 := cut_mono hmm hAB hB
      have h2 := (cut_spec most ys (show A < ys.length by omega)).1
      have := packF_mono (ys := ys) hmm f (cutTo most ys A) (cutTo more ys B) (nxt n) (nxt m) h1 (by omega)
      omega
    · rw [packF_nil more ys (f + 1) B m (by omega)]; simp
/-- All objects, in their order. -/
theorem packF_all (most : Int) (ys : List Ob) : ∀ (f A : Nat) (n : Int), ys.length ≤ A + f → ((packF most ys f A n).map Prod.snd).flatten = ys.drop A
  | 0, A, n, hf => by rw [packF, List.drop_eq_nil_of_le (by omega)]; rfl
  | f + 1, A, n, hf => by
    by_cases hA : A < ys.length
    · obtain ⟨k1, k2, _, _⟩ := cut_spec most ys hA
      rw [packF_cons hA, List.map_cons, List.flatten_cons, packF_all most ys f (cutTo most ys A) (nxt n) (by omega), ← seg_end ys (A := A) (Nat.le_refl _), ← seg_end ys (A := cutTo most ys A) (Nat.le_refl _)]
      exact (seg_join ys (by omega) k2).symm
    · rw [packF_nil most ys (f + 1) A n (by omega), List.drop_eq_nil_of_le (by omega)]; rfl
/-- The numbers, one behind the other. -/
def numAt (n : Int) : Nat → Int
  | 0 => n
  | i + 1 => numAt (nxt n) i
theorem numAt_succ : ∀ (n : Int) (i : Nat), numAt n (i + 1) = nxt (numAt n i)
  | n, 0 => rfl
  | n, i + 1 => by rw [numAt, numAt_succ (nxt n) i, numAt]
theorem nxt_rng (n : Int) : 0 ≤ nxt n ∧ nxt n ≤ 65535 := by unfold nxt; omega
theorem lft_rng (n : Int) : 0 ≤ lft n ∧ lft n ≤ 65535 := by unfold lft; omega
theorem packF_num (most : Int) (ys : List Ob) : ∀ (f A : Nat) (n : Int) (i : Nat), i < (packF most ys f A n).length → ((packF most ys f A n).getD i zb).1 = numAt n i
  | 0, A, n, i, h => by simp [packF] at h
  | f + 1, A, n, i, h => by
    by_cases hA : A < ys.length
    · rw [packF_cons hA] at h ⊢
      cases i with
      | zero => rfl
      | succ i =>
        rw [List.getD_cons_succ, numAt]
        exact packF_num most ys f (cutTo most ys A) (nxt n) i (by simpa using h)
    · rw [packF_nil most ys (f + 1) A n (by omega)] at h; simp at h
theorem numAt_rng {n : Int} (hn : 0 ≤ n ∧ n ≤ 65535) (i : Nat) : 0 ≤ numAt n i ∧ numAt n i ≤ 65535 := by
  cases i with
  | zero => exact hn
  | succ i => rw [numAt_succ]; exact nxt_rng _
/-- Each one is right, and no longer than was asked for. -/
theorem packF_ok {most : Int} {ys : List Ob} (hok : AllOk ys) (hm : 40 ≤ most ∧ most ≤ 512) : ∀ (f A : Nat) (n : Int), 0 ≤ n ∧ n ≤ 65535 → ∀ i, i < (packF most ys f A n).length → BtOk ((packF most ys f A n).getD i zb).1 ((packF most ys f A n).getD i zb).2 ∧ 3 + (osz ((packF most ys f A n).getD i zb).2 : Int) ≤ most
  | 0, A, n, hn, i, h => by simp [packF] at h
  | f + 1, A, n, hn, i, h => by
    by_cases hA : A < ys.length
    · rw [packF_cons hA] at h ⊢
      cases i with
      | zero =>
        rw [List.getD_cons_zero]
        obtain ⟨k1, k2, _, _⟩ := cut_spec most ys hA
        obtain ⟨c1, c2⟩ := cut_fit hA hm.1
        have hl := seg_len ys (A := A) k2
        dsimp only
        exact ⟨⟨hn, ⟨by omega, c1⟩, seg_ok hok A _, by omega⟩, c2⟩
      | succ i =>
        rw [List.getD_cons_succ]
        exact packF_ok hok hm f (cutTo most ys A) (nxt n) (nxt_rng n) i (by simpa using h)
    · rw [packF_nil most ys (f + 1) A n (by omega)] at h; simp at h
/-- The first object of the next one would have been too much. -/
theorem packF_full (most : Int) (ys : List Ob) : ∀ (f A : Nat) (n : Int), ys.length ≤ A + f → ∀ i, i + 1 < (packF most ys f A n).length → 1 ≤ ((packF most ys f A n).getD (i + 1) zb).2.length ∧ ¬ (((packF most ys f A n).getD i zb).2.length < 32 ∧ 3 + (osz ((packF most ys f A n).getD i zb).2 : Int) + ((((packF most ys f A n).getD (i + 1) zb).2.getD 0 z12).bs.length : Int) ≤ most)
  | 0, A, n, hf, i, h => by simp [packF] at h
  | f + 1, A, n, hf, i, h => by
    by_cases hA : A < ys.length
    · obtain ⟨k1, k2, k3, _⟩ := cut_spec most ys hA
      rw [packF_cons hA] at h ⊢
      cases i with
      | zero =>
        rw [List.getD_cons_zero, List.getD_cons_succ]
        have h' : 0 < (packF most ys f (cutTo most ys A) (nxt n)).length := by simpa using h
        by_cases hT : cutTo most ys A < ys.length
        · cases f with
          | zero => simp [packF] at h'
          | succ f =>
            rw [packF_cons hT, List.getD_cons_zero]
            obtain ⟨j1, j2, _, _⟩ := cut_spec most ys hT
            have hl := seg_len ys (A := cutTo most ys A) j2
            dsimp only
            refine ⟨by omega, fun hc => k3 ⟨hT, ?_, ?_⟩⟩
            · rw [seg_len ys k2] at hc; exact hc.1
            · have h3 := hc.2
              rw [seg_get ys (show 0 < _ by omega), Nat.add_zero] at h3
              have h4 : osz (seg ys A (cutTo most ys A + 1)) = osz (seg ys A (cutTo most ys A)) + (ys.getD (cutTo most ys A) z12).bs.length := by
                rw [seg_succ ys (by omega) hT, osz_app]; simp [osz]
              unfold seg at h4 h3
              omega
        · rw [packF_nil most ys f _ _ (by omega)] at h'; simp at h'
      | succ i =>
        rw [List.getD_cons_succ, List.getD_cons_succ]
        exact packF_full most ys f (cutTo most ys A) (nxt n) (by omega) i (by simpa using h)
    · rw [packF_nil most ys (f + 1) A n (by omega)] at h; simp at h
theorem packL_mono {most more : Int} (ys : List Ob) (first : Int) (h : most ≤ more) : (packL more ys first).length ≤ (packL most ys first).length := packF_mono h ys.length 0 0 _ _ (Nat.le_refl _) (by omega)
theorem packL_all (most : Int) (ys : List Ob) (first : Int) : ((packL most ys first).map Prod.snd).flatten = ys := packF_all most ys ys.length 0 _ (by omega)
theorem packL_num (most : Int) (ys : List Ob) (first : Int) (i : Nat) (h : i < (packL most ys first).length) : ((packL most ys first).getD i zb).1 = numAt (lft first) i := packF_num most ys ys.length 0 _ i h
theorem packL_ok {most : Int} {ys : List Ob} (hok : AllOk ys) (hm : 40 ≤ most ∧ most ≤ 512) (first : Int) (i : Nat) (h : i < (packL most ys first).length) : BtOk ((packL most ys first).getD i zb).1 ((packL most ys first).getD i zb).2 ∧ 3 + (osz ((packL most ys first).getD i zb).2 : Int) ≤ most := packF_ok hok hm ys.length 0 _ (lft_rng first) i h
theorem packL_full (most : Int) (ys : List Ob) (first : Int) (i : Nat) (h : i + 1 < (packL most ys first).length) : 1 ≤ ((packL most ys first).getD (i + 1) zb).2.length ∧ ¬ (((packL most ys first).getD i zb).2.length < 32 ∧ 3 + (osz ((packL most ys first).getD i zb).2 : Int) + ((((packL most ys first).getD (i + 1) zb).2.getD 0 z12).bs.length : Int) ≤ most) := packF_full most ys ys.length 0 _ (by omega) i h
theorem packL_pos (most : Int) (ys : List Ob) (first : Int) : (0 < ys.length) ↔ (0 < (packL most ys first).length) := by
  constructor
  · intro h
    unfold packL
    obtain ⟨f, hf⟩ : ∃ f, ys.length = f + 1 := ⟨ys.length - 1, by omega⟩
    rw [hf, packF_cons (by omega)]; simp
  · intro h
    refine Nat.pos_of_ne_zero fun h0 => ?_
    unfold packL at h
    rw [packF_nil most ys _ 0 _ (by omega)] at h; simp at h
theorem packF_le (most : Int) (ys : List Ob) : ∀ (f A : Nat) (n : Int), (packF most ys f A n).length ≤ f
  | 0, A, n => by simp [packF]
  | f + 1, A, n => by
    by_cases hA : A < ys.length
    · rw [packF_cons hA, List.length_cons]; have := packF_le most ys f (cutTo most ys A) (nxt n); omega
    · rw [packF_nil most ys (f + 1) A n (by omega)]; simp
theorem packL_le (most : Int) (ys : List Ob) (first : Int) : (packL most ys first).length ≤ ys.length := packF_le most ys ys.length 0 _
#print axioms packL_full
end Go.Proofs.Ytfdjaodnmjkpcaa

namespace Go.Proofs.Ytfdjaodnmjkpcaa
open Go.RowKit

/-- A value that is a slice of numbers whose elements read as xs. -/
def Zs (w : World) (v : Value) (xs : List Int) : Prop :=
  xs.length ≤ 9223372036854775807 ∧
  ((∃ a cap, v = .slice a 0 cap ∧ (a = none → cap = 0) ∧ xs = []) ∨
   ∃ b off cap, v = .slice (some ⟨b, off, none⟩) xs.length cap ∧ xs.length ≤ cap ∧ ∀ i, i < xs.length → w.cell? ⟨b, off + i, none⟩ = some (.int .i64 (xs.getD i 0)))

theorem Zs_below {w w' : World} {v : Value} {xs : List Int} (h : Zs w v xs) (hb : Below w.heap.size w w') : Zs w' v xs := by
  obtain ⟨hl, h | ⟨b, off, cap, hv, hcap, hc⟩⟩ := h
  · exact ⟨hl, .inl h⟩
  · refine ⟨hl, .inr ⟨b, off, cap, hv, hcap, fun i hi => ?_⟩⟩
    have := hc i hi
    rw [hb.cell (World.block_lt_of_cell? w _ this)]; exact this

theorem Zs_of_own {w : World} {base n : Nat} {v : Value} {xs : List Int} (h : w.ownsRow base 3 1 v n (xs.map (Value.int .i64))) (hn : xs.length ≤ 9223372036854775807) : Zs w v xs := by
  have hl : n = xs.length := by simpa using h.1.symm
  refine ⟨hn, ?_⟩
  rcases h.2 with ⟨hnil, he⟩ | ⟨g, cap, cur, hv, hbase, hb, h1, h2, h3, h4⟩
  · have : xs = [] := List.length_eq_zero_iff.1 (by omega)
    subst this
    exact .inl ⟨none, 0, by simpa using hnil, fun _ => rfl, rfl⟩
  · refine .inr ⟨g, 0, cap, by rw [← hl]; exact hv, by omega, fun i hi => ?_⟩
    have e1 : (cur.toList.take (n * 1))[i]? = (xs.map (Value.int .i64))[i]? := by rw [h4]
    rw [List.getElem?_take, if_pos (by omega), Array.getElem?_toList] at e1
    simp only [World.cell?, hb, Nat.zero_add]
    simp only [Option.isSome_none, Bool.false_eq_true, if_false]
    rw [e1]
    simp [List.getD, hi]

theorem is_lit (w : World) (xs : List Int) (T : TypeId) (g n : Nat) (hg : g = w.heap.size) (hn : n = xs.length) (hl : xs.length ≤ 1000) (o : Obj) (ho : o = .cells (xs.map (Value.int .i64)).toArray T) : Zs (w.alloc o) (.slice (some ⟨g, 0, none⟩) n n) xs := by
  subst hg; subst hn; subst ho
  refine ⟨by omega, .inr ⟨w.heap.size, 0, xs.length, rfl, Nat.le_refl _, fun i hi => ?_⟩⟩
  simp [List.getD, hi]

theorem z_ret_int {k : IntKind} {a b : Int} (h : a = b) : Ending.returned (.int k a) = .returned (.int k b) := by rw [h]
theorem ret_bool {a b : Bool} (h : a = b) : Ending.returned (.bool a) = .returned (.bool b) := by rw [h]
theorem z_val_int {k : IntKind} {a b : Int} (h : a = b) : Value.int k a = .int k b := by rw [h]

/-- n and all of the first k. -/
def sumTo (n : Int) (xs : List Int) (k : Nat) : Int := (n + (xs.take k).sum) % 65536
theorem sumTo_bd (n : Int) (xs : List Int) (k : Nat) : 0 ≤ sumTo n xs k ∧ sumTo n xs k < 65536 := by unfold sumTo; omega
theorem sumTo_succ (n : Int) (xs : List Int) (k : Nat) (h : k < xs.length) : sumTo n xs (k + 1) = (sumTo n xs k + (xs.getD k 0) % 65536) % 65536 := by
  unfold sumTo
  rw [List.take_succ_eq_append_getElem h, List.sum_append]
  have : xs.getD k 0 = xs[k] := by simp [List.getD, h]
  rw [this]
  simp
  omega

theorem wrap16 (x : Int) : IntKind.u16.wrap x = x % 65536 := by rw [IntKind.wrap_u16]

set_option maxHeartbeats 400000 in
theorem and_any (n : Int) (v : Value) (xs : List Int) (w : World) (h0 : 0 ≤ n) (h1 : n < 65536) (hv : Zs w v xs) :
    Calls Try.prog 40 #[.int .u16 n, v] w fun e w' => e = .returned (.int .i64 ((n + xs.sum) % 65536)) ∧ w = w' := by
  obtain ⟨hl, ⟨a, cap, rfl, -, rfl⟩ | ⟨b, off, cap, rfl, hcap, hc⟩⟩ := hv
  · go_enter Try.func40, Try.ntmps40
    go_wp2
    go_loop [0, 9] (fun p i => p = .int .u16 n ∧ i = .int .i64 0) (fun _ _ => 0)
    case atStart => exact ⟨rfl, rfl⟩
    case round =>
      obtain ⟨rfl, rfl⟩ := hrel
      go_wp2
      go_ret
      exact ⟨z_ret_int (by omega), rfl⟩
  · have e0 : sumTo n xs 0 = n := by simp [sumTo]; omega
    have eN : sumTo n xs xs.length = (n + xs.sum) % 65536 := by simp [sumTo]
    rw [← eN]
    clear eN
    have E0 := Lib.hid e0
    clear e0
    go_enter Try.func40, Try.ntmps40
    go_wp2
    go_loop [0, 9] (fun p i => ∃ k : Nat, k ≤ xs.length ∧ i = .int .i64 k ∧ p = .int .u16 (sumTo n xs k)) (fun _ i => xs.length - (intOf i).toNat)
    case atStart => exact ⟨0, Nat.zero_le _, rfl, by rw [E0.out]⟩
    case round =>
      obtain ⟨k, hk, rfl, rfl⟩ := hrel
      obtain ⟨b1, b2⟩ := sumTo_bd n xs k
      by_cases hlt : k < xs.length
      · have hck := hc k hlt
        have hs := Lib.hid (sumTo_succ n xs k hlt)
        generalize xs.getD k 0 = c at *
        clear hc
        go_wp2
        go_round
        case rel => exact ⟨k + 1, by omega, by go_num, by rw [hs.out]; simp only [wrap16]⟩
        case measure => simp [intOf]; omega
      · obtain rfl : k = xs.length := by omega
        clear hc
        go_wp2
        go_ret
        exact ⟨rfl, rfl⟩
#print axioms and_any
end Go.Proofs.Ytfdjaodnmjkpcaa

namespace Go.Proofs.Ytfdjaodnmjkpcaa
open Go.RowKit

def far (a b : Int) : Int := (b - a) % 65536
def z_nxt (a : Int) : Int := (a + 1) % 65536
def z_lessB (a b : Int) : Bool := decide (0 < far a b) && decide (far a b < 32768)
def withB (a f s : Int) : Bool := decide (far f a < s)
theorem far_bd (a b : Int) : 0 ≤ far a b ∧ far a b < 65536 := by unfold far; omega
theorem nxt_bd (a : Int) : 0 ≤ z_nxt a ∧ z_nxt a < 65536 := by unfold z_nxt; omega

theorem z_next_any (a : Int) (w : World) : Calls Try.prog 21 #[.int .i64 a] w fun e w' => e = .returned (.int .i64 (z_nxt a)) ∧ Below w.heap.size w w' := by
  go_enter Try.func21, Try.ntmps21
  go_wp2_with (go_at_call 40; refine (and_any 1 _ [a] _ (by omega) (by omega) (is_lit w [a] 3 _ 1 rfl rfl (by simp) _ rfl)).mono ?_; rintro e w' ⟨rfl, rfl⟩)
  go_ret
  exact ⟨z_ret_int (by simp [z_nxt]; omega), (Below.refl _ w).alloc (Nat.le_refl _) _⟩

theorem far_any (a b : Int) (w : World) : Calls Try.prog 20 #[.int .i64 a, .int .i64 b] w fun e w' => e = .returned (.int .i64 (far a b)) ∧ Below w.heap.size w w' := by
  go_enter Try.func20, Try.ntmps20
  go_wp2_with (go_at_call 40; refine (and_any 0 _ [b, wrap64 (-a)] _ (by omega) (by omega) (is_lit w [b, wrap64 (-a)] 3 _ 2 rfl rfl (by simp) _ rfl)).mono ?_; rintro e w' ⟨rfl, rfl⟩)
  go_ret
  exact ⟨z_ret_int (by unfold far wrap64; omega), (Below.refl _ w).alloc (Nat.le_refl _) _⟩

def left (a : Int) : Int := a % 65536
theorem z_left_any (a : Int) (w : World) : Calls Try.prog 32 #[.int .i64 a] w fun e w' => e = .returned (.int .i64 (left a)) ∧ w = w' := by
  have h1 : -65536 < a.tmod 65536 ∧ a.tmod 65536 < 65536 := by
    rcases Int.lt_or_le a 0 with h | h
    · have := Int.neg_tmod (-a) 65536
      have h2 := Int.tmod_eq_emod_of_nonneg (a := -a) (b := 65536) (by omega)
      rw [Int.neg_neg] at this
      omega
    · rw [Int.tmod_eq_emod_of_nonneg h]; omega
  have h2 : left a = if a.tmod 65536 < 0 then a.tmod 65536 + 65536 else a.tmod 65536 := by
    have h3 := Int.mul_tdiv_add_tmod a 65536
    unfold left
    generalize a.tmod 65536 = m at *
    generalize a.tdiv 65536 = q at *
    split <;> omega
  rw [h2]
  clear h2
  by_cases hm : a.tmod 65536 < 0
  · rw [if_pos hm]
    go_enter Try.func32, Try.ntmps32
    go_wp2
    go_ret
    exact ⟨rfl, rfl⟩
  · rw [if_neg hm]
    have hm' : decide (a.tmod 65536 < 0) = false := decide_eq_false hm
    go_enter Try.func32, Try.ntmps32
    go_wp2
    go_ret
    exact ⟨rfl, rfl⟩

theorem left_bd (a : Int) : 0 ≤ left a ∧ left a < 65536 := by unfold left; omega
theorem rnext_any (a : Int) (w : World) : Calls Try.prog 33 #[.int .i64 a] w fun e w' => e = .returned (.int .i64 (z_nxt a)) ∧ w = w' := by
  have h2 : (left a + 1).tmod 65536 = z_nxt a := by
    have := left_bd a
    rw [Int.tmod_eq_emod_of_nonneg (by omega)]
    unfold left z_nxt; omega
  have hb := left_bd a
  have h3 : wrap64 (left a + 1) = left a + 1 := by unfold wrap64; omega
  have h4 := nxt_bd a
  go_enter Try.func33, Try.ntmps33
  go_wp2_with (go_at_call 32; refine (z_left_any a _).mono ?_; rintro e w' ⟨rfl, rfl⟩)
  go_ret
  exact ⟨z_ret_int (by first | assumption | (unfold wrap64; omega) | omega), rfl⟩

theorem left_far (a b : Int) : left (left b - left a) = far a b := by unfold left far; omega
end Go.Proofs.Ytfdjaodnmjkpcaa

namespace Go.Proofs.Ytfdjaodnmjkpcaa
set_option maxRecDepth 100000
open Go.RowKit Go.Sort

theorem pleft_any (n : Int) (w : World) : Calls Try.prog 26 #[.int .i64 n] w fun e w' => e = .returned (.int .i64 (lft n)) ∧ Below w.heap.size w w' := by
  have cF := fun w => far_any 0 n w
  rw [show far 0 n = lft n by unfold far lft; omega] at cF
  go_enter Try.func26, Try.ntmps26
  go_wp2_with (go_at_call 20; refine (cF _).mono ?_; rintro e w1 ⟨rfl, hb⟩; have HB := Lib.hid hb; clear hb)
  go_ret
  exact ⟨rfl, HB.out⟩
theorem iscount_fix (n : Int) (q : Bool) (hq : q = true ↔ (1 ≤ n ∧ n ≤ 32)) (w : World) : Calls Try.prog 27 #[.int .i64 n] w fun e w' => e = .returned (.bool q) ∧ w = w' := by
  by_cases h1 : 1 ≤ n
  · by_cases h2 : n ≤ 32
    · obtain rfl : q = true := hq.2 ⟨h1, h2⟩
      clear hq
      go_enter Try.func27, Try.ntmps27
      go_wp2
      go_ret
      exact ⟨rfl, rfl⟩
    · obtain rfl : q = false := by cases q with
        | false => rfl
        | true => exact absurd (hq.1 rfl).2 h2
      clear hq
      go_enter Try.func27, Try.ntmps27
      go_wp2
      go_ret
      exact ⟨rfl, rfl⟩
  · obtain rfl : q = false := by cases q with
      | false => rfl
      | true => exact absurd (hq.1 rfl).1 h1
    clear hq
    go_enter Try.func27, Try.ntmps27
    go_wp2
    go_ret
    exact ⟨rfl, rfl⟩
theorem iscount_any (n : Int) (w : World) : Calls Try.prog 27 #[.int .i64 n] w fun e w' => e = .returned (.bool (decide (1 ≤ n ∧ n ≤ 32))) ∧ w = w' := iscount_fix n _ decide_eq_true_iff w

set_option maxHeartbeats 8000000 in
theorem areright_any (v : Value) (ys : List Ob) (w : World) (hy : Os w v ys) (hl : ys.length ≤ 3000) :
    Calls Try.prog 28 #[v] w fun e w' => e = .returned (.bool (decide (AllOk ys))) ∧ Below w.heap.size w w' := by
  obtain ⟨a, c, rfl⟩ := hy.form
  have HY := Lib.hid hy
  clear hy
  go_enter Try.func28, Try.ntmps28
  go_wp2_with fail
  go_loopw [4, 7] (fun _ i wr => ∃ k : Nat, k ≤ ys.length ∧ i = .int .i64 k ∧ (∀ i, i < k → (ys.getD i z12).Ok) ∧ Below w.heap.size w wr) (fun _ i _ => ys.length - (intOf i).toNat)
  case atStart => exact ⟨0, Nat.zero_le _, rfl, fun i h => absurd h (Nat.not_lt_zero _), Below.refl _ _⟩
  case round =>
    obtain ⟨k, hk, rfl, hok, hbel⟩ := hrel
    have HO := Lib.hid hok
    have HB := Lib.hid hbel
    clear hok hbel
    by_cases hlt : k < ys.length
    · obtain ⟨b, off, rfl, hB, hc⟩ := (HY.out.below HB.out).at hlt
      obtain ⟨y, hyk⟩ : ∃ y, ys.getD k z12 = y := ⟨_, rfl⟩
      rw [hyk] at hc
      obtain ⟨p0, p1, p2, p3, p4, p5, p6, p7, p8, p9, p10, p11⟩ := hc.all
      have HK := Lib.hid hyk
      have H2 := Lib.hid ((Below.refl _ wr).alloc (Nat.le_refl _) (.cells #[.int .i64 y.k, .int .i64 y.x, .bool y.n, .int .i64 y.t, .int .i64 y.o, .int .i64 y.r, .int .i64 y.d, .int .i64 y.i, .int .i64 y.p, .int .i64 y.q, .int .i64 y.s, .int .i64 y.m] 52))
      clear hc hyk
      by_cases hq : y.Ok
      · have cB : ∀ w, Calls Try.prog 42 #[.agg #[.int .i64 y.k, .int .i64 y.x, .bool y.n, .int .i64 y.t, .int .i64 y.o, .int .i64 y.r, .int .i64 y.d, .int .i64 y.i, .int .i64 y.p, .int .i64 y.q, .int .i64 y.s, .int .i64 y.m]] w fun e w' => e = .returned (.int .i64 0) ∧ Below w.heap.size w w' := fun w => by
          have h := ocheck_any y.k y.x y.n y.t y.o y.r y.d y.i y.p y.q y.s y.m w
          rwa [show obc y.k y.x y.n y.t y.o y.r y.d y.i y.p y.q y.s y.m = 0 from obc_ok hq] at h
        have HQ := Lib.hid hq
        clear hq
        go_wp2_with fail
        refine (cB _).mono ?_
        rintro e w1 ⟨rfl, hb⟩
        replace HB := Lib.hid (HB.out.trans ((H2.out.trans (hb.mono H2.out.size)).mono HB.out.size))
        clear hb
        go_wp2_with fail
        go_roundw
        case rel =>
          refine ⟨k + 1, by omega, by go_num, ?_, HB.out⟩
          intro j hj
          by_cases h : j < k
          · exact HO.out j h
          · obtain rfl : j = k := by omega
            rw [HK.out]; exact HQ.out
        case measure => simp [intOf]; omega
      · have cB : ∀ w, Calls Try.prog 42 #[.agg #[.int .i64 y.k, .int .i64 y.x, .bool y.n, .int .i64 y.t, .int .i64 y.o, .int .i64 y.r, .int .i64 y.d, .int .i64 y.i, .int .i64 y.p, .int .i64 y.q, .int .i64 y.s, .int .i64 y.m]] w fun e w' => e = .returned (.int .i64 1) ∧ Below w.heap.size w w' := fun w => by
          have h := ocheck_any y.k y.x y.n y.t y.o y.r y.d y.i y.p y.q y.s y.m w
          rwa [show obc y.k y.x y.n y.t y.o y.r y.d y.i y.p y.q y.s y.m = 1 from obc_no hq] at h
        have HQ := Lib.hid hq
        clear hq
        go_wp2_with fail
        refine (cB _).mono ?_
        rintro e w1 ⟨rfl, hb⟩
        replace HB := Lib.hid (HB.out.trans ((H2.out.trans (hb.mono H2.out.size)).mono HB.out.size))
        clear hb
        go_wp2_with fail
        go_ret
        refine ⟨ret_false (fun h => HQ.out (by rw [← HK.out]; exact h k hlt)), HB.out⟩
    · obtain rfl : k = ys.length := by omega
      go_wp2_with fail
      go_ret
      exact ⟨ret_true HO.out, HB.out⟩

set_option maxHeartbeats 8000000 in
theorem psize_any (v : Value) (ys : List Ob) (w : World) (hy : Os w v ys) (hl : ys.length ≤ 3000) :
    Calls Try.prog 29 #[v] w fun e w' => e = .returned (.int .i64 (3 + (osz ys : Int))) ∧ Below w.heap.size w w' := by
  obtain ⟨a, c, rfl⟩ := hy.form
  have HY := Lib.hid hy
  clear hy
  go_enter Try.func29, Try.ntmps29
  go_wp2_with fail
  go_loopw [3, 5, 8] (fun n _ i wr => ∃ k : Nat, k ≤ ys.length ∧ i = .int .i64 k ∧ n = .int .i64 (3 + (osz (ys.take k) : Int)) ∧ Below w.heap.size w wr) (fun _ _ i _ => ys.length - (intOf i).toNat)
  case atStart => exact ⟨0, Nat.zero_le _, rfl, rfl, Below.refl _ _⟩
  case round =>
    obtain ⟨k, hk, rfl, rfl, hbel⟩ := hrel
    have HB := Lib.hid hbel
    clear hbel
    have hz := osz_le (ys.take k)
    have hzk : osz (ys.take k) ≤ 120000 := by rw [List.length_take] at hz; omega
    clear hz
    by_cases hlt : k < ys.length
    · obtain ⟨b, off, rfl, hB, hc⟩ := (HY.out.below HB.out).at hlt
      have hsucc := Lib.hid (osz_succ ys k hlt)
      obtain ⟨y, hyk⟩ : ∃ y, ys.getD k z12 = y := ⟨_, rfl⟩
      rw [hyk] at hc hsucc
      obtain ⟨p0, p1, p2, p3, p4, p5, p6, p7, p8, p9, p10, p11⟩ := hc.all
      have H2 := Lib.hid ((Below.refl _ wr).alloc (Nat.le_refl _) (.cells #[.int .i64 y.k, .int .i64 y.x, .bool y.n, .int .i64 y.t, .int .i64 y.o, .int .i64 y.r, .int .i64 y.d, .int .i64 y.i, .int .i64 y.p, .int .i64 y.q, .int .i64 y.s, .int .i64 y.m] 52))
      have hyl := bs_le y
      have cB : ∀ w, Calls Try.prog 22 #[.agg #[.int .i64 y.k, .int .i64 y.x, .bool y.n, .int .i64 y.t, .int .i64 y.o, .int .i64 y.r, .int .i64 y.d, .int .i64 y.i, .int .i64 y.p, .int .i64 y.q, .int .i64 y.s, .int .i64 y.m]] w fun e w' => e = .returned (.int .i64 y.bs.length) ∧ Below w.heap.size w w' := fun w => osize_any y.k y.x y.n y.t y.o y.r y.d y.i y.p y.q y.s y.m w
      clear hc hyk
      go_wp2_with fail
      refine (cB _).mono ?_
      rintro e w1 ⟨rfl, hb⟩
      replace HB := Lib.hid (HB.out.trans ((H2.out.trans (hb.mono H2.out.size)).mono HB.out.size))
      clear hb
      go_wp2_with fail
      go_roundw
      case rel => exact ⟨k + 1, by omega, by go_num, by rw [hsucc.out]; go_num, HB.out⟩
      case measure => simp [intOf]; omega
    · obtain rfl : k = ys.length := by omega
      go_wp2_with fail
      go_ret
      refine ⟨?_, HB.out⟩
      rw [List.take_length]; rfl
#print axioms psize_any
end Go.Proofs.Ytfdjaodnmjkpcaa

namespace Go.Proofs.Ytfdjaodnmjkpcaa
set_option maxRecDepth 100000
open Go.RowKit Go.Sort

set_option maxHeartbeats 8000000 in
theorem pcheck_a (M : Int) (a : Option Addr) (c : Nat) (ys : List Ob) (w : World) (hy : Os w (.slice a ys.length c) ys) (_ : ys.length ≤ 3000) (hN : (M != lft M) = true) :
    Calls Try.prog 12 #[.agg #[.int .i64 M, .slice a ys.length c]] w fun e w' => e = .returned (.int .i64 1) ∧ Below w.heap.size w w' := by
  have cL : ∀ w, Calls Try.prog 26 #[.int .i64 M] w fun e w' => e = .returned (.int .i64 (lft M)) ∧ Below w.heap.size w w' := fun w => pleft_any M w
  have HY := Lib.hid (hy.alloc (.cells #[.int .i64 M, .slice a ys.length c] 24))
  have HB : Hid (Below w.heap.size w (w.alloc (.cells #[.int .i64 M, .slice a ys.length c] 24))) := (Below.refl _ w).alloc (Nat.le_refl _) _
  have k0 : (w.alloc (.cells #[.int .i64 M, .slice a ys.length c] 24)).cell? ⟨w.heap.size, 0, none⟩ = some (.int .i64 M) := by simp
  have k1 : (w.alloc (.cells #[.int .i64 M, .slice a ys.length c] 24)).cell? ⟨w.heap.size, 1, none⟩ = some (.slice a ys.length c) := by simp
  clear hy
  go_enter Try.func12, Try.ntmps12
  go_wp2_with fail
  generalize w.alloc (.cells #[.int .i64 M, .slice a ys.length c] 24) = V1 at *
  have kc : ∀ w', Below V1.heap.size V1 w' → w'.cell? ⟨w.heap.size, 0, none⟩ = some (.int .i64 M) ∧ w'.cell? ⟨w.heap.size, 1, none⟩ = some (.slice a ys.length c) := fun w' h =>
    ⟨by rw [h.cell (World.block_lt_of_cell? V1 _ k0)]; exact k0, by rw [h.cell (World.block_lt_of_cell? V1 _ k1)]; exact k1⟩

  refine wp_region_typed (C := fun w' => Below V1.heap.size V1 w') (X := fun w w' => Below w.heap.size w w') (n := 28) (by kernel_rfl) (by kernel_rfl) rfl (fun w => Below.refl _ w) (Below.refl _ _).drew ?_
  refine w_is (fun w => Below.refl _ w) _ (.inl rfl) (fun ρ w hC hc hfn hf => by have e1 : ρ (.tmp 1) = _ := hf 1 (by decide); (conv => lhs; simp [execOp, go_sem, hc, e1])) ?_
  refine w_is (fun w => Below.refl _ w) _ (.inl rfl) (fun ρ w hC hc hfn hf => by have e3 : ρ (.tmp 3) = _ := hf 3 (by decide); (conv => lhs; simp [execOp, go_sem, hc, e3, kc w hC])) ?_
  refine w_is (fun w => Below.refl _ w) _ (.inl rfl) (fun ρ w hC hc hfn hf => by have e1 : ρ (.tmp 1) = _ := hf 1 (by decide); (conv => lhs; simp [execOp, go_sem, hc, e1])) ?_
  refine w_is (fun w => Below.refl _ w) _ (.inl rfl) (fun ρ w hC hc hfn hf => by have e5 : ρ (.tmp 5) = _ := hf 5 (by decide); (conv => lhs; simp [execOp, go_sem, hc, e5, kc w hC])) ?_
  refine w_call (Is _) (fun _ _ _ h _ => h) 26 (.inl rfl) (fun ρ w hC hc hfn hf => by have e6 : ρ (.tmp 6) = _ := hf 6 (by decide); exact ⟨_, by (conv => lhs; simp [execOp, resolve, invoke, go_sem, hc, hfn, e6]), tc_below hC (cL w)⟩) ?_
  refine w_is (fun w => Below.refl _ w) _ (.inl rfl) (fun ρ w hC hc hfn hf => by have e4 : ρ (.tmp 4) = _ := hf 4 (by decide); have e7 : ρ (.tmp 7) = _ := hf 7 (by decide); (conv => lhs; simp [execOp, go_sem, hc, e4, e7, hN])) ?_
  refine w_is (fun w => Below.refl _ w) _ (.inl rfl) (fun ρ w hC hc hfn hf => by have e8 : ρ (.tmp 8) = _ := hf 8 (by decide); (conv => lhs; simp [execOp, go_sem, hc, e8])) ?_
  refine w_skip rfl rfl (known_is rfl) ?_
  refine w_skip rfl rfl (known_is rfl) ?_
  refine w_skip rfl rfl (known_is rfl) ?_
  refine w_skip rfl rfl (known_is rfl) ?_
  refine w_skip rfl rfl (known_is rfl) ?_
  refine w_is (fun w => Below.refl _ w) _ (.inl rfl) (fun ρ w hC hc hfn hf => by have e9 : ρ (.tmp 9) = _ := hf 9 (by decide); have e14 : ρ (.tmp 14) = _ := hf 14 (by decide); (conv => lhs; simp [execOp, go_sem, hc, e9, e14])) ?_
  refine w_is (fun w => Below.refl _ w) _ (.inl rfl) (fun ρ w hC hc hfn hf => by have e15 : ρ (.tmp 15) = _ := hf 15 (by decide); (conv => lhs; simp [execOp, go_sem, hc, e15])) ?_
  refine w_skip rfl rfl (known_is rfl) ?_
  refine w_skip rfl rfl (known_is rfl) ?_
  refine w_skip rfl rfl (known_is rfl) ?_
  refine w_skip rfl rfl (known_is rfl) ?_
  refine w_is (fun w => Below.refl _ w) _ (.inl rfl) (fun ρ w hC hc hfn hf => by have e16 : ρ (.tmp 16) = _ := hf 16 (by decide); have e20 : ρ (.tmp 20) = _ := hf 20 (by decide); (conv => lhs; simp [execOp, go_sem, hc, e16, e20])) ?_
  refine w_is (fun w => Below.refl _ w) _ (.inl rfl) (fun ρ w hC hc hfn hf => by have e21 : ρ (.tmp 21) = _ := hf 21 (by decide); (conv => lhs; simp [execOp, go_sem, hc, e21])) ?_
  refine w_skip rfl rfl (known_is rfl) ?_
  refine w_skip rfl rfl (known_is rfl) ?_
  refine w_skip rfl rfl (known_is rfl) ?_
  refine w_skip rfl rfl (known_is rfl) ?_
  refine w_is (fun w => Below.refl _ w) _ (.inl rfl) (fun ρ w hC hc hfn hf => by have e22 : ρ (.tmp 22) = _ := hf 22 (by decide); have e26 : ρ (.tmp 26) = _ := hf 26 (by decide); (conv => lhs; simp [execOp, go_sem, hc, e22, e26])) ?_
  intro A V5 hC hn hd hf
  have y0 : A.eval (.tmp 0) = _ := Eq.trans (hf 0) (by conv => lhs; simp [go_sem])
  have y1 : A.eval (.tmp 1) = _ := Eq.trans (hf 1) (by conv => lhs; simp [go_sem])
  have y2 : A.eval (.tmp 2) = _ := Eq.trans (hf 2) (by conv => lhs; simp [go_sem])
  have y3 : A.eval (.tmp 3) = _ := hf 3
  have y4 : A.eval (.tmp 4) = _ := hf 4
  have y5 : A.eval (.tmp 5) = _ := hf 5
  have y6 : A.eval (.tmp 6) = _ := hf 6
  have y7 : A.eval (.tmp 7) = _ := hf 7
  have y8 : A.eval (.tmp 8) = _ := hf 8
  have y9 : A.eval (.tmp 9) = _ := hf 9
  have y10 : A.eval (.tmp 10) = _ := hf 10
  have y11 : A.eval (.tmp 11) = _ := hf 11
  have y12 : A.eval (.tmp 12) = _ := hf 12
  have y13 : A.eval (.tmp 13) = _ := hf 13
  have y14 : A.eval (.tmp 14) = _ := hf 14
  have y15 : A.eval (.tmp 15) = _ := hf 15
  have y16 : A.eval (.tmp 16) = _ := hf 16
  have y17 : A.eval (.tmp 17) = _ := hf 17
  have y18 : A.eval (.tmp 18) = _ := hf 18
  have y19 : A.eval (.tmp 19) = _ := hf 19
  have y20 : A.eval (.tmp 20) = _ := hf 20
  have y21 : A.eval (.tmp 21) = _ := hf 21
  have y22 : A.eval (.tmp 22) = _ := hf 22
  have y23 : A.eval (.tmp 23) = _ := hf 23
  have y24 : A.eval (.tmp 24) = _ := hf 24
  have y25 : A.eval (.tmp 25) = _ := hf 25
  have y26 : A.eval (.tmp 26) = _ := hf 26
  have y27 : A.eval (.tmp 27) = _ := hf 27
  clear hf
  have hA := frame_eq hn
  rw [show List.range 28 = [0, 1, 2, 3, 4, 5, 6, 7, 8, 9, 10, 11, 12, 13, 14, 15, 16, 17, 18, 19, 20, 21, 22, 23, 24, 25, 26, 27] from rfl, hd] at hA
  simp only [List.map_cons, List.map_nil, y0, y1, y2, y3, y4, y5, y6, y7, y8, y9, y10, y11, y12, y13, y14, y15, y16, y17, y18, y19, y20, y21, y22, y23, y24, y25, y26, y27] at hA
  clear y0 y1 y2 y3 y4 y5 y6 y7 y8 y9 y10 y11 y12 y13 y14 y15 y16 y17 y18 y19 y20 y21 y22 y23 y24 y25 y26 y27
  clear hn hd
  subst hA
  go_wp2_with fail
  go_ret
  exact ⟨rfl, HB.out.trans (hC.mono HB.out.size)⟩

set_option maxHeartbeats 8000000 in
theorem pcheck_b (M : Int) (a : Option Addr) (c : Nat) (ys : List Ob) (w : World) (hy : Os w (.slice a ys.length c) ys) (_ : ys.length ≤ 3000) (hN : (M != lft M) = false) (hL : ¬ (1 ≤ (ys.length : Int) ∧ (ys.length : Int) ≤ 32)) :
    Calls Try.prog 12 #[.agg #[.int .i64 M, .slice a ys.length c]] w fun e w' => e = .returned (.int .i64 1) ∧ Below w.heap.size w w' := by
  have cL : ∀ w, Calls Try.prog 26 #[.int .i64 M] w fun e w' => e = .returned (.int .i64 (lft M)) ∧ Below w.heap.size w w' := fun w => pleft_any M w
  have cC : ∀ w, Calls Try.prog 27 #[.int .i64 ys.length] w fun e w' => e = .returned (.bool false) ∧ w = w' := fun w => by have h := iscount_any ys.length w; rwa [decide_eq_false hL] at h
  have HY := Lib.hid (hy.alloc (.cells #[.int .i64 M, .slice a ys.length c] 24))
  have HB : Hid (Below w.heap.size w (w.alloc (.cells #[.int .i64 M, .slice a ys.length c] 24))) := (Below.refl _ w).alloc (Nat.le_refl _) _
  have k0 : (w.alloc (.cells #[.int .i64 M, .slice a ys.length c] 24)).cell? ⟨w.heap.size, 0, none⟩ = some (.int .i64 M) := by simp
  have k1 : (w.alloc (.cells #[.int .i64 M, .slice a ys.length c] 24)).cell? ⟨w.heap.size, 1, none⟩ = some (.slice a ys.length c) := by simp
  clear hy
  go_enter Try.func12, Try.ntmps12
  go_wp2_with fail
  generalize w.alloc (.cells #[.int .i64 M, .slice a ys.length c] 24) = V1 at *
  have kc : ∀ w', Below V1.heap.size V1 w' → w'.cell? ⟨w.heap.size, 0, none⟩ = some (.int .i64 M) ∧ w'.cell? ⟨w.heap.size, 1, none⟩ = some (.slice a ys.length c) := fun w' h =>
    ⟨by rw [h.cell (World.block_lt_of_cell? V1 _ k0)]; exact k0, by rw [h.cell (World.block_lt_of_cell? V1 _ k1)]; exact k1⟩

  refine wp_region_typed (C := fun w' => Below V1.heap.size V1 w') (X := fun w w' => Below w.heap.size w w') (n := 28) (by kernel_rfl) (by kernel_rfl) rfl (fun w => Below.refl _ w) (Below.refl _ _).drew ?_
  refine w_is (fun w => Below.refl _ w) _ (.inl rfl) (fun ρ w hC hc hfn hf => by have e1 : ρ (.tmp 1) = _ := hf 1 (by decide); (conv => lhs; simp [execOp, go_sem, hc, e1])) ?_
  refine w_is (fun w => Below.refl _ w) _ (.inl rfl) (fun ρ w hC hc hfn hf => by have e3 : ρ (.tmp 3) = _ := hf 3 (by decide); (conv => lhs; simp [execOp, go_sem, hc, e3, kc w hC])) ?_
  refine w_is (fun w => Below.refl _ w) _ (.inl rfl) (fun ρ w hC hc hfn hf => by have e1 : ρ (.tmp 1) = _ := hf 1 (by decide); (conv => lhs; simp [execOp, go_sem, hc, e1])) ?_
  refine w_is (fun w => Below.refl _ w) _ (.inl rfl) (fun ρ w hC hc hfn hf => by have e5 : ρ (.tmp 5) = _ := hf 5 (by decide); (conv => lhs; simp [execOp, go_sem, hc, e5, kc w hC])) ?_
  refine w_call (Is _) (fun _ _ _ h _ => h) 26 (.inl rfl) (fun ρ w hC hc hfn hf => by have e6 : ρ (.tmp 6) = _ := hf 6 (by decide); exact ⟨_, by (conv => lhs; simp [execOp, resolve, invoke, go_sem, hc, hfn, e6]), tc_below hC (cL w)⟩) ?_
  refine w_is (fun w => Below.refl _ w) _ (.inl rfl) (fun ρ w hC hc hfn hf => by have e4 : ρ (.tmp 4) = _ := hf 4 (by decide); have e7 : ρ (.tmp 7) = _ := hf 7 (by decide); (conv => lhs; simp [execOp, go_sem, hc, e4, e7, hN])) ?_
  refine w_is (fun w => Below.refl _ w) _ (.inl rfl) (fun ρ w hC hc hfn hf => by have e8 : ρ (.tmp 8) = _ := hf 8 (by decide); (conv => lhs; simp [execOp, go_sem, hc, e8])) ?_
  refine w_is (fun w => Below.refl _ w) _ (.inr ⟨6, 9, false, rfl, rfl, known_is rfl⟩) (fun ρ w hC hc hfn hf => by have e1 : ρ (.tmp 1) = _ := hf 1 (by decide); (conv => lhs; simp [execOp, go_sem, hc, e1])) ?_
  refine w_is (fun w => Below.refl _ w) _ (.inr ⟨6, 9, false, rfl, rfl, known_is rfl⟩) (fun ρ w hC hc hfn hf => by have e10 : ρ (.tmp 10) = _ := hf 10 (by decide); (conv => lhs; simp [execOp, go_sem, hc, e10, kc w hC])) ?_
  refine w_is (fun w => Below.refl _ w) _ (.inr ⟨6, 9, false, rfl, rfl, known_is rfl⟩) (fun ρ w hC hc hfn hf => by have e11 : ρ (.tmp 11) = _ := hf 11 (by decide); (conv => lhs; simp [execOp, go_sem, hc, e11])) ?_
  refine w_call (Is _) (fun _ _ _ h _ => h) 27 (.inr ⟨6, 9, false, rfl, rfl, known_is rfl⟩) (fun ρ w hC hc hfn hf => by have e12 : ρ (.tmp 12) = _ := hf 12 (by decide); exact ⟨_, by (conv => lhs; simp [execOp, resolve, invoke, go_sem, hc, hfn, e12]), tc_same hC (cC w)⟩) ?_
  refine w_is (fun w => Below.refl _ w) _ (.inr ⟨6, 9, false, rfl, rfl, known_is rfl⟩) (fun ρ w hC hc hfn hf => by have e13 : ρ (.tmp 13) = _ := hf 13 (by decide); (conv => lhs; simp [execOp, go_sem, hc, e13])) ?_
  refine w_is (fun w => Below.refl _ w) _ (.inl rfl) (fun ρ w hC hc hfn hf => by have e9 : ρ (.tmp 9) = _ := hf 9 (by decide); have e14 : ρ (.tmp 14) = _ := hf 14 (by decide); (conv => lhs; simp [execOp, go_sem, hc, e9, e14])) ?_
  refine w_is (fun w => Below.refl _ w) _ (.inl rfl) (fun ρ w hC hc hfn hf => by have e15 : ρ (.tmp 15) = _ := hf 15 (by decide); (conv => lhs; simp [execOp, go_sem, hc, e15])) ?_
  refine w_skip rfl rfl (known_is rfl) ?_
  refine w_skip rfl rfl (known_is rfl) ?_
  refine w_skip rfl rfl (known_is rfl) ?_
  refine w_skip rfl rfl (known_is rfl) ?_
  refine w_is (fun w => Below.refl _ w) _ (.inl rfl) (fun ρ w hC hc hfn hf => by have e16 : ρ (.tmp 16) = _ := hf 16 (by decide); have e20 : ρ (.tmp 20) = _ := hf 20 (by decide); (conv => lhs; simp [execOp, go_sem, hc, e16, e20])) ?_
  refine w_is (fun w => Below.refl _ w) _ (.inl rfl) (fun ρ w hC hc hfn hf => by have e21 : ρ (.tmp 21) = _ := hf 21 (by decide); (conv => lhs; simp [execOp, go_sem, hc, e21])) ?_
  refine w_skip rfl rfl (known_is rfl) ?_
  refine w_skip rfl rfl (known_is rfl) ?_
  refine w_skip rfl rfl (known_is rfl) ?_
  refine w_skip rfl rfl (known_is rfl) ?_
  refine w_is (fun w => Below.refl _ w) _ (.inl rfl) (fun ρ w hC hc hfn hf => by have e22 : ρ (.tmp 22) = _ := hf 22 (by decide); have e26 : ρ (.tmp 26) = _ := hf 26 (by decide); (conv => lhs; simp [execOp, go_sem, hc, e22, e26])) ?_
  intro A V5 hC hn hd hf
  have y0 : A.eval (.tmp 0) = _ := Eq.trans (hf 0) (by conv => lhs; simp [go_sem])
  have y1 : A.eval (.tmp 1) = _ := Eq.trans (hf 1) (by conv => lhs; simp [go_sem])
  have y2 : A.eval (.tmp 2) = _ := Eq.trans (hf 2) (by conv => lhs; simp [go_sem])
  have y3 : A.eval (.tmp 3) = _ := hf 3
  have y4 : A.eval (.tmp 4) = _ := hf 4
  have y5 : A.eval (.tmp 5) = _ := hf 5
  have y6 : A.eval (.tmp 6) = _ := hf 6
  have y7 : A.eval (.tmp 7) = _ := hf 7
  have y8 : A.eval (.tmp 8) = _ := hf 8
  have y9 : A.eval (.tmp 9) = _ := hf 9
  have y10 : A.eval (.tmp 10) = _ := hf 10
  have y11 : A.eval (.tmp 11) = _ := hf 11
  have y12 : A.eval (.tmp 12) = _ := hf 12
  have y13 : A.eval (.tmp 13) = _ := hf 13
  have y14 : A.eval (.tmp 14) = _ := hf 14
  have y15 : A.eval (.tmp 15) = _ := hf 15
  have y16 : A.eval (.tmp 16) = _ := hf 16
  have y17 : A.eval (.tmp 17) = _ := hf 17
  have y18 : A.eval (.tmp 18) = _ := hf 18
  have y19 : A.eval (.tmp 19) = _ := hf 19
  have y20 : A.eval (.tmp 20) = _ := hf 20
  have y21 : A.eval (.tmp 21) = _ := hf 21
  have y22 : A.eval (.tmp 22) = _ := hf 22
  have y23 : A.eval (.tmp 23) = _ := hf 23
  have y24 : A.eval (.tmp 24) = _ := hf 24
  have y25 : A.eval (.tmp 25) = _ := hf 25
  have y26 : A.eval (.tmp 26) = _ := hf 26
  have y27 : A.eval (.tmp 27) = _ := hf 27
  clear hf
  have hA := frame_eq hn
  rw [show List.range 28 = [0, 1, 2, 3, 4, 5, 6, 7, 8, 9, 10, 11, 12, 13, 14, 15, 16, 17, 18, 19, 20, 21, 22, 23, 24, 25, 26, 27] from rfl, hd] at hA
  simp only [List.map_cons, List.map_nil, y0, y1, y2, y3, y4, y5, y6, y7, y8, y9, y10, y11, y12, y13, y14, y15, y16, y17, y18, y19, y20, y21, y22, y23, y24, y25, y26, y27] at hA
  clear y0 y1 y2 y3 y4 y5 y6 y7 y8 y9 y10 y11 y12 y13 y14 y15 y16 y17 y18 y19 y20 y21 y22 y23 y24 y25 y26 y27
  clear hn hd
  subst hA
  go_wp2_with fail
  go_ret
  exact ⟨rfl, HB.out.trans (hC.mono HB.out.size)⟩

set_option maxHeartbeats 8000000 in
theorem pcheck_c (M : Int) (a : Option Addr) (c : Nat) (ys : List Ob) (w : World) (hy : Os w (.slice a ys.length c) ys) (hl : ys.length ≤ 3000) (hN : (M != lft M) = false) (hL : 1 ≤ (ys.length : Int) ∧ (ys.length : Int) ≤ 32) (hR : ¬ AllOk ys) :
    Calls Try.prog 12 #[.agg #[.int .i64 M, .slice a ys.length c]] w fun e w' => e = .returned (.int .i64 1) ∧ Below w.heap.size w w' := by
  have cL : ∀ w, Calls Try.prog 26 #[.int .i64 M] w fun e w' => e = .returned (.int .i64 (lft M)) ∧ Below w.heap.size w w' := fun w => pleft_any M w
  have cC : ∀ w, Calls Try.prog 27 #[.int .i64 ys.length] w fun e w' => e = .returned (.bool true) ∧ w = w' := fun w => by have h := iscount_any ys.length w; rwa [decide_eq_true hL] at h
  have HY := Lib.hid (hy.alloc (.cells #[.int .i64 M, .slice a ys.length c] 24))
  have HB : Hid (Below w.heap.size w (w.alloc (.cells #[.int .i64 M, .slice a ys.length c] 24))) := (Below.refl _ w).alloc (Nat.le_refl _) _
  have k0 : (w.alloc (.cells #[.int .i64 M, .slice a ys.length c] 24)).cell? ⟨w.heap.size, 0, none⟩ = some (.int .i64 M) := by simp
  have k1 : (w.alloc (.cells #[.int .i64 M, .slice a ys.length c] 24)).cell? ⟨w.heap.size, 1, none⟩ = some (.slice a ys.length c) := by simp
  clear hy
  go_enter Try.func12, Try.ntmps12
  go_wp2_with fail
  generalize w.alloc (.cells #[.int .i64 M, .slice a ys.length c] 24) = V1 at *
  have kc : ∀ w', Below V1.heap.size V1 w' → w'.cell? ⟨w.heap.size, 0, none⟩ = some (.int .i64 M) ∧ w'.cell? ⟨w.heap.size, 1, none⟩ = some (.slice a ys.length c) := fun w' h =>
    ⟨by rw [h.cell (World.block_lt_of_cell? V1 _ k0)]; exact k0, by rw [h.cell (World.block_lt_of_cell? V1 _ k1)]; exact k1⟩
  have cR : ∀ w', Below V1.heap.size V1 w' → Calls Try.prog 28 #[.slice a ys.length c] w' fun e w'' => e = .returned (.bool false) ∧ Below w'.heap.size w' w'' := fun w' hb => by have h := areright_any (.slice a ys.length c) ys w' (HY.out.below hb) hl; rwa [decide_eq_false hR] at h

  refine wp_region_typed (C := fun w' => Below V1.heap.size V1 w') (X := fun w w' => Below w.heap.size w w') (n := 28) (by kernel_rfl) (by kernel_rfl) rfl (fun w => Below.refl _ w) (Below.refl _ _).drew ?_
  refine w_is (fun w => Below.refl _ w) _ (.inl rfl) (fun ρ w hC hc hfn hf => by have e1 : ρ (.tmp 1) = _ := hf 1 (by decide); (conv => lhs; simp [execOp, go_sem, hc, e1])) ?_
  refine w_is (fun w => Below.refl _ w) _ (.inl rfl) (fun ρ w hC hc hfn hf => by have e3 : ρ (.tmp 3) = _ := hf 3 (by decide); (conv => lhs; simp [execOp, go_sem, hc, e3, kc w hC])) ?_
  refine w_is (fun w => Below.refl _ w) _ (.inl rfl) (fun ρ w hC hc hfn hf => by have e1 : ρ (.tmp 1) = _ := hf 1 (by decide); (conv => lhs; simp [execOp, go_sem, hc, e1])) ?_
  refine w_is (fun w => Below.refl _ w) _ (.inl rfl) (fun ρ w hC hc hfn hf => by have e5 : ρ (.tmp 5) = _ := hf 5 (by decide); (conv => lhs; simp [execOp, go_sem, hc, e5, kc w hC])) ?_
  refine w_call (Is _) (fun _ _ _ h _ => h) 26 (.inl rfl) (fun ρ w hC hc hfn hf => by have e6 : ρ (.tmp 6) = _ := hf 6 (by decide); exact ⟨_, by (conv => lhs; simp [execOp, resolve, invoke, go_sem, hc, hfn, e6]), tc_below hC (cL w)⟩) ?_
  refine w_is (fun w => Below.refl _ w) _ (.inl rfl) (fun ρ w hC hc hfn hf => by have e4 : ρ (.tmp 4) = _ := hf 4 (by decide); have e7 : ρ (.tmp 7) = _ := hf 7 (by decide); (conv => lhs; simp [execOp, go_sem, hc, e4, e7, hN])) ?_
  refine w_is (fun w => Below.refl _ w) _ (.inl rfl) (fun ρ w hC hc hfn hf => by have e8 : ρ (.tmp 8) = _ := hf 8 (by decide); (conv => lhs; simp [execOp, go_sem, hc, e8])) ?_
  refine w_is (fun w => Below.refl _ w) _ (.inr ⟨6, 9, false, rfl, rfl, known_is rfl⟩) (fun ρ w hC hc hfn hf => by have e1 : ρ (.tmp 1) = _ := hf 1 (by decide); (conv => lhs; simp [execOp, go_sem, hc, e1])) ?_
  refine w_is (fun w => Below.refl _ w) _ (.inr ⟨6, 9, false, rfl, rfl, known_is rfl⟩) (fun ρ w hC hc hfn hf => by have e10 : ρ (.tmp 10) = _ := hf 10 (by decide); (conv => lhs; simp [execOp, go_sem, hc, e10, kc w hC])) ?_
  refine w_is (fun w => Below.refl _ w) _ (.inr ⟨6, 9, false, rfl, rfl, known_is rfl⟩) (fun ρ w hC hc hfn hf => by have e11 : ρ (.tmp 11) = _ := hf 11 (by decide); (conv => lhs; simp [execOp, go_sem, hc, e11])) ?_
  refine w_call (Is _) (fun _ _ _ h _ => h) 27 (.inr ⟨6, 9, false, rfl, rfl, known_is rfl⟩) (fun ρ w hC hc hfn hf => by have e12 : ρ (.tmp 12) = _ := hf 12 (by decide); exact ⟨_, by (conv => lhs; simp [execOp, resolve, invoke, go_sem, hc, hfn, e12]), tc_same hC (cC w)⟩) ?_
  refine w_is (fun w => Below.refl _ w) _ (.inr ⟨6, 9, false, rfl, rfl, known_is rfl⟩) (fun ρ w hC hc hfn hf => by have e13 : ρ (.tmp 13) = _ := hf 13 (by decide); (conv => lhs; simp [execOp, go_sem, hc, e13])) ?_
  refine w_is (fun w => Below.refl _ w) _ (.inl rfl) (fun ρ w hC hc hfn hf => by have e9 : ρ (.tmp 9) = _ := hf 9 (by decide); have e14 : ρ (.tmp 14) = _ := hf 14 (by decide); (conv => lhs; simp [execOp, go_sem, hc, e9, e14])) ?_
  refine w_is (fun w => Below.refl _ w) _ (.inl rfl) (fun ρ w hC hc hfn hf => by have e15 : ρ (.tmp 15) = _ := hf 15 (by decide); (conv => lhs; simp [execOp, go_sem, hc, e15])) ?_
  refine w_is (fun w => Below.refl _ w) _ (.inr ⟨13, 16, false, rfl, rfl, known_is rfl⟩) (fun ρ w hC hc hfn hf => by have e1 : ρ (.tmp 1) = _ := hf 1 (by decide); (conv => lhs; simp [execOp, go_sem, hc, e1])) ?_
  refine w_is (fun w => Below.refl _ w) _ (.inr ⟨13, 16, false, rfl, rfl, known_is rfl⟩) (fun ρ w hC hc hfn hf => by have e17 : ρ (.tmp 17) = _ := hf 17 (by decide); (conv => lhs; simp [execOp, go_sem, hc, e17, kc w hC])) ?_
  refine w_call (Is _) (fun _ _ _ h _ => h) 28 (.inr ⟨13, 16, false, rfl, rfl, known_is rfl⟩) (fun ρ w hC hc hfn hf => by have e18 : ρ (.tmp 18) = _ := hf 18 (by decide); exact ⟨_, by (conv => lhs; simp [execOp, resolve, invoke, go_sem, hc, hfn, e18]), tc_below hC (cR w hC)⟩) ?_
  refine w_is (fun w => Below.refl _ w) _ (.inr ⟨13, 16, false, rfl, rfl, known_is rfl⟩) (fun ρ w hC hc hfn hf => by have e19 : ρ (.tmp 19) = _ := hf 19 (by decide); (conv => lhs; simp [execOp, go_sem, hc, e19])) ?_
  refine w_is (fun w => Below.refl _ w) _ (.inl rfl) (fun ρ w hC hc hfn hf => by have e16 : ρ (.tmp 16) = _ := hf 16 (by decide); have e20 : ρ (.tmp 20) = _ := hf 20 (by decide); (conv => lhs; simp [execOp, go_sem, hc, e16, e20])) ?_
  refine w_is (fun w => Below.refl _ w) _ (.inl rfl) (fun ρ w hC hc hfn hf => by have e21 : ρ (.tmp 21) = _ := hf 21 (by decide); (conv => lhs; simp [execOp, go_sem, hc, e21])) ?_
  refine w_skip rfl rfl (known_is rfl) ?_
  refine w_skip rfl rfl (known_is rfl) ?_
  refine w_skip rfl rfl (known_is rfl) ?_
  refine w_skip rfl rfl (known_is rfl) ?_
  refine w_is (fun w => Below.refl _ w) _ (.inl rfl) (fun ρ w hC hc hfn hf => by have e22 : ρ (.tmp 22) = _ := hf 22 (by decide); have e26 : ρ (.tmp 26) = _ := hf 26 (by decide); (conv => lhs; simp [execOp, go_sem, hc, e22, e26])) ?_
  intro A V5 hC hn hd hf
  have y0 : A.eval (.tmp 0) = _ := Eq.trans (hf 0) (by conv => lhs; simp [go_sem])
  have y1 : A.eval (.tmp 1) = _ := Eq.trans (hf 1) (by conv => lhs; simp [go_sem])
  have y2 : A.eval (.tmp 2) = _ := Eq.trans (hf 2) (by conv => lhs; simp [go_sem])
  have y3 : A.eval (.tmp 3) = _ := hf 3
  have y4 : A.eval (.tmp 4) = _ := hf 4
  have y5 : A.eval (.tmp 5) = _ := hf 5
  have y6 : A.eval (.tmp 6) = _ := hf 6
  have y7 : A.eval (.tmp 7) = _ := hf 7
  have y8 : A.eval (.tmp 8) = _ := hf 8
  have y9 : A.eval (.tmp 9) = _ := hf 9
  have y10 : A.eval (.tmp 10) = _ := hf 10
  have y11 : A.eval (.tmp 11) = _ := hf 11
  have y12 : A.eval (.tmp 12) = _ := hf 12
  have y13 : A.eval (.tmp 13) = _ := hf 13
  have y14 : A.eval (.tmp 14) = _ := hf 14
  have y15 : A.eval (.tmp 15) = _ := hf 15
  have y16 : A.eval (.tmp 16) = _ := hf 16
  have y17 : A.eval (.tmp 17) = _ := hf 17
  have y18 : A.eval (.tmp 18) = _ := hf 18
  have y19 : A.eval (.tmp 19) = _ := hf 19
  have y20 : A.eval (.tmp 20) = _ := hf 20
  have y21 : A.eval (.tmp 21) = _ := hf 21
  have y22 : A.eval (.tmp 22) = _ := hf 22
  have y23 : A.eval (.tmp 23) = _ := hf 23
  have y24 : A.eval (.tmp 24) = _ := hf 24
  have y25 : A.eval (.tmp 25) = _ := hf 25
  have y26 : A.eval (.tmp 26) = _ := hf 26
  have y27 : A.eval (.tmp 27) = _ := hf 27
  clear hf
  have hA := frame_eq hn
  rw [show List.range 28 = [0, 1, 2, 3, 4, 5, 6, 7, 8, 9, 10, 11, 12, 13, 14, 15, 16, 17, 18, 19, 20, 21, 22, 23, 24, 25, 26, 27] from rfl, hd] at hA
  simp only [List.map_cons, List.map_nil, y0, y1, y2, y3, y4, y5, y6, y7, y8, y9, y10, y11, y12, y13, y14, y15, y16, y17, y18, y19, y20, y21, y22, y23, y24, y25, y26, y27] at hA
  clear y0 y1 y2 y3 y4 y5 y6 y7 y8 y9 y10 y11 y12 y13 y14 y15 y16 y17 y18 y19 y20 y21 y22 y23 y24 y25 y26 y27
  clear hn hd
  subst hA
  go_wp2_with fail
  go_ret
  exact ⟨rfl, HB.out.trans (hC.mono HB.out.size)⟩

set_option maxHeartbeats 8000000 in
theorem pcheck_d (M : Int) (a : Option Addr) (c : Nat) (ys : List Ob) (w : World) (hy : Os w (.slice a ys.length c) ys) (hl : ys.length ≤ 3000) (hN : (M != lft M) = false) (hL : 1 ≤ (ys.length : Int) ∧ (ys.length : Int) ≤ 32) (hR : AllOk ys) (hZ : (512 : Int) < 3 + (osz ys : Int)) :
    Calls Try.prog 12 #[.agg #[.int .i64 M, .slice a ys.length c]] w fun e w' => e = .returned (.int .i64 1) ∧ Below w.heap.size w w' := by
  have cL : ∀ w, Calls Try.prog 26 #[.int .i64 M] w fun e w' => e = .returned (.int .i64 (lft M)) ∧ Below w.heap.size w w' := fun w => pleft_any M w
  have cC : ∀ w, Calls Try.prog 27 #[.int .i64 ys.length] w fun e w' => e = .returned (.bool true) ∧ w = w' := fun w => by have h := iscount_any ys.length w; rwa [decide_eq_true hL] at h
  have HY := Lib.hid (hy.alloc (.cells #[.int .i64 M, .slice a ys.length c] 24))
  have HB : Hid (Below w.heap.size w (w.alloc (.cells #[.int .i64 M, .slice a ys.length c] 24))) := (Below.refl _ w).alloc (Nat.le_refl _) _
  have k0 : (w.alloc (.cells #[.int .i64 M, .slice a ys.length c] 24)).cell? ⟨w.heap.size, 0, none⟩ = some (.int .i64 M) := by simp
  have k1 : (w.alloc (.cells #[.int .i64 M, .slice a ys.length c] 24)).cell? ⟨w.heap.size, 1, none⟩ = some (.slice a ys.length c) := by simp
  clear hy
  go_enter Try.func12, Try.ntmps12
  go_wp2_with fail
  generalize w.alloc (.cells #[.int .i64 M, .slice a ys.length c] 24) = V1 at *
  have kc : ∀ w', Below V1.heap.size V1 w' → w'.cell? ⟨w.heap.size, 0, none⟩ = some (.int .i64 M) ∧ w'.cell? ⟨w.heap.size, 1, none⟩ = some (.slice a ys.length c) := fun w' h =>
    ⟨by rw [h.cell (World.block_lt_of_cell? V1 _ k0)]; exact k0, by rw [h.cell (World.block_lt_of_cell? V1 _ k1)]; exact k1⟩
  have cR : ∀ w', Below V1.heap.size V1 w' → Calls Try.prog 28 #[.slice a ys.length c] w' fun e w'' => e = .returned (.bool true) ∧ Below w'.heap.size w' w'' := fun w' hb => by have h := areright_any (.slice a ys.length c) ys w' (HY.out.below hb) hl; rwa [decide_eq_true hR] at h
  have cZ : ∀ w', Below V1.heap.size V1 w' → Calls Try.prog 29 #[.slice a ys.length c] w' fun e w'' => e = .returned (.int .i64 (3 + (osz ys : Int))) ∧ Below w'.heap.size w' w'' := fun w' hb => psize_any (.slice a ys.length c) ys w' (HY.out.below hb) hl

  refine wp_region_typed (C := fun w' => Below V1.heap.size V1 w') (X := fun w w' => Below w.heap.size w w') (n := 28) (by kernel_rfl) (by kernel_rfl) rfl (fun w => Below.refl _ w) (Below.refl _ _).drew ?_
  refine w_is (fun w => Below.refl _ w) _ (.inl rfl) (fun ρ w hC hc hfn hf => by have e1 : ρ (.tmp 1) = _ := hf 1 (by decide); (conv => lhs; simp [execOp, go_sem, hc, e1])) ?_
  refine w_is (fun w => Below.refl _ w) _ (.inl rfl) (fun ρ w hC hc hfn hf => by have e3 : ρ (.tmp 3) = _ := hf 3 (by decide); (conv => lhs; simp [execOp, go_sem, hc, e3, kc w hC])) ?_
  refine w_is (fun w => Below.refl _ w) _ (.inl rfl) (fun ρ w hC hc hfn hf => by have e1 : ρ (.tmp 1) = _ := hf 1 (by decide); (conv => lhs; simp [execOp, go_sem, hc, e1])) ?_
  refine w_is (fun w => Below.refl _ w) _ (.inl rfl) (fun ρ w hC hc hfn hf => by have e5 : ρ (.tmp 5) = _ := hf 5 (by decide); (conv => lhs; simp [execOp, go_sem, hc, e5, kc w hC])) ?_
  refine w_call (Is _) (fun _ _ _ h _ => h) 26 (.inl rfl) (fun ρ w hC hc hfn hf => by have e6 : ρ (.tmp 6) = _ := hf 6 (by decide); exact ⟨_, by (conv => lhs; simp [execOp, resolve, invoke, go_sem, hc, hfn, e6]), tc_below hC (cL w)⟩) ?_
  refine w_is (fun w => Below.refl _ w) _ (.inl rfl) (fun ρ w hC hc hfn hf => by have e4 : ρ (.tmp 4) = _ := hf 4 (by decide); have e7 : ρ (.tmp 7) = _ := hf 7 (by decide); (conv => lhs; simp [execOp, go_sem, hc, e4, e7, hN])) ?_
  refine w_is (fun w => Below.refl _ w) _ (.inl rfl) (fun ρ w hC hc hfn hf => by have e8 : ρ (.tmp 8) = _ := hf 8 (by decide); (conv => lhs; simp [execOp, go_sem, hc, e8])) ?_
  refine w_is (fun w => Below.refl _ w) _ (.inr ⟨6, 9, false, rfl, rfl, known_is rfl⟩) (fun ρ w hC hc hfn hf => by have e1 : ρ (.tmp 1) = _ := hf 1 (by decide); (conv => lhs; simp [execOp, go_sem, hc, e1])) ?_
  refine w_is (fun w => Below.refl _ w) _ (.inr ⟨6, 9, false, rfl, rfl, known_is rfl⟩) (fun ρ w hC hc hfn hf => by have e10 : ρ (.tmp 10) = _ := hf 10 (by decide); (conv => lhs; simp [execOp, go_sem, hc, e10, kc w hC])) ?_
  refine w_is (fun w => Below.refl _ w) _ (.inr ⟨6, 9, false, rfl, rfl, known_is rfl⟩) (fun ρ w hC hc hfn hf => by have e11 : ρ (.tmp 11) = _ := hf 11 (by decide); (conv => lhs; simp [execOp, go_sem, hc, e11])) ?_
  refine w_call (Is _) (fun _ _ _ h _ => h) 27 (.inr ⟨6, 9, false, rfl, rfl, known_is rfl⟩) (fun ρ w hC hc hfn hf => by have e12 : ρ (.tmp 12) = _ := hf 12 (by decide); exact ⟨_, by (conv => lhs; simp [execOp, resolve, invoke, go_sem, hc, hfn, e12]), tc_same hC (cC w)⟩) ?_
  refine w_is (fun w => Below.refl _ w) _ (.inr ⟨6, 9, false, rfl, rfl, known_is rfl⟩) (fun ρ w hC hc hfn hf => by have e13 : ρ (.tmp 13) = _ := hf 13 (by decide); (conv => lhs; simp [execOp, go_sem, hc, e13])) ?_
  refine w_is (fun w => Below.refl _ w) _ (.inl rfl) (fun ρ w hC hc hfn hf => by have e9 : ρ (.tmp 9) = _ := hf 9 (by decide); have e14 : ρ (.tmp 14) = _ := hf 14 (by decide); (conv => lhs; simp [execOp, go_sem, hc, e9, e14])) ?_
  refine w_is (fun w => Below.refl _ w) _ (.inl rfl) (fun ρ w hC hc hfn hf => by have e15 : ρ (.tmp 15) = _ := hf 15 (by decide); (conv => lhs; simp [execOp, go_sem, hc, e15])) ?_
  refine w_is (fun w => Below.refl _ w) _ (.inr ⟨13, 16, false, rfl, rfl, known_is rfl⟩) (fun ρ w hC hc hfn hf => by have e1 : ρ (.tmp 1) = _ := hf 1 (by decide); (conv => lhs; simp [execOp, go_sem, hc, e1])) ?_
  refine w_is (fun w => Below.refl _ w) _ (.inr ⟨13, 16, false, rfl, rfl, known_is rfl⟩) (fun ρ w hC hc hfn hf => by have e17 : ρ (.tmp 17) = _ := hf 17 (by decide); (conv => lhs; simp [execOp, go_sem, hc, e17, kc w hC])) ?_
  refine w_call (Is _) (fun _ _ _ h _ => h) 28 (.inr ⟨13, 16, false, rfl, rfl, known_is rfl⟩) (fun ρ w hC hc hfn hf => by have e18 : ρ (.tmp 18) = _ := hf 18 (by decide); exact ⟨_, by (conv => lhs; simp [execOp, resolve, invoke, go_sem, hc, hfn, e18]), tc_below hC (cR w hC)⟩) ?_
  refine w_is (fun w => Below.refl _ w) _ (.inr ⟨13, 16, false, rfl, rfl, known_is rfl⟩) (fun ρ w hC hc hfn hf => by have e19 : ρ (.tmp 19) = _ := hf 19 (by decide); (conv => lhs; simp [execOp, go_sem, hc, e19])) ?_
  refine w_is (fun w => Below.refl _ w) _ (.inl rfl) (fun ρ w hC hc hfn hf => by have e16 : ρ (.tmp 16) = _ := hf 16 (by decide); have e20 : ρ (.tmp 20) = _ := hf 20 (by decide); (conv => lhs; simp [execOp, go_sem, hc, e16, e20])) ?_
  refine w_is (fun w => Below.refl _ w) _ (.inl rfl) (fun ρ w hC hc hfn hf => by have e21 : ρ (.tmp 21) = _ := hf 21 (by decide); (conv => lhs; simp [execOp, go_sem, hc, e21])) ?_
  refine w_is (fun w => Below.refl _ w) _ (.inr ⟨19, 22, false, rfl, rfl, known_is rfl⟩) (fun ρ w hC hc hfn hf => by have e1 : ρ (.tmp 1) = _ := hf 1 (by decide); (conv => lhs; simp [execOp, go_sem, hc, e1])) ?_
  refine w_is (fun w => Below.refl _ w) _ (.inr ⟨19, 22, false, rfl, rfl, known_is rfl⟩) (fun ρ w hC hc hfn hf => by have e23 : ρ (.tmp 23) = _ := hf 23 (by decide); (conv => lhs; simp [execOp, go_sem, hc, e23, kc w hC])) ?_
  refine w_call (Is _) (fun _ _ _ h _ => h) 29 (.inr ⟨19, 22, false, rfl, rfl, known_is rfl⟩) (fun ρ w hC hc hfn hf => by have e24 : ρ (.tmp 24) = _ := hf 24 (by decide); exact ⟨_, by (conv => lhs; simp [execOp, resolve, invoke, go_sem, hc, hfn, e24]), tc_below hC (cZ w hC)⟩) ?_
  refine w_is (fun w => Below.refl _ w) _ (.inr ⟨19, 22, false, rfl, rfl, known_is rfl⟩) (fun ρ w hC hc hfn hf => by have e25 : ρ (.tmp 25) = _ := hf 25 (by decide); (conv => lhs; simp [execOp, go_sem, hc, e25, hZ])) ?_
  refine w_is (fun w => Below.refl _ w) _ (.inl rfl) (fun ρ w hC hc hfn hf => by have e22 : ρ (.tmp 22) = _ := hf 22 (by decide); have e26 : ρ (.tmp 26) = _ := hf 26 (by decide); (conv => lhs; simp [execOp, go_sem, hc, e22, e26])) ?_
  intro A V5 hC hn hd hf
  have y0 : A.eval (.tmp 0) = _ := Eq.trans (hf 0) (by conv => lhs; simp [go_sem])
  have y1 : A.eval (.tmp 1) = _ := Eq.trans (hf 1) (by conv => lhs; simp [go_sem])
  have y2 : A.eval (.tmp 2) = _ := Eq.trans (hf 2) (by conv => lhs; simp [go_sem])
  have y3 : A.eval (.tmp 3) = _ := hf 3
  have y4 : A.eval (.tmp 4) = _ := hf 4
  have y5 : A.eval (.tmp 5) = _ := hf 5
  have y6 : A.eval (.tmp 6) = _ := hf 6
  have y7 : A.eval (.tmp 7) = _ := hf 7
  have y8 : A.eval (.tmp 8) = _ := hf 8
  have y9 : A.eval (.tmp 9) = _ := hf 9
  have y10 : A.eval (.tmp 10) = _ := hf 10
  have y11 : A.eval (.tmp 11) = _ := hf 11
  have y12 : A.eval (.tmp 12) = _ := hf 12
  have y13 : A.eval (.tmp 13) = _ := hf 13
  have y14 : A.eval (.tmp 14) = _ := hf 14
  have y15 : A.eval (.tmp 15) = _ := hf 15
  have y16 : A.eval (.tmp 16) = _ := hf 16
  have y17 : A.eval (.tmp 17) = _ := hf 17
  have y18 : A.eval (.tmp 18) = _ := hf 18
  have y19 : A.eval (.tmp 19) = _ := hf 19
  have y20 : A.eval (.tmp 20) = _ := hf 20
  have y21 : A.eval (.tmp 21) = _ := hf 21
  have y22 : A.eval (.tmp 22) = _ := hf 22
  have y23 : A.eval (.tmp 23) = _ := hf 23
  have y24 : A.eval (.tmp 24) = _ := hf 24
  have y25 : A.eval (.tmp 25) = _ := hf 25
  have y26 : A.eval (.tmp 26) = _ := hf 26
  have y27 : A.eval (.tmp 27) = _ := hf 27
  clear hf
  have hA := frame_eq hn
  rw [show List.range 28 = [0, 1, 2, 3, 4, 5, 6, 7, 8, 9, 10, 11, 12, 13, 14, 15, 16, 17, 18, 19, 20, 21, 22, 23, 24, 25, 26, 27] from rfl, hd] at hA
  simp only [List.map_cons, List.map_nil, y0, y1, y2, y3, y4, y5, y6, y7, y8, y9, y10, y11, y12, y13, y14, y15, y16, y17, y18, y19, y20, y21, y22, y23, y24, y25, y26, y27] at hA
  clear y0 y1 y2 y3 y4 y5 y6 y7 y8 y9 y10 y11 y12 y13 y14 y15 y16 y17 y18 y19 y20 y21 y22 y23 y24 y25 y26 y27
  clear hn hd
  subst hA
  go_wp2_with fail
  go_ret
  exact ⟨rfl, HB.out.trans (hC.mono HB.out.size)⟩

set_option maxHeartbeats 8000000 in
theorem pcheck_e (M : Int) (a : Option Addr) (c : Nat) (ys : List Ob) (w : World) (hy : Os w (.slice a ys.length c) ys) (hl : ys.length ≤ 3000) (hN : (M != lft M) = false) (hL : 1 ≤ (ys.length : Int) ∧ (ys.length : Int) ≤ 32) (hR : AllOk ys) (hZ : ¬ (512 : Int) < 3 + (osz ys : Int)) :
    Calls Try.prog 12 #[.agg #[.int .i64 M, .slice a ys.length c]] w fun e w' => e = .returned (.int .i64 0) ∧ Below w.heap.size w w' := by
  have cL : ∀ w, Calls Try.prog 26 #[.int .i64 M] w fun e w' => e = .returned (.int .i64 (lft M)) ∧ Below w.heap.size w w' := fun w => pleft_any M w
  have cC : ∀ w, Calls Try.prog 27 #[.int .i64 ys.length] w fun e w' => e = .returned (.bool true) ∧ w = w' := fun w => by have h := iscount_any ys.length w; rwa [decide_eq_true hL] at h
  have HY := Lib.hid (hy.alloc (.cells #[.int .i64 M, .slice a ys.length c] 24))
  have HB : Hid (Below w.heap.size w (w.alloc (.cells #[.int .i64 M, .slice a ys.length c] 24))) := (Below.refl _ w).alloc (Nat.le_refl _) _
  have k0 : (w.alloc (.cells #[.int .i64 M, .slice a ys.length c] 24)).cell? ⟨w.heap.size, 0, none⟩ = some (.int .i64 M) := by simp
  have k1 : (w.alloc (.cells #[.int .i64 M, .slice a ys.length c] 24)).cell? ⟨w.heap.size, 1, none⟩ = some (.slice a ys.length c) := by simp
  clear hy
  go_enter Try.func12, Try.ntmps12
  go_wp2_with fail
  generalize w.alloc (.cells #[.int .i64 M, .slice a ys.length c] 24) = V1 at *
  have kc : ∀ w', Below V1.heap.size V1 w' → w'.cell? ⟨w.heap.size, 0, none⟩ = some (.int .i64 M) ∧ w'.cell? ⟨w.heap.size, 1, none⟩ = some (.slice a ys.length c) := fun w' h =>
    ⟨by rw [h.cell (World.block_lt_of_cell? V1 _ k0)]; exact k0, by rw [h.cell (World.block_lt_of_cell? V1 _ k1)]; exact k1⟩
  have cR : ∀ w', Below V1.heap.size V1 w' → Calls Try.prog 28 #[.slice a ys.length c] w' fun e w'' => e = .returned (.bool true) ∧ Below w'.heap.size w' w'' := fun w' hb => by have h := areright_any (.slice a ys.length c) ys w' (HY.out.below hb) hl; rwa [decide_eq_true hR] at h
  have cZ : ∀ w', Below V1.heap.size V1 w' → Calls Try.prog 29 #[.slice a ys.length c] w' fun e w'' => e = .returned (.int .i64 (3 + (osz ys : Int))) ∧ Below w'.heap.size w' w'' := fun w' hb => psize_any (.slice a ys.length c) ys w' (HY.out.below hb) hl

  refine wp_region_typed (C := fun w' => Below V1.heap.size V1 w') (X := fun w w' => Below w.heap.size w w') (n := 28) (by kernel_rfl) (by kernel_rfl) rfl (fun w => Below.refl _ w) (Below.refl _ _).drew ?_
  refine w_is (fun w => Below.refl _ w) _ (.inl rfl) (fun ρ w hC hc hfn hf => by have e1 : ρ (.tmp 1) = _ := hf 1 (by decide); (conv => lhs; simp [execOp, go_sem, hc, e1])) ?_
  refine w_is (fun w => Below.refl _ w) _ (.inl rfl) (fun ρ w hC hc hfn hf => by have e3 : ρ (.tmp 3) = _ := hf 3 (by decide); (conv => lhs; simp [execOp, go_sem, hc, e3, kc w hC])) ?_
  refine w_is (fun w => Below.refl _ w) _ (.inl rfl) (fun ρ w hC hc hfn hf => by have e1 : ρ (.tmp 1) = _ := hf 1 (by decide); (conv => lhs; simp [execOp, go_sem, hc, e1])) ?_
  refine w_is (fun w => Below.refl _ w) _ (.inl rfl) (fun ρ w hC hc hfn hf => by have e5 : ρ (.tmp 5) = _ := hf 5 (by decide); (conv => lhs; simp [execOp, go_sem, hc, e5, kc w hC])) ?_
  refine w_call (Is _) (fun _ _ _ h _ => h) 26 (.inl rfl) (fun ρ w hC hc hfn hf => by have e6 : ρ (.tmp 6) = _ := hf 6 (by decide); exact ⟨_, by (conv => lhs; simp [execOp, resolve, invoke, go_sem, hc, hfn, e6]), tc_below hC (cL w)⟩) ?_
  refine w_is (fun w => Below.refl _ w) _ (.inl rfl) (fun ρ w hC hc hfn hf => by have e4 : ρ (.tmp 4) = _ := hf 4 (by decide); have e7 : ρ (.tmp 7) = _ := hf 7 (by decide); (conv => lhs; simp [execOp, go_sem, hc, e4, e7, hN])) ?_
  refine w_is (fun w => Below.refl _ w) _ (.inl rfl) (fun ρ w hC hc hfn hf => by have e8 : ρ (.tmp 8) = _ := hf 8 (by decide); (conv => lhs; simp [execOp, go_sem, hc, e8])) ?_
  refine w_is (fun w => Below.refl _ w) _ (.inr ⟨6, 9, false, rfl, rfl, known_is rfl⟩) (fun ρ w hC hc hfn hf => by have e1 : ρ (.tmp 1) = _ := hf 1 (by decide); (conv => lhs; simp [execOp, go_sem, hc, e1])) ?_
  refine w_is (fun w => Below.refl _ w) _ (.inr ⟨6, 9, false, rfl, rfl, known_is rfl⟩) (fun ρ w hC hc hfn hf => by have e10 : ρ (.tmp 10) = _ := hf 10 (by decide); (conv => lhs; simp [execOp, go_sem, hc, e10, kc w hC])) ?_
  refine w_is (fun w => Below.refl _ w) _ (.inr ⟨6, 9, false, rfl, rfl, known_is rfl⟩) (fun ρ w hC hc hfn hf => by have e11 : ρ (.tmp 11) = _ := hf 11 (by decide); (conv => lhs; simp [execOp, go_sem, hc, e11])) ?_
  refine w_call (Is _) (fun _ _ _ h _ => h) 27 (.inr ⟨6, 9, false, rfl, rfl, known_is rfl⟩) (fun ρ w hC hc hfn hf => by have e12 : ρ (.tmp 12) = _ := hf 12 (by decide); exact ⟨_, by (conv => lhs; simp [execOp, resolve, invoke, go_sem, hc, hfn, e12]), tc_same hC (cC w)⟩) ?_
  refine w_is (fun w => Below.refl _ w) _ (.inr ⟨6, 9, false, rfl, rfl, known_is rfl⟩) (fun ρ w hC hc hfn hf => by have e13 : ρ (.tmp 13) = _ := hf 13 (by decide); (conv => lhs; simp [execOp, go_sem, hc, e13])) ?_
  refine w_is (fun w => Below.refl _ w) _ (.inl rfl) (fun ρ w hC hc hfn hf => by have e9 : ρ (.tmp 9) = _ := hf 9 (by decide); have e14 : ρ (.tmp 14) = _ := hf 14 (by decide); (conv => lhs; simp [execOp, go_sem, hc, e9, e14])) ?_
  refine w_is (fun w => Below.refl _ w) _ (.inl rfl) (fun ρ w hC hc hfn hf => by have e15 : ρ (.tmp 15) = _ := hf 15 (by decide); (conv => lhs; simp [execOp, go_sem, hc, e15])) ?_
  refine w_is (fun w => Below.refl _ w) _ (.inr ⟨13, 16, false, rfl, rfl, known_is rfl⟩) (fun ρ w hC hc hfn hf => by have e1 : ρ (.tmp 1) = _ := hf 1 (by decide); (conv => lhs; simp [execOp, go_sem, hc, e1])) ?_
  refine w_is (fun w => Below.refl _ w) _ (.inr ⟨13, 16, false, rfl, rfl, known_is rfl⟩) (fun ρ w hC hc hfn hf => by have e17 : ρ (.tmp 17) = _ := hf 17 (by decide); (conv => lhs; simp [execOp, go_sem, hc, e17, kc w hC])) ?_
  refine w_call (Is _) (fun _ _ _ h _ => h) 28 (.inr ⟨13, 16, false, rfl, rfl, known_is rfl⟩) (fun ρ w hC hc hfn hf => by have e18 : ρ (.tmp 18) = _ := hf 18 (by decide); exact ⟨_, by (conv => lhs; simp [execOp, resolve, invoke, go_sem, hc, hfn, e18]), tc_below hC (cR w hC)⟩) ?_
  refine w_is (fun w => Below.refl _ w) _ (.inr ⟨13, 16, false, rfl, rfl, known_is rfl⟩) (fun ρ w hC hc hfn hf => by have e19 : ρ (.tmp 19) = _ := hf 19 (by decide); (conv => lhs; simp [execOp, go_sem, hc, e19])) ?_
  refine w_is (fun w => Below.refl _ w) _ (.inl rfl) (fun ρ w hC hc hfn hf => by have e16 : ρ (.tmp 16) = _ := hf 16 (by decide); have e20 : ρ (.tmp 20) = _ := hf 20 (by decide); (conv => lhs; simp [execOp, go_sem, hc, e16, e20])) ?_
  refine w_is (fun w => Below.refl _ w) _ (.inl rfl) (fun ρ w hC hc hfn hf => by have e21 : ρ (.tmp 21) = _ := hf 21 (by decide); (conv => lhs; simp [execOp, go_sem, hc, e21])) ?_
  refine w_is (fun w => Below.refl _ w) _ (.inr ⟨19, 22, false, rfl, rfl, known_is rfl⟩) (fun ρ w hC hc hfn hf => by have e1 : ρ (.tmp 1) = _ := hf 1 (by decide); (conv => lhs; simp [execOp, go_sem, hc, e1])) ?_
  refine w_is (fun w => Below.refl _ w) _ (.inr ⟨19, 22, false, rfl, rfl, known_is rfl⟩) (fun ρ w hC hc hfn hf => by have e23 : ρ (.tmp 23) = _ := hf 23 (by decide); (conv => lhs; simp [execOp, go_sem, hc, e23, kc w hC])) ?_
  refine w_call (Is _) (fun _ _ _ h _ => h) 29 (.inr ⟨19, 22, false, rfl, rfl, known_is rfl⟩) (fun ρ w hC hc hfn hf => by have e24 : ρ (.tmp 24) = _ := hf 24 (by decide); exact ⟨_, by (conv => lhs; simp [execOp, resolve, invoke, go_sem, hc, hfn, e24]), tc_below hC (cZ w hC)⟩) ?_
  refine w_is (fun w => Below.refl _ w) _ (.inr ⟨19, 22, false, rfl, rfl, known_is rfl⟩) (fun ρ w hC hc hfn hf => by have e25 : ρ (.tmp 25) = _ := hf 25 (by decide); (conv => lhs; simp [execOp, go_sem, hc, e25, hZ])) ?_
  refine w_is (fun w => Below.refl _ w) _ (.inl rfl) (fun ρ w hC hc hfn hf => by have e22 : ρ (.tmp 22) = _ := hf 22 (by decide); have e26 : ρ (.tmp 26) = _ := hf 26 (by decide); (conv => lhs; simp [execOp, go_sem, hc, e22, e26])) ?_
  intro A V5 hC hn hd hf
  have y0 : A.eval (.tmp 0) = _ := Eq.trans (hf 0) (by conv => lhs; simp [go_sem])
  have y1 : A.eval (.tmp 1) = _ := Eq.trans (hf 1) (by conv => lhs; simp [go_sem])
  have y2 : A.eval (.tmp 2) = _ := Eq.trans (hf 2) (by conv => lhs; simp [go_sem])
  have y3 : A.eval (.tmp 3) = _ := hf 3
  have y4 : A.eval (.tmp 4) = _ := hf 4
  have y5 : A.eval (.tmp 5) = _ := hf 5
  have y6 : A.eval (.tmp 6) = _ := hf 6
  have y7 : A.eval (.tmp 7) = _ := hf 7
  have y8 : A.eval (.tmp 8) = _ := hf 8
  have y9 : A.eval (.tmp 9) = _ := hf 9
  have y10 : A.eval (.tmp 10) = _ := hf 10
  have y11 : A.eval (.tmp 11) = _ := hf 11
  have y12 : A.eval (.tmp 12) = _ := hf 12
  have y13 : A.eval (.tmp 13) = _ := hf 13
  have y14 : A.eval (.tmp 14) = _ := hf 14
  have y15 : A.eval (.tmp 15) = _ := hf 15
  have y16 : A.eval (.tmp 16) = _ := hf 16
  have y17 : A.eval (.tmp 17) = _ := hf 17
  have y18 : A.eval (.tmp 18) = _ := hf 18
  have y19 : A.eval (.tmp 19) = _ := hf 19
  have y20 : A.eval (.tmp 20) = _ := hf 20
  have y21 : A.eval (.tmp 21) = _ := hf 21
  have y22 : A.eval (.tmp 22) = _ := hf 22
  have y23 : A.eval (.tmp 23) = _ := hf 23
  have y24 : A.eval (.tmp 24) = _ := hf 24
  have y25 : A.eval (.tmp 25) = _ := hf 25
  have y26 : A.eval (.tmp 26) = _ := hf 26
  have y27 : A.eval (.tmp 27) = _ := hf 27
  clear hf
  have hA := frame_eq hn
  rw [show List.range 28 = [0, 1, 2, 3, 4, 5, 6, 7, 8, 9, 10, 11, 12, 13, 14, 15, 16, 17, 18, 19, 20, 21, 22, 23, 24, 25, 26, 27] from rfl, hd] at hA
  simp only [List.map_cons, List.map_nil, y0, y1, y2, y3, y4, y5, y6, y7, y8, y9, y10, y11, y12, y13, y14, y15, y16, y17, y18, y19, y20, y21, y22, y23, y24, y25, y26, y27] at hA
  clear y0 y1 y2 y3 y4 y5 y6 y7 y8 y9 y10 y11 y12 y13 y14 y15 y16 y17 y18 y19 y20 y21 y22 y23 y24 y25 y26 y27
  clear hn hd
  subst hA
  go_wp2_with fail
  go_ret
  exact ⟨rfl, HB.out.trans (hC.mono HB.out.size)⟩

theorem pcheck_any (M : Int) (v : Value) (ys : List Ob) (w : World) (hy : Os w v ys) (hl : ys.length ≤ 3000) :
    Calls Try.prog 12 #[.agg #[.int .i64 M, v]] w fun e w' => e = .returned (.int .i64 (btc M ys)) ∧ Below w.heap.size w w' := by
  obtain ⟨a, c, rfl⟩ := hy.form
  unfold btc
  by_cases hN : M = lft M
  · have hN' : (M != lft M) = false := by simpa using hN
    have hr := lft_rng M
    by_cases hL : 1 ≤ (ys.length : Int) ∧ (ys.length : Int) ≤ 32
    · by_cases hR : AllOk ys
      · by_cases hZ : (512 : Int) < 3 + (osz ys : Int)
        · rw [if_neg (fun h => by have := h.2.2.2; omega)]
          exact pcheck_d M a c ys w hy hl hN' hL hR hZ
        · rw [if_pos ⟨by omega, by omega, hR, by omega⟩]
          exact pcheck_e M a c ys w hy hl hN' hL hR hZ
      · rw [if_neg (fun h => hR h.2.2.1)]
        exact pcheck_c M a c ys w hy hl hN' hL hR
    · rw [if_neg (fun h => by have := h.2.1; omega)]
      exact pcheck_b M a c ys w hy hl hN' hL
  · have hN' : (M != lft M) = true := by simpa using hN
    rw [if_neg (fun h => hN (by have := h.1; unfold lft; omega))]
    exact pcheck_a M a c ys w hy hl hN'
#print axioms pcheck_any
end Go.Proofs.Ytfdjaodnmjkpcaa

namespace Go.Proofs.Ytfdjaodnmjkpcaa
set_option maxRecDepth 100000
open Go.RowKit

theorem lo_row (v : Int) (n : Nat) : (lo v n).map (Value.int .u8) = row (fun i => v / 256 ^ (n - 1 - i) % 256) n := by
  unfold lo row
  rw [List.map_map]
  rfl
set_option maxHeartbeats 400000 in
theorem spell_own (v : Int) (n : Nat) (w : World) (_ : 0 ≤ v) (h1 : 1 ≤ n) (h8 : n ≤ 8) :
    Calls Try.prog 41 #[.int .u64 v, .int .i64 n] w fun e w' => ∃ r, e = .returned r ∧ w'.ownsRow w.heap.size 5 1 r n ((lo v n).map (Value.int .u8)) ∧ Below w.heap.size w w' := by
  obtain ⟨i0, hi, hz0, hz1, hz2⟩ := info_parts Try.info5
  go_enter Try.func41, Try.ntmps41
  go_wp2_with (first
    | (go_at_call 56; refine (store_any _ 0 v _ (by simp) (by simp)).mono ?_; rintro e w' ⟨rfl, rfl⟩)
    | (at_make; go_must (refine wpList_make_full _ rfl _ _ 26 rfl (w.heap.size + 1) 5 i0 (.int .u8 0) 1 Try.underlying26 hi hz0 hz1 _ _ _ _ n rfl rfl rfl rfl (by rw [hz2]; omega) (by unfold maxLen; omega) (by simp) ?_); intro w1 hown hgrow))
  rw [row_zero] at hown
  have hbel : Below w.heap.size w w1 := (((Below.refl _ w).alloc (Nat.le_refl _) _).grown hgrow (by simp) (by simp))
  have hat : w1.cell? ⟨w.heap.size, 0, none⟩ = some (.int .u64 v) := hgrow.cell (by simp) (by simp)
  clear hgrow
  go_loopw [7, 14] (fun _ i wr => ∃ k : Nat, k ≤ n ∧ i = .int .i64 k ∧ wr.ownsRow (w.heap.size + 1) 5 1 (.slice (some ⟨w.heap.size + 1, 0, none⟩) n n) n (row (upTo (fun i => v / 256 ^ (n - 1 - i) % 256) k) n) ∧ Below w.heap.size w wr ∧ wr.cell? ⟨w.heap.size, 0, none⟩ = some (.int .u64 v)) (fun _ i _ => n - (intOf i).toNat)
  case atStart => exact ⟨0, Nat.zero_le _, rfl, by rw [row_upTo0]; simpa using hown, hbel, hat⟩
  case round =>
    clear hbel hat hown
    obtain ⟨k, hk, rfl, hown, hbel, hat⟩ := hrel
    by_cases hlt : k < n
    · have hcell := hown.cellAt k (by omega)
      rw [row_get _ _ _ hlt] at hcell
      have hfz := hown.frozenAt k
      have hst := Lib.hid (hown.stored k)
      have hb2 := Lib.hid hbel
      clear hown hbel
      go_wp2_with (go_at_call 57; refine (load_any _ v _ hat).mono ?_; rintro e w' ⟨rfl, rfl⟩)
      go_roundw
      case rel =>
        refine ⟨k + 1, by omega, by go_num, ?_, hb2.out.setCell (by simp) _, by rw [World.cell?_setCell_other _ _ _ _ (by simp)]; exact hat⟩
        rw [← row_up, two_pow8]
        exact (hst.out _).1
      case measure => simp [intOf]; omega
    · obtain rfl : k = n := by omega
      have ho := Lib.hid hown
      have hb2 := Lib.hid hbel
      clear hown hbel hat
      go_wp2
      go_ret
      refine ⟨_, rfl, ?_, hb2.out⟩
      have hr := ho.out
      rw [row_upTo] at hr
      refine own_mono ?_ (Nat.le_succ _)
      rw [lo_row v _]
      exact hr

theorem put_own (v : Int) (n : Nat) (w : World) (hv : 0 ≤ v ∧ v < pow256 n) (h1 : 1 ≤ n) (h7 : n ≤ 7) :
    Calls Try.prog 23 #[.int .i64 v, .int .i64 n] w fun e w' => ∃ r, e = .returned (.tuple #[r, .int .i64 0]) ∧ w'.ownsRow w.heap.size 5 1 r n ((lo v n).map (Value.int .u8)) ∧ Below w.heap.size w w' := by
  obtain ⟨v0, c2⟩ := hv
  have n1 : (1 : Int) ≤ (n : Int) := by omega
  have n7 : (n : Int) ≤ 7 := by omega
  have n8 : n ≤ 8 := by omega
  rw [← shl_pow n (by omega)] at c2
  have hv63 : v < 9223372036854775808 := by
    have : wrap64 ((2 : Int) ^ (8 * n)) < 9223372036854775808 := by unfold wrap64; omega
    omega
  have cS := fun w => spell_own v n w v0 h1 n8
  go_enter Try.func23, Try.ntmps23
  go_wp2_with (go_at_call 41; refine (cS _).mono ?_; rintro e w' ⟨r, rfl, hr, hbel⟩)
  go_ret2
  exact ⟨r, rfl, hr, hbel⟩
#print axioms put_own
end Go.Proofs.Ytfdjaodnmjkpcaa

namespace Go.Proofs.Ytfdjaodnmjkpcaa
set_option maxRecDepth 100000
open Go.RowKit Go.Sort

set_option maxHeartbeats 8000000 in
theorem pbytes_no (M : Int) (v : Value) (ys : List Ob) (w : World) (hy : Os w v ys) (hl : ys.length ≤ 3000) (h : ¬ BtOk M ys) : Calls Try.prog 9 #[.agg #[.int .i64 M, v]] w (RetB [] 1 w) := by
  obtain ⟨a, c, rfl⟩ := hy.form
  have cR := pcheck_any M _ ys (w.alloc (.cells #[.int .i64 M, .slice a ys.length c] 24)) (hy.alloc _) hl
  rw [btc, if_neg h] at cR
  clear h hy
  go_enter Try.func9, Try.ntmps9
  go_wp2_with (go_at_call 12; refine cR.mono ?_; rintro e w1 ⟨rfl, hb⟩; have HB : Hid (Below w.heap.size w w1) := ((Below.refl _ w).alloc (Nat.le_refl _) _).trans (hb.mono (by simp)); clear hb)
  go_ret2
  exact ⟨_, rfl, Bs_nil _, HB.out⟩
set_option maxHeartbeats 16000000 in
theorem pbytes_ok (M : Int) (v : Value) (ys : List Ob) (w : World) (hy : Os w v ys) (h : BtOk M ys) : Calls Try.prog 9 #[.agg #[.int .i64 M, v]] w (RetB (btB M ys) 0 w) := by
  obtain ⟨a, c, rfl⟩ := hy.form
  have hl : ys.length ≤ 32 := h.2.1.2
  have cR := pcheck_any M _ ys (w.alloc (.cells #[.int .i64 M, .slice a ys.length c] 24)) (hy.alloc _) (by omega)
  rw [btc, if_pos h] at cR
  obtain ⟨hN, hlen, hok, htot⟩ := h
  have HOK := Lib.hid hok
  have HY := Lib.hid (hy.alloc (.cells #[.int .i64 M, .slice a ys.length c] 24))
  have hwl : IntKind.u8.wrap (ys.length : Int) = (ys.length : Int) := by rw [IntKind.wrap_u8]; omega
  have cP : ∀ w, Calls Try.prog 23 #[.int .i64 M, .int .i64 2] w fun e w' => ∃ r, e = .returned (.tuple #[r, .int .i64 0]) ∧ w'.ownsRow w.heap.size 5 1 r 2 ([M / 256, M % 256].map (Value.int .u8)) ∧ Below w.heap.size w w' := fun w => by
    have h := put_own M 2 w ⟨hN.1, by rw [show pow256 2 = 65536 by decide]; omega⟩ (by decide) (by decide)
    rw [lo_two hN] at h
    exact h
  clear hok hy
  go_enter Try.func9, Try.ntmps9
  go_wp2_with (go_at_call 12; refine cR.mono ?_; rintro e V ⟨rfl, hb⟩; have k0 : V.cell? ⟨w.heap.size, 0, none⟩ = some (.int .i64 M) := (by rw [hb.cell (p := ⟨w.heap.size, 0, none⟩) (by simp)]; simp); have k1 : V.cell? ⟨w.heap.size, 1, none⟩ = some (.slice a ys.length c) := (by rw [hb.cell (p := ⟨w.heap.size, 1, none⟩) (by simp)]; simp); replace HY := Lib.hid (HY.out.below hb); have HB : Hid (Below w.heap.size w V) := ((Below.refl _ w).alloc (Nat.le_refl _) _).trans (hb.mono (by simp)); have HL : Hid (w.heap.size < V.heap.size) := Nat.lt_of_lt_of_le (by simp) hb.size; clear hb)
  refine (cP _).mono ?_
  rintro e V1 ⟨r1, rfl, ho1, hb1⟩
  obtain ⟨a1, c1, rfl⟩ := own_form ho1
  have O1 : Hid ((V1.alloc (.cells #[.int .u8 ys.length] 5)).ownsRow V.heap.size 5 1 (.slice a1 2 c1) [M / 256, M % 256].length ([M / 256, M % 256].map (Value.int .u8))) := ho1.alloc _
  have L1 : Hid (Bs (V1.alloc (.cells #[.int .u8 ys.length] 5)) (.slice (some ⟨V1.heap.size, 0, none⟩) 1 1) [(ys.length : Int)]) := Bs_lit [(ys.length : Int)] 5 (fun z hz => by simp at hz; omega) (by simp) _ rfl _ rfl 1 rfl
  have B1 : Hid (Below V.heap.size V (V1.alloc (.cells #[.int .u8 ys.length] 5))) := hb1.alloc hb1.size _
  have c0 : V1.cell? ⟨w.heap.size, 0, none⟩ = some (.int .i64 M) := by rw [hb1.cell (p := ⟨w.heap.size, 0, none⟩) HL.out]; exact k0
  have c1' : V1.cell? ⟨w.heap.size, 1, none⟩ = some (.slice a ys.length c) := by rw [hb1.cell (p := ⟨w.heap.size, 1, none⟩) HL.out]; exact k1
  clear ho1 hb1
  go_wp2_with (at_builtin; refine app_any rfl (.tmp 22) (.tmp 27) rfl V.heap.size [M / 256, M % 256] [(ys.length : Int)] O1.out L1.out (by simp) B1.out.size ?_; intro v2 w2 hown2 hb2 hs2; have O2 := Lib.hid hown2; have B2 := Lib.hid (B1.out.trans hb2); have d1 : w2.cell? ⟨w.heap.size, 1, none⟩ = some (.slice a ys.length c) := (by rw [B2.out.cell (p := ⟨w.heap.size, 1, none⟩) HL.out]; exact k1); clear hown2 hb2 hs2)
  go_loopw [5, 8, 9, 10, 32] (fun out _ _ _ i wr => ∃ k : Nat, k ≤ ys.length ∧ i = .int .i64 k ∧ wr.ownsRow V.heap.size 5 1 out ([M / 256, M % 256, (ys.length : Int)] ++ ((ys.take k).map Ob.bs).flatten).length (([M / 256, M % 256, (ys.length : Int)] ++ ((ys.take k).map Ob.bs).flatten).map (Value.int .u8)) ∧ Below V.heap.size V wr) (fun _ _ _ _ i _ => ys.length - (intOf i).toNat)
  case atStart => exact ⟨0, Nat.zero_le _, rfl, O2.out, B2.out⟩
  case round =>
    obtain ⟨k, hk, rfl, hown, hbel⟩ := hrel
    have O3 := Lib.hid hown
    have B3 := Lib.hid hbel
    clear hown hbel
    have hzl := osz_take_le ys k
    have hzz := bs_flat_len (ys.take k)
    by_cases hlt : k < ys.length
    · obtain ⟨b, off, rfl, hB, hc⟩ := (HY.out.below B3.out).at hlt
      have HF := Lib.hid (flat_bs ys k hlt)
      have HK1 := Lib.hid (HOK.out k hlt)
      obtain ⟨y, hyk⟩ : ∃ y, ys.getD k z12 = y := ⟨_, rfl⟩
      rw [hyk] at hc HF HK1
      obtain ⟨p0, p1, p2, p3, p4, p5, p6, p7, p8, p9, p10, p11⟩ := hc.all
      have H2 := Lib.hid ((Below.refl _ wr).alloc (Nat.le_refl _) (.cells #[.int .i64 y.k, .int .i64 y.x, .bool y.n, .int .i64 y.t, .int .i64 y.o, .int .i64 y.r, .int .i64 y.d, .int .i64 y.i, .int .i64 y.p, .int .i64 y.q, .int .i64 y.s, .int .i64 y.m] 52))
      have hyl := bs_le y
      clear hc hyk
      have cB : ∀ w, Calls Try.prog 24 #[.agg #[.int .i64 y.k, .int .i64 y.x, .bool y.n, .int .i64 y.t, .int .i64 y.o, .int .i64 y.r, .int .i64 y.d, .int .i64 y.i, .int .i64 y.p, .int .i64 y.q, .int .i64 y.s, .int .i64 y.m]] w (RetB y.bs 0 w) := fun w => by
        have h := obytes_any y.k y.x y.n y.t y.o y.r y.d y.i y.p y.q y.s y.m w
        rwa [show obc y.k y.x y.n y.t y.o y.r y.d y.i y.p y.q y.s y.m = 0 from obc_ok HK1.out] at h
      go_wp2_with fail
      refine (cB _).mono ?_
      rintro e w1 ⟨r3, rfl, hr3, hb⟩
      obtain ⟨a3, c3, rfl⟩ := Bs_len hr3
      have hb' := H2.out.trans (hb.mono H2.out.size)
      have O4 := Lib.hid (own_below O3.out hb')
      have R4 := Lib.hid hr3
      have B4 := Lib.hid (B3.out.trans (hb'.mono B3.out.size))
      clear hb hb' hr3
      go_wp2_with (at_builtin; refine app_any rfl (.tmp 41) (.tmp 42) rfl V.heap.size ([M / 256, M % 256, (ys.length : Int)] ++ ((ys.take k).map Ob.bs).flatten) y.bs O4.out R4.out (by simp only [List.length_append, List.length_cons, List.length_nil]; omega) B4.out.size ?_; intro v5 w5 hown5 hb5 hs5; have O5 := Lib.hid hown5; have B5 := Lib.hid (B4.out.trans hb5); clear hown5 hb5 hs5)
      go_roundw
      case rel => exact ⟨k + 1, by omega, by go_num, by rw [HF.out, ← List.append_assoc]; exact O5.out, B5.out⟩
      case measure => simp [intOf]; omega
    · obtain rfl : k = ys.length := by omega
      go_wp2_with fail
      go_ret2
      refine ⟨_, rfl, ?_, HB.out.trans (B3.out.mono HB.out.size)⟩
      have hO := O3.out
      rw [List.take_length] at hO hzz
      refine Bs_of_own hO (byt_app (fun z hz => by simp at hz; rcases hz with rfl | rfl | rfl <;> omega) (fun z hz => ?_)) (show (btB M ys).length ≤ _ by unfold btB; simp only [List.length_append, List.length_cons, List.length_nil]; omega)
      obtain ⟨l, hl1, hl2⟩ := List.mem_flatten.1 hz
      obtain ⟨y, hy1, rfl⟩ := List.mem_map.1 hl1
      obtain ⟨i, hi, hy2⟩ := List.mem_iff_getElem.1 hy1
      refine ob_byt ?_ z hl2
      have := HOK.out i hi
      rw [show ys.getD i z12 = y by simp [List.getD, hi, hy2]] at this
      exact this
theorem pbytes_any (M : Int) (v : Value) (ys : List Ob) (w : World) (hy : Os w v ys) (hl : ys.length ≤ 3000) : Calls Try.prog 9 #[.agg #[.int .i64 M, v]] w (RetB (btBs M ys) (btc M ys) w) := by
  unfold btBs btc
  by_cases h : BtOk M ys
  · rw [if_pos h, if_pos h]; exact pbytes_ok M v ys w hy h
  · rw [if_neg h, if_neg h]; exact pbytes_no M v ys w hy hl h
#print axioms pbytes_any
end Go.Proofs.Ytfdjaodnmjkpcaa

namespace Go.Proofs.Ytfdjaodnmjkpcaa.T3

section
variable (P : Program) (ops : Array Oper) (C : World → Prop) (X : Nat → World → World → Prop) (a0 : Act)

/-- The slot that an operation's fact is on: the one that it writes; of a store, the one that holds the address. -/
def keyOf (o : Oper) : Option Tmp :=
  match o.dst with
  | some d => some d
  | none => match o.op with
    | .store _ (.tmp p) _ => some p
    | _ => none
def FactV (V : Ty) (o : Oper) (a : Act) (v : Value) (w : World) : Prop :=
  match o.dst with
  | some _ => V v w
  | none => match keyOf o with
    | some p => V (a.eval (.tmp p)) w
    | none => True
def Tame (k : Nat) (V : Ty) (o : Oper) (a : Act) (w : World) : Result Next → Prop
  | .ok (.value v) w' => C w' ∧ X k w w' ∧ FactV V o a v w'
  | .ok .skip w' => C w' ∧ X k w w' ∧ FactV V o a undef w'
  | .ok (.enter f args) w' => w' = w ∧ Calls P f args w (fun e w'' => ∃ v, e = .returned v ∧ C w'' ∧ X k w w'' ∧ FactV V o a v w'')
  | _ => False

def StepT (k : Nat) (E : Tmp → Option Ty) (o : Oper) (V : Ty) : Prop :=
  ∀ (a : Act) (w : World), C w → (∀ t ∈ o.looksAt ops, Fits a0 E a w t) →
    if Region.wanted o (yielded ops a.tmps) then Tame P C X k V o a w ((execOp a.eval o).run P w) else FactV V o a undef w

def Keeps (k : Nat) (V : Ty) : Prop := ∀ j, j ≠ k → ∀ v w w', V v w → X j w w' → V v w'

def pushF (o : Oper) (V : Ty) (F : List (Tmp × Ty)) : List (Tmp × Ty) :=
  match o.dst with
  | some _ => F
  | none => match keyOf o with
    | some p => (p, V) :: F
    | none => F

def WalkT : Nat → List Oper → (Tmp → Option Ty) → List (Tmp × Ty) → ((Tmp → Option Ty) → List (Tmp × Ty) → Prop) → Prop
  | _, [], E, F, K => K E F
  | k, o :: rest, E, F, K => ∃ V, Keeps X k V ∧ StepT P ops C X a0 k E o V ∧ WalkT (k + 1) rest (push o V E) (pushF o V F) K

def facts : List Oper → List Ty → List (Tmp × Ty) → List (Tmp × Ty)
  | o :: l, V :: Vs, F => facts l Vs (pushF o V F)
  | _, _, F => F

theorem mem_facts : ∀ (l : List Oper) (Vs : List Ty) (F : List (Tmp × Ty)) (x : Tmp × Ty), x ∈ facts l Vs F → x ∈ F ∨ ∃ (i : Nat) (o : Oper), l[i]? = some o ∧ Vs[i]? = some x.2 ∧ keyOf o = some x.1
  | [], _, _, x, h => .inl (by simpa [facts] using h)
  | _ :: _, [], _, x, h => .inl (by simpa [facts] using h)
  | o :: l, V :: Vs, F, x, h => by
    rw [facts] at h
    rcases mem_facts l Vs _ x h with h | ⟨i, o', h1, h2, h3⟩
    · unfold pushF at h
      split at h
      · exact .inl h
      · split at h
        · rename_i p hp
          rcases List.mem_cons.1 h with rfl | h
          · exact .inr ⟨0, o, by simp, by simp, hp⟩
          · exact .inl h
        · exact .inl h
    · exact .inr ⟨i + 1, o', by simpa using h1, by simpa using h2, h3⟩

theorem walk_ex {K : (Tmp → Option Ty) → List (Tmp × Ty) → Prop} : ∀ (k : Nat) (l : List Oper) (E : Tmp → Option Ty) (F : List (Tmp × Ty)), WalkT P ops C X a0 k l E F K →
    ∃ Vs : List Ty, Vs.length = l.length ∧ (∀ i o V, l[i]? = some o → Vs[i]? = some V → Keeps X (k + i) V ∧ StepT P ops C X a0 (k + i) (envs (l.take i) (Vs.take i) E) o V) ∧ K (envs l Vs E) (facts l Vs F)
  | k, [], E, F, h => ⟨[], rfl, fun i o V h1 => by simp at h1, by simpa [envs, facts, WalkT] using h⟩
  | k, o :: l, E, F, h => by
    obtain ⟨V, hk, hs, hw⟩ := h
    obtain ⟨Vs, hl, ha, hK⟩ := walk_ex (k + 1) l _ _ hw
    refine ⟨V :: Vs, by simp [hl], fun i o' V' h1 h2 => ?_, by rw [envs, facts]; exact hK⟩
    cases i with
    | zero =>
      simp at h1 h2
      subst h1 h2
      exact ⟨hk, by simpa [envs] using hs⟩
    | succ i =>
      have := ha i o' V' (by simpa using h1) (by simpa using h2)
      rw [List.take_succ_cons, List.take_succ_cons, envs]
      rw [show k + (i + 1) = k + 1 + i by omega]
      exact this

/-- Of a store, the slot of its address is one that it looks at. -/
def keyB (l : List Oper) : Bool := l.all fun o => match o.dst with
  | some _ => true
  | none => match keyOf o with
    | some p => (o.looksAt l.toArray).contains p
    | none => true
theorem keyB_spec {l : List Oper} (h : keyB l = true) {j : Nat} {o : Oper} {t : Tmp} (hj : l[j]? = some o) (hd : o.dst = none) (hk : keyOf o = some t) : t ∈ o.looksAt l.toArray := by
  have := List.all_eq_true.1 h o (List.mem_of_getElem? hj)
  simp only [hd, hk] at this
  simpa using this

/-- What holds while the operations of 'listed' have come up. -/
def Inv (md : Region.Mode) (l : List Oper) (Vs : List Ty) (n : Nat) (listed : Array Bool) (a : Act) (w : World) : Prop :=
  C w ∧ a.tmps.size = n ∧ a.defers = a0.defers ∧
  (∀ (i : Nat) (o : Oper) (V : Ty) (t : Tmp), l[i]? = some o → Vs[i]? = some V → keyOf o = some t → listed.getD i true = true → V (a.eval (.tmp t)) w) ∧
  (∀ t, (∀ (i : Nat) (o : Oper), l[i]? = some o → o.dst = some t → listed.getD i true = false) → a.eval (.tmp t) = a0.eval (.tmp t)) ∧
  (∀ (j : Nat) (o : Oper), l[j]? = some o → listed.getD j true = true → ∀ e ∈ o.after, Region.binds md e = true → listed.getD e.on true = true)

variable {P ops C X a0}
theorem key_dst {o : Oper} {t : Tmp} (h : o.dst = some t) : keyOf o = some t := by unfold keyOf; rw [h]
theorem inv_put {md : Region.Mode} {l : List Oper} {Vs : List Ty} {n : Nat} (hok : okB md l n = true) (hkey : keyB l = true) (hk : ∀ (i : Nat) V, Vs[i]? = some V → Keeps X i V) {listed : Array Bool} (hls : listed.size = l.length) {a : Act} {w w' : World} (h : Inv C a0 md l Vs n listed a w)
    {i : Nat} {o : Oper} {V : Ty} {v : Value} (ho : l[i]? = some o) (hun : listed.getD i true = false) (haf : ∀ e ∈ o.after, Region.binds md e = true → listed.getD e.on true = true) (hV : Vs[i]? = some V) (hC : C w') (hX : X i w w') (hv : FactV V o a v w') : Inv C a0 md l Vs n (listed.setIfInBounds i true) (a.put o.dst v) w' := by
  obtain ⟨h1, h2, h3, h4, h5, h6⟩ := h
  obtain ⟨k1, k2, k3, _⟩ := okB_spec hok
  have hil : i < l.length := (List.getElem?_eq_some_iff.1 ho).1
  refine ⟨hC, by cases o.dst <;> simp [Act.put, h2], by cases o.dst <;> simp [Act.put, h3], fun j o' V' t hj hV' ht hl => ?_, fun t ht => ?_, fun j o' hj hl e he hb => ?_⟩
  · by_cases hij : i = j
    · subst hij
      rw [ho] at hj; cases hj
      rw [hV] at hV'; cases hV'
      unfold FactV at hv
      cases hd : o.dst with
      | some d =>
        rw [hd] at hv
        rw [key_dst hd] at ht
        cases ht
        rw [eval_put_same (by rw [h2]; exact k1 i o _ ho hd)]
        exact hv
      | none =>
        simp only [hd, ht] at hv
        exact hv
    · have hl' : listed.getD j true = true := by rwa [getD_set_ne true hij] at hl
      have hne : ∀ d, o.dst = some d → d ≠ t := fun d hd hx => by
        subst hx
        cases hd' : o'.dst with
        | some d' =>
          rw [key_dst hd'] at ht
          cases ht
          exact hij (k2 i j o o' d ho hj hd hd')
        | none =>
          obtain ⟨_, e, he, hb, hon⟩ := k3 j i o' o d hj ho hd (keyB_spec hkey hj hd' ht)
          have := h6 j o' hj hl' e he hb
          rw [hon, hun] at this
          cases this
      rw [Act.eval_put (fun d hd hx => hne d hd (by cases hx; rfl))]
      exact hk j V' hV' i hij _ _ _ (h4 j o' V' t hj hV' ht hl') hX
  · rw [Act.eval_put (fun d hd hx => by
      cases hx
      have := ht i o ho hd
      simp [hls, hil] at this)]
    refine h5 t fun j o' hj hd => ?_
    by_cases hij : i = j
    · subst hij
      have := ht i o' hj hd
      simp [hls, hil] at this
    · have := ht j o' hj hd
      rwa [getD_set_ne true hij] at this
  · have hset : ∀ x, listed.getD x true = true → (listed.setIfInBounds i true).getD x true = true := fun x hx => by
      by_cases hix : i = x
      · subst hix; simp [hls, hil]
      · rw [getD_set_ne true hix]; exact hx
    by_cases hij : i = j
    · subst hij
      rw [ho] at hj; cases hj
      exact hset _ (haf e he hb)
    · rw [getD_set_ne true hij] at hl
      exact hset _ (h6 j o' hj hl e he hb)

theorem wpAny_typed {md : Region.Mode} {l : List Oper} {Vs : List Ty} {n : Nat} {Q : Exit → Act → World → Prop} (hok : okB md l n = true) (hkey : keyB l = true) (hlen : Vs.length = l.length) (hrefl : ∀ k w, X k w w)
    (hall : ∀ (i : Nat) (o : Oper) (V : Ty), l[i]? = some o → Vs[i]? = some V → Keeps X i V ∧ StepT P l.toArray C X a0 i (envs (l.take i) (Vs.take i) fun _ => none) o V)
    (hQ : ∀ (listed : Array Bool) (a : Act) (w : World), listed.toList.count false = 0 → listed.size = l.length → Inv C a0 md l Vs n listed a w → Q .normal a w) :
    ∀ (fuel : Nat) (listed : Array Bool) (a : Act) (w : World), listed.size = l.length → listed.toList.count false = fuel → Inv C a0 md l Vs n listed a w → wpAny P md l.toArray Q fuel listed a w := by
  have hk : ∀ (i : Nat) V, Vs[i]? = some V → Keeps X i V := fun i V hV => by
    have hi : i < l.length := by have := (List.getElem?_eq_some_iff.1 hV).1; omega
    exact (hall i l[i] V (List.getElem?_eq_getElem hi) hV).1
  have hnone : ∀ (listed : Array Bool), listed.toList.count false = 0 → Region.ready md l.toArray listed = [] := fun listed h0 => by
    rw [List.eq_nil_iff_forall_not_mem]
    intro j hj
    have := getD_get (mem_ready.1 hj).1
    have hm : false ∈ listed.toList := List.mem_of_getElem? this
    have := List.count_pos_iff.2 hm
    omega
  intro fuel
  induction fuel with
  | zero => intro listed a w hs h0 hI; exact ⟨hnone listed h0, hQ listed a w h0 hs hI⟩
  | succ fuel ih =>
    intro listed a w hs hf hI
    have hmem : ∀ i ∈ Region.ready md l.toArray listed, wpOp P l.toArray Q i (wpAny P md l.toArray Q fuel (listed.setIfInBounds i true)) a w := by
      intro i hi
      obtain ⟨hun, o, ho, hafter⟩ := mem_ready.1 hi
      have ho' : l[i]? = some o := by simpa using ho
      have hil : i < l.length := (List.getElem?_eq_some_iff.1 ho').1
      obtain ⟨V, hV⟩ : ∃ V, Vs[i]? = some V := ⟨Vs[i]'(by omega), List.getElem?_eq_getElem (by omega)⟩
      obtain ⟨_, hstep⟩ := hall i o V ho' hV
      obtain ⟨k1, k2, k3, _⟩ := okB_spec hok
      have hcnt : (listed.setIfInBounds i true).toList.count false = fuel := by
        have := count_set listed.toList i (getD_get hun)
        rw [Array.toList_setIfInBounds]
        omega
      have hafter' : ∀ e ∈ o.after, Region.binds md e = true → listed.getD e.on true = true := fun e he hb => by
        have h1 := hafter e he hb
        have hon := (okB_spec hok).2.2.2 i o ho' e he hb
        have hjs : e.on < listed.size := by rw [hs]; omega
        simp [hjs] at h1 ⊢
        exact h1
      have hnext : ∀ (v : Value) (w' : World), C w' → X i w w' → FactV V o a v w' → wpAny P md l.toArray Q fuel (listed.setIfInBounds i true) (a.put o.dst v) w' := fun v w' h1 h2 h3 =>
        ih _ _ _ (by simpa using hs) hcnt (inv_put hok hkey hk hs hI ho' hun hafter' hV h1 h2 h3)
      have hfits : ∀ t ∈ o.looksAt l.toArray, Fits a0 (envs (l.take i) (Vs.take i) fun _ => none) a w t := by
        intro t ht
        unfold Fits
        by_cases hex : ∃ (j : Nat) (o' : Oper), l[j]? = some o' ∧ o'.dst = some t
        · obtain ⟨j, o', hj, hd⟩ := hex
          obtain ⟨hji, e, he, hb, hon⟩ := k3 i j o o' t ho' hj hd ht
          have hjl : j < Vs.length := by omega
          have hVj : Vs[j]? = some Vs[j] := List.getElem?_eq_getElem hjl
          have henv := envs_some (V := Vs[j]) hd (l.take i) (Vs.take i) (fun _ => none) j (by rw [List.getElem?_take, if_pos hji]; exact hj) (by rw [List.getElem?_take, if_pos hji]; exact hVj) (fun k o'' hjk hk' hd' => by
            have hk2 : l[k]? = some o'' := by
              rw [List.getElem?_take] at hk'
              split at hk'
              · exact hk'
              · cases hk'
            have := k2 j k o' o'' t hj hk2 hd hd'
            omega)
          rw [henv]
          have hl := hafter e he hb
          rw [hon] at hl
          have hl' : listed.getD j true = true := by
            have hjs : j < listed.size := by rw [hs]; omega
            simp [hjs] at hl ⊢
            exact hl
          exact hI.2.2.2.1 j o' Vs[j] t hj hVj (key_dst hd) hl'
        · have henv := envs_none (t := t) (l.take i) (Vs.take i) (fun _ => none) (fun o' ho' hd => by
            obtain ⟨k, hk'⟩ := List.mem_iff_getElem?.1 ho'
            rw [List.getElem?_take] at hk'
            split at hk'
            · exact hex ⟨k, o', hk', hd⟩
            · cases hk')
          rw [henv]
          exact hI.2.2.2.2.1 t fun j o' hj hd => absurd ⟨j, o', hj, hd⟩ hex
      have hs2 := hstep a w hI.1 hfits
      unfold wpOp
      simp only [ho]
      by_cases hw : Region.wanted o (yielded l.toArray a.tmps) = true
      · rw [if_pos hw] at hs2
        simp only [hw, if_true]
        left
        unfold Oper.wp
        generalize (execOp a.eval o).run P w = r at *
        cases r with
        | ok nx w' =>
          cases nx <;> simp only [Tame] at hs2 <;> simp only [Oper.upon]
          case value v => exact hnext v w' hs2.1 hs2.2.1 hs2.2.2
          case skip => exact hnext undef w' hs2.1 hs2.2.1 hs2.2.2
          case enter f args =>
            obtain ⟨rfl, hc⟩ := hs2
            exact hc.mono fun e w'' ⟨v, he, h1, h2, h3⟩ => by subst he; exact hnext v w'' h1 h2 h3
        | halt x w' => simp only [Tame] at hs2
      · rw [if_neg hw] at hs2
        simp only [hw]
        exact hnext undef w hI.1 (hrefl i w) hs2
    refine ⟨fun hr => ?_, hmem⟩
    obtain ⟨i, hi, hmin⟩ := least listed (by omega)
    have hil : i < l.length := by rw [← hs]; exact hi.1
    refine absurd (mem_ready.2 ⟨hi.2, l[i], by simp [hil], fun e he hb => ?_⟩ : i ∈ Region.ready md l.toArray listed) (by rw [hr]; simp)
    have hlt := (okB_spec hok).2.2.2 i l[i] (List.getElem?_eq_getElem hil) e he hb
    have hes : e.on < listed.size := by omega
    have := hmin e.on hlt
    simp [hes] at this ⊢
    exact this

/-- **THE REGION.** -/
theorem wp_region_typed {id n : Nat} {l : List Oper} {Q : Exit → Act → World → Prop} {w : World} (hm : P.follows .mixedOrders = true) (hok : okB .any l n = true) (hkey : keyB l = true) (hn : a0.tmps.size = n)
    (hrefl : ∀ k w, X k w w) (hC : C { w with drawn := w.drawn + 1 })
    (h : WalkT P l.toArray C X a0 0 l (fun _ => none) [] fun E F => ∀ (a : Act) (w' : World), C w' → a.tmps.size = n → a.defers = a0.defers → (∀ t, Fits a0 E a w' t) → (∀ x ∈ F, x.2 (a.eval (.tmp x.1)) w') → Q .normal a w') :
    (Code.region id l.toArray true).wp P Q a0 w := by
  obtain ⟨Vs, hlen, hall, hK⟩ := walk_ex P l.toArray C X a0 0 l _ _ h
  refine wp_region_any hm ?_
  have hsz : (Array.replicate l.toArray.size false).size = l.length := by simp
  have hall' : ∀ (i : Nat) (o : Oper) (V : Ty), l[i]? = some o → Vs[i]? = some V → Keeps X i V ∧ StepT P l.toArray C X a0 i (envs (l.take i) (Vs.take i) fun _ => none) o V := fun i o V h1 h2 => by
    have := hall i o V h1 h2
    rwa [Nat.zero_add] at this
  refine wpAny_typed (Vs := Vs) (n := n) hok hkey hlen hrefl hall' ?_ _ _ _ _ hsz (by simp) ⟨hC, hn, rfl, fun i o V t ho hV ht hl => ?_, fun t _ => rfl, fun j o hj hl => ?_⟩
  · intro listed a w' h0 hs hI
    have hall1 : ∀ j, listed.getD j true = true := fun j => by
      cases hb : listed.getD j true with
      | true => rfl
      | false =>
        have hm : false ∈ listed.toList := List.mem_of_getElem? (getD_get hb)
        have := List.count_pos_iff.2 hm
        omega
    refine hK a w' hI.1 hI.2.1 hI.2.2.1 (fun t => ?_) (fun x hx => by
      rcases mem_facts l Vs [] x hx with h | ⟨i, o, h1, h2, h3⟩
      · cases h
      · exact hI.2.2.2.1 i o x.2 x.1 h1 h2 h3 (hall1 i))
    unfold Fits
    by_cases hex : ∃ (j : Nat) (o' : Oper), l[j]? = some o' ∧ o'.dst = some t
    · obtain ⟨j, o', hj, hd⟩ := hex
      have hjl : j < Vs.length := by have := (List.getElem?_eq_some_iff.1 hj).1; omega
      have hVj : Vs[j]? = some Vs[j] := List.getElem?_eq_getElem hjl
      rw [envs_some (V := Vs[j]) hd l Vs (fun _ => none) j hj hVj (fun k o'' hjk hk' hd' => by
        have := (okB_spec hok).2.1 j k o' o'' t hj hk' hd hd'
        omega)]
      exact hI.2.2.2.1 j o' Vs[j] t hj hVj (key_dst hd) (hall1 j)
    · rw [envs_none (t := t) l Vs (fun _ => none) (fun o' ho' hd => by
        obtain ⟨k, hk'⟩ := List.mem_iff_getElem?.1 ho'
        exact hex ⟨k, o', hk', hd⟩)]
      exact hI.2.2.2.2.1 t fun j o' hj hd => absurd ⟨j, o', hj, hd⟩ hex
  · have hi : i < l.length := (List.getElem?_eq_some_iff.1 ho).1
    simp [hi] at hl
  · have hi : j < l.length := (List.getElem?_eq_some_iff.1 hj).1
    simp [hi] at hl

/-! ### Steps of such a walk -/
theorem w_is {k : Nat} {o : Oper} {rest : List Oper} {E : Tmp → Option Ty} {F : List (Tmp × Ty)} {K : (Tmp → Option Ty) → List (Tmp × Ty) → Prop} (hrefl : ∀ k w, X k w w) {d : Tmp} (hd : o.dst = some d) (c : Value) (G : Wanted ops a0 E o)
    (h : ∀ (ρ : Operand → Value) (w : World), C w → (∀ c, ρ (.const c) = c) → (∀ f, ρ (.func f) = .func (.func f) #[] #[]) → (∀ t ∈ o.looksAt ops, Fit E a0 ρ w t) → (execOp ρ o).run P w = .ok (.value c) w)
    (hw : WalkT P ops C X a0 (k + 1) rest (push o (Is c) E) F K) : WalkT P ops C X a0 k (o :: rest) E F K :=
  ⟨Is c, fun _ _ _ _ _ h _ => h, fun a w hC hf => by
    rw [if_pos (G.on hf), h a.eval w hC (fun _ => rfl) (fun _ => rfl) hf]
    refine ⟨hC, hrefl k w, ?_⟩
    unfold FactV
    rw [hd]
    exact (rfl : c = c), by rwa [show pushF o (Is c) F = F by unfold pushF; rw [hd]]⟩
theorem w_call {k : Nat} {o : Oper} {rest : List Oper} {E : Tmp → Option Ty} {F : List (Tmp × Ty)} {K : (Tmp → Option Ty) → List (Tmp × Ty) → Prop} {d : Tmp} (hd : o.dst = some d) (V : Ty) (hV : Keeps X k V) (f : FuncId) (G : Wanted ops a0 E o)
    (h : ∀ (ρ : Operand → Value) (w : World), C w → (∀ c, ρ (.const c) = c) → (∀ f, ρ (.func f) = .func (.func f) #[] #[]) → (∀ t ∈ o.looksAt ops, Fit E a0 ρ w t) →
      ∃ args, (execOp ρ o).run P w = .ok (.enter f args) w ∧ Calls P f args w (fun e w' => ∃ v, e = .returned v ∧ C w' ∧ X k w w' ∧ V v w'))
    (hw : WalkT P ops C X a0 (k + 1) rest (push o V E) F K) : WalkT P ops C X a0 k (o :: rest) E F K :=
  ⟨V, hV, fun a w hC hf => by
    obtain ⟨args, h1, h2⟩ := h a.eval w hC (fun _ => rfl) (fun _ => rfl) hf
    rw [if_pos (G.on hf), h1]
    exact ⟨rfl, h2.mono fun e w' ⟨v, e1, e2, e3, e4⟩ => ⟨v, e1, e2, e3, by unfold FactV; rw [hd]; exact e4⟩⟩, by rwa [show pushF o V F = F by unfold pushF; rw [hd]]⟩
theorem w_make {k : Nat} {o : Oper} {rest : List Oper} {E : Tmp → Option Ty} {F : List (Tmp × Ty)} {K : (Tmp → Option Ty) → List (Tmp × Ty) → Prop} {d : Tmp} (hd : o.dst = some d) (V : Ty) (hV : Keeps X k V) (G : Wanted ops a0 E o)
    (h : ∀ (ρ : Operand → Value) (w : World), C w → (∀ c, ρ (.const c) = c) → (∀ f, ρ (.func f) = .func (.func f) #[] #[]) → (∀ t ∈ o.looksAt ops, Fit E a0 ρ w t) →
      ∃ v w', (execOp ρ o).run P w = .ok (.value v) w' ∧ C w' ∧ X k w w' ∧ V v w')
    (hw : WalkT P ops C X a0 (k + 1) rest (push o V E) F K) : WalkT P ops C X a0 k (o :: rest) E F K :=
  ⟨V, hV, fun a w hC hf => by
    obtain ⟨v, w', h1, h2, h3, h4⟩ := h a.eval w hC (fun _ => rfl) (fun _ => rfl) hf
    rw [if_pos (G.on hf), h1]
    exact ⟨h2, h3, by unfold FactV; rw [hd]; exact h4⟩, by rwa [show pushF o V F = F by unfold pushF; rw [hd]]⟩
/-- A store: what is known of the slot that holds its address. -/
theorem w_store {k : Nat} {o : Oper} {rest : List Oper} {E : Tmp → Option Ty} {F : List (Tmp × Ty)} {K : (Tmp → Option Ty) → List (Tmp × Ty) → Prop} {p : Tmp} (hd : o.dst = none) (hp : keyOf o = some p) (V : Ty) (hV : Keeps X k V) (G : Wanted ops a0 E o)
    (h : ∀ (ρ : Operand → Value) (w : World), C w → (∀ c, ρ (.const c) = c) → (∀ t ∈ o.looksAt ops, Fit E a0 ρ w t) →
      ∃ w', (execOp ρ o).run P w = .ok .skip w' ∧ C w' ∧ X k w w' ∧ V (ρ (.tmp p)) w')
    (hw : WalkT P ops C X a0 (k + 1) rest E ((p, V) :: F) K) : WalkT P ops C X a0 k (o :: rest) E F K :=
  ⟨V, hV, fun a w hC hf => by
    obtain ⟨w', h1, h2, h3, h4⟩ := h a.eval w hC (fun _ => rfl) hf
    rw [if_pos (G.on hf), h1]
    exact ⟨h2, h3, by unfold FactV; rw [hd]; simp only [hp]; exact h4⟩, by
      rw [show pushF o V F = (p, V) :: F by unfold pushF; rw [hd]; simp only [hp], show push o V E = E by funext t; simp [push, hd]]
      exact hw⟩
end
#print axioms wp_region_typed
end Go.Proofs.Ytfdjaodnmjkpcaa.T3

namespace Go.Proofs.Ytfdjaodnmjkpcaa.T3

section
variable {P : Program} {C : World → Prop} {X : Nat → World → World → Prop} {a0 : Act}

theorem listed_split {N g : Nat} {listed : Array Bool} (hs : listed.size = N + g) (ht : ∀ t, N ≤ t → t < N + g → listed.getD t true = false) : listed.toList.drop N = List.replicate g false := by
  refine List.ext_getElem (by simp [hs]) fun i h1 h2 => ?_
  have h3 : i < g := by simpa using h2
  have h4 := ht (N + i) (by omega) (by omega)
  have h5 : N + i < listed.size := by omega
  simp [h5] at h4
  simp [h4]
theorem count_split {N g : Nat} {listed : Array Bool} (hs : listed.size = N + g) (ht : ∀ t, N ≤ t → t < N + g → listed.getD t true = false) : listed.toList.count false = (listed.toList.take N).count false + g := by
  conv => lhs; rw [← List.take_append_drop N listed.toList]
  rw [List.count_append, listed_split hs ht, List.count_replicate_self]
theorem listed_full {N g : Nat} {listed : Array Bool} (hs : listed.size = N + g) (ht : ∀ t, N ≤ t → t < N + g → listed.getD t true = false) (h0 : (listed.toList.take N).count false = 0) : listed = Array.replicate N true ++ Array.replicate g false := by
  have h1 : listed.toList.take N = List.replicate N true := by
    refine List.ext_getElem (by simp [hs]) fun i h1 h2 => ?_
    have hm : (listed.toList.take N)[i] ∈ listed.toList.take N := List.getElem_mem h1
    have hn : (listed.toList.take N)[i] ≠ false := fun e => (List.count_eq_zero.1 h0) (e ▸ hm)
    rw [List.getElem_replicate]
    cases hb : (listed.toList.take N)[i] with
    | true => rfl
    | false => exact absurd hb hn
  apply Array.ext'
  rw [← List.take_append_drop N listed.toList, h1, listed_split hs ht]
  simp

theorem wpAny_head {md : Region.Mode} {l : List Oper} {Vs : List Ty} {n N g : Nat} {Q : Exit → Act → World → Prop} (hok : okB md l n = true) (hkey : keyB l = true) (hlen : Vs.length = N) (hNg : l.length = N + g) (hg : 0 < g)
    (hsink : Region.sinkB md l.toArray N = true) (hchain : Region.chainB md l.toArray N = true) (hseq : Region.seqB md l.toArray g N (Array.replicate N true ++ Array.replicate g false) = true)
    (hall : ∀ (i : Nat) (o : Oper) (V : Ty), l[i]? = some o → Vs[i]? = some V → Keeps X i V ∧ StepT P l.toArray C X a0 i (envs (l.take i) (Vs.take i) fun _ => none) o V)
    (hrefl : ∀ k w, X k w w)
    (hQ : ∀ (a : Act) (w : World), Inv C a0 md l Vs n (Array.replicate N true ++ Array.replicate g false) a w → wpList P l.toArray Q (l.drop N) a w) :
    ∀ (f : Nat) (listed : Array Bool) (a : Act) (w : World), HeadInv md l.toArray N listed → listed.toList.count false = f + g → Inv C a0 md l Vs n listed a w → wpAny P md l.toArray Q (f + g) listed a w := by
  have hk : ∀ (i : Nat) V, Vs[i]? = some V → Keeps X i V := fun i V hV => by
    have hi : i < l.length := by have := (List.getElem?_eq_some_iff.1 hV).1; omega
    exact (hall i l[i] V (List.getElem?_eq_getElem hi) hV).1
  have hsz : l.toArray.size = N + g := by simpa using hNg
  intro f
  induction f with
  | zero =>
    intro listed a w hH h0 hI
    have hs : listed.size = N + g := hH.size.trans hsz
    have ht : ∀ t, N ≤ t → t < N + g → listed.getD t true = false := fun t h1 h2 => hH.tail t h1 (by omega)
    have hc := count_split hs ht
    have hf := listed_full hs ht (by omega)
    subst hf
    have := wpAny_of_seq (md := md) (Q' := Q) (P := P) (l.drop N) N _ a w (ops := l.toArray) (fun j => by simp [List.getElem?_drop]) (by rw [show (l.drop N).length = g by simp; omega]; exact hseq) (hQ a w hI)
    rw [show (l.drop N).length = 0 + g by simp; omega] at this
    exact this
  | succ f ih =>
    intro listed a w hH hf hI
    have hs : listed.size = N + g := hH.size.trans hsz
    have hs' : listed.size = l.length := by omega
    have ht : ∀ t, N ≤ t → t < N + g → listed.getD t true = false := fun t h1 h2 => hH.tail t h1 (by omega)
    have hc := count_split hs ht
    obtain ⟨i0, hi0, hun0⟩ : ∃ i0, i0 < N ∧ listed.getD i0 true = false := by
      have hm : false ∈ listed.toList.take N := List.count_pos_iff.1 (by omega)
      obtain ⟨k, hk1, hk2⟩ := List.mem_iff_getElem.1 hm
      have hk3 : k < N := by simp at hk1; omega
      refine ⟨k, hk3, ?_⟩
      have hk4 : k < listed.size := by omega
      simp at hk2
      simp [hk4, hk2]
    have hhead : ∀ i ∈ Region.ready md l.toArray listed, i < N := fun i hi => by
      rcases Nat.lt_or_ge i N with h | h
      · exact h
      · exact absurd hi (tail_waits hsink hchain (by omega) hH _ i0 rfl hi0 hun0 i h)
    have hmem : ∀ i ∈ Region.ready md l.toArray listed, wpOp P l.toArray Q i (wpAny P md l.toArray Q (f + g) (listed.setIfInBounds i true)) a w := by
      intro i hi
      have hiN := hhead i hi
      obtain ⟨hun, o, ho, hafter⟩ := mem_ready.1 hi
      have ho' : l[i]? = some o := by simpa using ho
      obtain ⟨V, hV⟩ : ∃ V, Vs[i]? = some V := ⟨Vs[i]'(by omega), List.getElem?_eq_getElem (by omega)⟩
      obtain ⟨_, hstep⟩ := hall i o V ho' hV
      obtain ⟨k1, k2, k3, _⟩ := okB_spec hok
      have hcnt : (listed.setIfInBounds i true).toList.count false = f + g := by
        have := count_set listed.toList i (getD_get hun)
        rw [Array.toList_setIfInBounds]
        omega
      have hafter' : ∀ e ∈ o.after, Region.binds md e = true → listed.getD e.on true = true := fun e he hb => by
        have h1 := hafter e he hb
        have hon := (okB_spec hok).2.2.2 i o ho' e he hb
        have hjs : e.on < listed.size := by omega
        simp [hjs] at h1 ⊢
        exact h1
      have hnext : ∀ (v : Value) (w' : World), C w' → X i w w' → FactV V o a v w' → wpAny P md l.toArray Q (f + g) (listed.setIfInBounds i true) (a.put o.dst v) w' := fun v w' h1 h2 h3 =>
        ih _ _ _ (hH.set hi hiN) hcnt (inv_put hok hkey hk hs' hI ho' hun hafter' hV h1 h2 h3)
      have hfits : ∀ t ∈ o.looksAt l.toArray, Fits a0 (envs (l.take i) (Vs.take i) fun _ => none) a w t := by
        intro t ht
        unfold Fits
        by_cases hex : ∃ (j : Nat) (o' : Oper), l[j]? = some o' ∧ o'.dst = some t
        · obtain ⟨j, o', hj, hd⟩ := hex
          obtain ⟨hji, e, he, hb, hon⟩ := k3 i j o o' t ho' hj hd ht
          have hjl : j < Vs.length := by omega
          have hVj : Vs[j]? = some Vs[j] := List.getElem?_eq_getElem hjl
          have henv := envs_some (V := Vs[j]) hd (l.take i) (Vs.take i) (fun _ => none) j (by rw [List.getElem?_take, if_pos hji]; exact hj) (by rw [List.getElem?_take, if_pos hji]; exact hVj) (fun k o'' hjk hk' hd' => by
            have hk2 : l[k]? = some o'' := by
              rw [List.getElem?_take] at hk'
              split at hk'
              · exact hk'
              · cases hk'
            have := k2 j k o' o'' t hj hk2 hd hd'
            omega)
          rw [henv]
          have hl := hafter e he hb
          rw [hon] at hl
          have hl' : listed.getD j true = true := by
            have hjs : j < listed.size := by omega
            simp [hjs] at hl ⊢
            exact hl
          exact hI.2.2.2.1 j o' Vs[j] t hj hVj (key_dst hd) hl'
        · have henv := envs_none (t := t) (l.take i) (Vs.take i) (fun _ => none) (fun o' ho' hd => by
            obtain ⟨k, hk'⟩ := List.mem_iff_getElem?.1 ho'
            rw [List.getElem?_take] at hk'
            split at hk'
            · exact hex ⟨k, o', hk', hd⟩
            · cases hk')
          rw [henv]
          exact hI.2.2.2.2.1 t fun j o' hj hd => absurd ⟨j, o', hj, hd⟩ hex
      have hs2 := hstep a w hI.1 hfits
      unfold wpOp
      simp only [ho]
      by_cases hw : Region.wanted o (yielded l.toArray a.tmps) = true
      · rw [if_pos hw] at hs2
        simp only [hw, if_true]
        left
        unfold Oper.wp
        generalize (execOp a.eval o).run P w = r at *
        cases r with
        | ok nx w' =>
          cases nx <;> simp only [Tame] at hs2 <;> simp only [Oper.upon]
          case value v => exact hnext v w' hs2.1 hs2.2.1 hs2.2.2
          case skip => exact hnext undef w' hs2.1 hs2.2.1 hs2.2.2
          case enter f args =>
            obtain ⟨rfl, hc⟩ := hs2
            exact hc.mono fun e w'' ⟨v, he, h1, h2, h3⟩ => by subst he; exact hnext v w'' h1 h2 h3
        | halt x w' => simp only [Tame] at hs2
      · rw [if_neg hw] at hs2
        simp only [hw]
        exact hnext undef w hI.1 (hrefl i w) hs2
    rw [show f + 1 + g = (f + g) + 1 by omega]
    refine ⟨fun hr => ?_, hmem⟩
    obtain ⟨i, hi, hmin⟩ := least listed (by omega)
    have hil : i < l.length := by rw [← hs']; exact hi.1
    refine absurd (mem_ready.2 ⟨hi.2, l[i], by simp [hil], fun e he hb => ?_⟩ : i ∈ Region.ready md l.toArray listed) (by rw [hr]; simp)
    have hlt := (okB_spec hok).2.2.2 i l[i] (List.getElem?_eq_getElem hil) e he hb
    have hes : e.on < listed.size := by omega
    have := hmin e.on hlt
    simp [hes] at this ⊢
    exact this

/-- Number N on comes behind all the others, one behind the other. -/
def tailB (l : List Oper) (N : Nat) : Bool :=
  decide (N < l.length) && Region.sinkB .any l.toArray N && Region.chainB .any l.toArray N && Region.seqB .any l.toArray (l.length - N) N (Array.replicate N true ++ Array.replicate (l.length - N) false)
/-- **THE REGION, ITS TAIL AS A LIST.** -/
theorem wp_region_tail {id n : Nat} {l : List Oper} {Q : Exit → Act → World → Prop} {w : World} (N : Nat) (hm : P.follows .mixedOrders = true) (hok : okB .any l n = true) (hkey : keyB l = true) (htail : tailB l N = true) (hn : a0.tmps.size = n)
    (hrefl : ∀ k w, X k w w) (hC : C { w with drawn := w.drawn + 1 })
    (h : WalkT P l.toArray C X a0 0 (l.take N) (fun _ => none) [] fun E _ => ∀ (a : Act) (w' : World), C w' → a.tmps.size = n → a.defers = a0.defers → (∀ t, Fits a0 E a w' t) → wpList P l.toArray Q (l.drop N) a w') :
    (Code.region id l.toArray true).wp P Q a0 w := by
  unfold tailB at htail
  simp only [Bool.and_eq_true, decide_eq_true_eq] at htail
  obtain ⟨⟨⟨hN, hsink⟩, hchain⟩, hseq⟩ := htail
  have htl : (l.take N).length = N := by rw [List.length_take]; omega
  obtain ⟨Vs, hlen, hall, hK⟩ := walk_ex P l.toArray C X a0 0 (l.take N) _ _ h
  rw [htl] at hlen
  have htt : ∀ i, i < N → (l.take N).take i = l.take i := fun i hi => by rw [List.take_take]; congr 1; omega
  have hall' : ∀ (i : Nat) (o : Oper) (V : Ty), l[i]? = some o → Vs[i]? = some V → Keeps X i V ∧ StepT P l.toArray C X a0 i (envs (l.take i) (Vs.take i) fun _ => none) o V := fun i o V h1 h2 => by
    have hi : i < N := by have := (List.getElem?_eq_some_iff.1 h2).1; omega
    have := hall i o V (by rw [List.getElem?_take, if_pos hi]; exact h1) h2
    rw [htt i hi] at this
    rwa [Nat.zero_add] at this
  refine wp_region_any hm ?_
  have hsz : (Array.replicate l.toArray.size false).size = l.length := by simp
  have inv0 : HeadInv .any l.toArray N (Array.replicate l.toArray.size false) :=
    ⟨by simp, fun j oj _ hl => (by rw [getD_replicate_false] at hl; cases hl), fun t _ ht => getD_in (by simpa using ht) (getD_replicate_false _ _)⟩
  have hfa : ∀ (i : Nat), i < l.length → (Array.replicate l.toArray.size false).getD i true = false := fun i hi => getD_in (by simpa using hi) (getD_replicate_false _ _)
  have H := wpAny_head (P := P) (C := C) (X := X) (a0 := a0) (Vs := Vs) (n := n) (N := N) (g := l.length - N) (Q := Q) hok hkey hlen (by omega) (by omega) hsink hchain hseq hall' hrefl ?_ N (Array.replicate l.toArray.size false) a0 { w with drawn := w.drawn + 1 } inv0 (by simp; omega) ⟨hC, hn, rfl, fun i o V t ho hV ht hl => ?_, fun t _ => rfl, fun j o hj hl => ?_⟩
  · rwa [show N + (l.length - N) = l.toArray.size by simp; omega] at H
  · intro a w' hI
    have hall1 : ∀ j, j < N → (Array.replicate N true ++ Array.replicate (l.length - N) false).getD j true = true := fun j hj => by
      simp [Array.getElem?_append, hj]
    refine hK a w' hI.1 hI.2.1 hI.2.2.1 (fun t => ?_)
    unfold Fits
    by_cases hex : ∃ (j : Nat) (o' : Oper), (l.take N)[j]? = some o' ∧ o'.dst = some t
    · obtain ⟨j, o', hj, hd⟩ := hex
      have hjN : j < N := by have := (List.getElem?_eq_some_iff.1 hj).1; omega
      have hjl : l[j]? = some o' := by rw [List.getElem?_take, if_pos hjN] at hj; exact hj
      have hVj : Vs[j]? = some (Vs[j]'(by omega)) := List.getElem?_eq_getElem (by omega)
      rw [envs_some (V := Vs[j]'(by omega)) hd (l.take N) Vs (fun _ => none) j hj hVj (fun k o'' hjk hk' hd' => by
        have hk2 : l[k]? = some o'' := by
          rw [List.getElem?_take] at hk'
          split at hk'
          · exact hk'
          · cases hk'
        have := (okB_spec hok).2.1 j k o' o'' t hjl hk2 hd hd'
        omega)]
      exact hI.2.2.2.1 j o' _ t hjl hVj (key_dst hd) (hall1 j hjN)
    · rw [envs_none (t := t) (l.take N) Vs (fun _ => none) (fun o' ho' hd => by
        obtain ⟨k, hk'⟩ := List.mem_iff_getElem?.1 ho'
        exact hex ⟨k, o', hk', hd⟩)]
      refine hI.2.2.2.2.1 t fun j o' hj hd => ?_
      have hjN : ¬ j < N := fun hjN => hex ⟨j, o', by rw [List.getElem?_take, if_pos hjN]; exact hj, hd⟩
      have hj2 : j < l.length := (List.getElem?_eq_some_iff.1 hj).1
      have h3 : j - N < l.length - N := by omega
      simp [Array.getElem?_append, hjN, h3]
  · have hi : i < l.length := (List.getElem?_eq_some_iff.1 ho).1
    rw [hfa i hi] at hl; cases hl
  · have hi : j < l.length := (List.getElem?_eq_some_iff.1 hj).1
    rw [hfa j hi] at hl; cases hl
end
#print axioms wp_region_tail
end Go.Proofs.Ytfdjaodnmjkpcaa.T3
