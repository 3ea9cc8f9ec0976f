/- Texts Ops, Bma, Sd1, Sd3, Sd6 of this proof, in one. No conditions but on lengths. -/
import Derived.Test.YtdigjklhfimnbaaGreatRows
import Derived.Test.YtdigjklhfimnbaaGreatU11
import Derived.Test.YtdigjklhfimnbaaGreatU13
import Derived.Test.YtdigjklhfimnbaaGreatU16
import Derived.ArgAppend
import Derived.Below
import Derived.BigQuiet
import Derived.Calls
import Derived.ChangeArms
import Derived.ChangeMade
import Derived.ChangeOld
import Derived.Deep.Cut
import Derived.Deep.CutBlock
import Derived.Deep.QuietTactic
import Derived.Deep.RegionHeld
import Derived.Deep.RegionLaw
import Derived.Deep.RegionWith
import Derived.Deep.Slices
import Derived.Laws.AppendOwnNone
import Derived.Laws.BytesArg
import Derived.Laws.LoneSync
import Derived.Laws.OwnMore
import Derived.Laws.StructEq
import Derived.Lib.Hide
import Derived.Lib.QuietBelow
import Derived.LoopIn
import Derived.LoopTactic
import Derived.Maps.AppendAt
import Derived.OpenShut
import Derived.Orders
import Derived.Outline
import Derived.OwnWalkIn
import Derived.ProofKit
import Derived.RangeFuncBox
import Derived.RangeFuncCalls
import Derived.RangeFuncLeaves
import Derived.RangeFuncNested
import Derived.Shelf.RegionOpen
import Derived.Shelf.RegionOpenPlain
import Derived.ShutString
import Derived.StillTail
import Derived.TacticsInMore
import Derived.WalkKit
import Derived.WalkSpells
import Derived.WideShapes
namespace Go.Proofs.YtdigjklhfimnbaaGreat
set_option maxRecDepth 100000
open Go.RowKit Go.Sort

/-- What Pack answers. -/
def packE (ys : List Ob) (most : Int) : Int := if 40 ≤ most ∧ most ≤ 512 ∧ AllOk ys then (if 1024 < ys.length then 2 else 0) else 1
def packB (ys : List Ob) (first most : Int) : List (Int × List Ob) := if packE ys most = 0 then packL most ys first else []
/-- A slice of batches that reads as bs. -/
def Bts (w : World) (v : Value) (bs : List (Int × List Ob)) : Prop :=
  (∃ a cap, v = .slice a 0 cap ∧ bs = []) ∨
  ∃ b off cap, v = .slice (some ⟨b, off, none⟩) bs.length cap ∧ ∀ i, i < bs.length → w.cell? ⟨b, off + i * 2, none⟩ = some (.int .i64 (bs.getD i zb).1) ∧ ∃ s, w.cell? ⟨b, off + i * 2 + 1, none⟩ = some s ∧ Os w s (bs.getD i zb).2
theorem Bts.below {w w' : World} {v : Value} {bs : List (Int × List Ob)} (h : Bts w v bs) (hb : Below w.heap.size w w') : Bts w' v bs := by
  rcases h with h | ⟨b, off, cap, h1, h2⟩
  · exact .inl h
  · refine .inr ⟨b, off, cap, h1, fun i hi => ?_⟩
    obtain ⟨k1, s, k2, k3⟩ := h2 i hi
    exact ⟨by rw [hb.cell (World.block_lt_of_cell? w _ k1)]; exact k1, s, by rw [hb.cell (World.block_lt_of_cell? w _ k2)]; exact k2, k3.below hb⟩
theorem Bts.form {w : World} {v : Value} {bs : List (Int × List Ob)} (h : Bts w v bs) : ∃ a c, v = .slice a bs.length c := by
  rcases h with ⟨a, cap, h1, rfl⟩ | ⟨b, off, cap, h1, _⟩
  · exact ⟨a, cap, h1⟩
  · exact ⟨_, _, h1⟩
theorem Bts.at {w : World} {a : Option Addr} {c : Nat} {bs : List (Int × List Ob)} (h : Bts w (.slice a bs.length c) bs) {i : Nat} (hi : i < bs.length) : ∃ b off, a = some ⟨b, off, none⟩ ∧ w.cell? ⟨b, off + i * 2, none⟩ = some (.int .i64 (bs.getD i zb).1) ∧ ∃ s, w.cell? ⟨b, off + i * 2 + 1, none⟩ = some s ∧ Os w s (bs.getD i zb).2 := by
  rcases h with ⟨a', cap, hv, rfl⟩ | ⟨b, off, cap, hv, h2⟩
  · simp at hi
  · simp only [Value.slice.injEq] at hv
    exact ⟨b, off, hv.1, h2 i hi⟩
end Go.Proofs.YtdigjklhfimnbaaGreat
namespace Go.Proofs.YtdigjklhfimnbaaGreat
set_option maxRecDepth 100000
open Go.RowKit Go.Sort

theorem bs_le37 (y : Ob) : y.bs.length ≤ 37 := by
  unfold Ob.bs obBs
  split
  · have h := htB_le y.n y.t y.o y.r y.d y.i
    unfold obB
    split
    · simp
    · split
      · simp; omega
      · split
        · simp [i8_len]
        · simp; omega
  · simp
theorem osz_app (xs ys : List Ob) : osz (xs ++ ys) = osz xs + osz ys := by
  unfold osz; rw [List.map_append, List.sum_append]
/-- The objects from A on, until T. -/
def seg (ys : List Ob) (A T : Nat) : List Ob := (ys.drop A).take (T - A)
theorem seg_len (ys : List Ob) {A T : Nat} (h : T ≤ ys.length) : (seg ys A T).length = T - A := by
  unfold seg; rw [List.length_take, List.length_drop]; omega
theorem seg_self (ys : List Ob) (A : Nat) : seg ys A A = [] := by unfold seg; simp
theorem seg_join (ys : List Ob) {A B T : Nat} (h1 : A ≤ B) (h2 : B ≤ T) : seg ys A T = seg ys A B ++ seg ys B T := by
  unfold seg
  rw [show T - A = (B - A) + (T - B) by omega, List.take_add, List.drop_drop, show A + (B - A) = B by omega]
theorem seg_succ (ys : List Ob) {A T : Nat} (h1 : A ≤ T) (h2 : T < ys.length) : seg ys A (T + 1) = seg ys A T ++ [ys.getD T z12] := by
  rw [seg_join ys h1 (Nat.le_succ T)]
  congr 1
  unfold seg
  rw [show T + 1 - T = 1 by omega, List.drop_eq_getElem_cons h2, List.take_succ_cons, List.take_zero]
  simp [List.getD, h2]
theorem seg_end (ys : List Ob) {A T : Nat} (h : ys.length ≤ T) : seg ys A T = ys.drop A := by
  unfold seg; rw [List.take_of_length_le]; rw [List.length_drop]; omega
theorem seg_ok {ys : List Ob} (h : AllOk ys) (A T : Nat) : AllOk (seg ys A T) := sub_ok h A (T - A)
theorem osz_one (ys : List Ob) {A : Nat} (h : A < ys.length) : osz (seg ys A (A + 1)) = (ys.getD A z12).bs.length := by
  rw [seg_succ ys (Nat.le_refl A) h, seg_self]; simp [osz]
theorem cutF_spec (most : Int) (ys : List Ob) (A : Nat) : ∀ f t : Nat, t ≤ ys.length → ys.length ≤ t + f → t ≤ cutF most ys A f t ∧ cutF most ys A f t ≤ ys.length ∧ ¬ Fit1 most ys A (cutF most ys A f t) ∧ ∀ s, t ≤ s → s < cutF most ys A f t → Fit1 most ys A s
  | 0, t, h1, h2 => by
    rw [cutF]
    exact ⟨Nat.le_refl _, h1, fun h => by have := h.1; omega, fun s h3 h4 => by omega⟩
  | f + 1, t, h1, h2 => by
    rw [cutF]
    by_cases h : Fit1 most ys A t
    · rw [if_pos h]
      have hl := h.1
      obtain ⟨k1, k2, k3, k4⟩ := cutF_spec most ys A f (t + 1) (by omega) (by omega)
      refine ⟨by omega, k2, k3, fun s h3 h4 => ?_⟩
      by_cases e : s = t
      · subst e; exact h
      · exact k4 s (by omega) h4
    · rw [if_neg h]
      exact ⟨Nat.le_refl _, h1, h, fun s h3 h4 => by omega⟩
theorem cut_spec (most : Int) (ys : List Ob) {A : Nat} (hA : A < ys.length) : A + 1 ≤ cutTo most ys A ∧ cutTo most ys A ≤ ys.length ∧ ¬ Fit1 most ys A (cutTo most ys A) ∧ ∀ s, A + 1 ≤ s → s < cutTo most ys A → Fit1 most ys A s :=
  cutF_spec most ys A ys.length (A + 1) hA (by omega)
/-- What is cut fits. -/
theorem cut_fit {most : Int} {ys : List Ob} {A : Nat} (hA : A < ys.length) (hm : 40 ≤ most) : (seg ys A (cutTo most ys A)).length ≤ 32 ∧ 3 + (osz (seg ys A (cutTo most ys A)) : Int) ≤ most := by
  obtain ⟨k1, k2, k3, k4⟩ := cut_spec most ys hA
  rw [seg_len ys k2]
  by_cases h : cutTo most ys A = A + 1
  · rw [h, osz_one ys hA]
    have := bs_le37 (ys.getD A z12)
    omega
  · obtain ⟨h1, h2, h3⟩ := k4 (cutTo most ys A - 1) (by omega) (by omega)
    rw [show cutTo most ys A - 1 + 1 - A = cutTo most ys A - A by omega] at h3
    exact ⟨by omega, h3⟩
theorem packF_nil (most : Int) (ys : List Ob) (f A : Nat) (n : Int) (h : ys.length ≤ A) : packF most ys f A n = [] := by
  cases f with
  | zero => rfl
  | succ f => rw [packF, if_neg (by omega)]
theorem packF_cons {most : Int} {ys : List Ob} {f A : Nat} {n : Int} (h : A < ys.length) : packF most ys (f + 1) A n = (n, seg ys A (cutTo most ys A)) :: packF most ys f (cutTo most ys A) (nxt n) := by
  rw [packF, if_pos h]; rfl
/-- All objects, in their order. -/
theorem packF_all (most : Int) (ys : List Ob) : ∀ (f A : Nat) (n : Int), ys.length ≤ A + f → ((packF most ys f A n).map Prod.snd).flatten = ys.drop A
  | 0, A, n, hf => by rw [packF, List.drop_eq_nil_of_le (by omega)]; rfl
  | f + 1, A, n, hf => by
    by_cases hA : A < ys.length
    · obtain ⟨k1, k2, _, _⟩ := cut_spec most ys hA
      rw [packF_cons hA, List.map_cons, List.flatten_cons, packF_all most ys f (cutTo most ys A) (nxt n) (by omega), ← seg_end ys (A := A) (Nat.le_refl _), ← seg_end ys (A := cutTo most ys A) (Nat.le_refl _)]
      exact (seg_join ys (by omega) k2).symm
    · rw [packF_nil most ys (f + 1) A n (by omega), List.drop_eq_nil_of_le (by omega)]; rfl
/-- The numbers, one behind the other. -/
def numAt (n : Int) : Nat → Int
  | 0 => n
  | i + 1 => numAt (nxt n) i
theorem nxt_rng (n : Int) : 0 ≤ nxt n ∧ nxt n ≤ 65535 := by unfold nxt; omega
theorem lft_rng (n : Int) : 0 ≤ lft n ∧ lft n ≤ 65535 := by unfold lft; omega
theorem packF_num (most : Int) (ys : List Ob) : ∀ (f A : Nat) (n : Int) (i : Nat), i < (packF most ys f A n).length → ((packF most ys f A n).getD i zb).1 = numAt n i
  | 0, A, n, i, h => by simp [packF] at h
  | f + 1, A, n, i, h => by
    by_cases hA : A < ys.length
    · rw [packF_cons hA] at h ⊢
      cases i with
      | zero => rfl
      | succ i =>
        rw [List.getD_cons_succ, numAt]
        exact packF_num most ys f (cutTo most ys A) (nxt n) i (by simpa using h)
    · rw [packF_nil most ys (f + 1) A n (by omega)] at h; simp at h
/-- Each one is right, and no longer than was asked for. -/
theorem packF_ok {most : Int} {ys : List Ob} (hok : AllOk ys) (hm : 40 ≤ most ∧ most ≤ 512) : ∀ (f A : Nat) (n : Int), 0 ≤ n ∧ n ≤ 65535 → ∀ i, i < (packF most ys f A n).length → BtOk ((packF most ys f A n).getD i zb).1 ((packF most ys f A n).getD i zb).2 ∧ 3 + (osz ((packF most ys f A n).getD i zb).2 : Int) ≤ most
  | 0, A, n, hn, i, h => by simp [packF] at h
  | f + 1, A, n, hn, i, h => by
    by_cases hA : A < ys.length
    · rw [packF_cons hA] at h ⊢
      cases i with
      | zero =>
        rw [List.getD_cons_zero]
        obtain ⟨k1, k2, _, _⟩ := cut_spec most ys hA
        obtain ⟨c1, c2⟩ := cut_fit hA hm.1
        have hl := seg_len ys (A := A) k2
        dsimp only
        exact ⟨⟨hn, ⟨by omega, c1⟩, seg_ok hok A _, by omega⟩, c2⟩
      | succ i =>
        rw [List.getD_cons_succ]
        exact packF_ok hok hm f (cutTo most ys A) (nxt n) (nxt_rng n) i (by simpa using h)
    · rw [packF_nil most ys (f + 1) A n (by omega)] at h; simp at h
theorem packL_all (most : Int) (ys : List Ob) (first : Int) : ((packL most ys first).map Prod.snd).flatten = ys := packF_all most ys ys.length 0 _ (by omega)
theorem packL_num (most : Int) (ys : List Ob) (first : Int) (i : Nat) (h : i < (packL most ys first).length) : ((packL most ys first).getD i zb).1 = numAt (lft first) i := packF_num most ys ys.length 0 _ i h
theorem packL_ok {most : Int} {ys : List Ob} (hok : AllOk ys) (hm : 40 ≤ most ∧ most ≤ 512) (first : Int) (i : Nat) (h : i < (packL most ys first).length) : BtOk ((packL most ys first).getD i zb).1 ((packL most ys first).getD i zb).2 ∧ 3 + (osz ((packL most ys first).getD i zb).2 : Int) ≤ most := packF_ok hok hm ys.length 0 _ (lft_rng first) i h
theorem packF_le (most : Int) (ys : List Ob) : ∀ (f A : Nat) (n : Int), (packF most ys f A n).length ≤ f
  | 0, A, n => by simp [packF]
  | f + 1, A, n => by
    by_cases hA : A < ys.length
    · rw [packF_cons hA, List.length_cons]; have := packF_le most ys f (cutTo most ys A) (nxt n); omega
    · rw [packF_nil most ys (f + 1) A n (by omega)]; simp
theorem packL_le (most : Int) (ys : List Ob) (first : Int) : (packL most ys first).length ≤ ys.length := packF_le most ys ys.length 0 _
end Go.Proofs.YtdigjklhfimnbaaGreat
namespace Go.Proofs.YtdigjklhfimnbaaGreat
set_option maxRecDepth 100000

abbrev Bt := Int × List Ob
abbrev Ak := Int × Int × Int × Int
/-- A sender: its window, its tries, what waits, what is out and how often that was sent, the next number. -/
structure Sd where
  win : Int
  tries : Int
  W : List Ob
  L : List (Bt × Int)
  nx : Int
def Sd.out (s : Sd) : List Bt := s.L.map Prod.fst
def nwOk (win tries : Int) : Prop := (1 ≤ win ∧ win ≤ 16) ∧ 1 ≤ tries ∧ tries ≤ 100
instance (win tries : Int) : Decidable (nwOk win tries) := by unfold nwOk; infer_instance
def sd0 (win tries : Int) : Sd := ⟨win, tries, [], [], 0⟩
def fstN (s : Sd) : Int := match s.L with
  | [] => s.nx
  | e :: _ => e.1.1
def pushR (s : Sd) (y : Ob) : Int × Sd := if y.Ok then (if 1024 ≤ s.W.length then (8, s) else (0, { s with W := s.W ++ [y] })) else (1, s)
/-- What is sent: of the batches as many as fit. -/
def sdT (s : Sd) : List Bt := (packL 512 s.W s.nx).takeWhile fun p => decide (far (fstN s) p.1 < s.win)
def cnt (l : List Bt) : Nat := (l.map fun p => p.2.length).sum
def nxA (nx : Int) (l : List Bt) : Int := numAt nx l.length
def sdS (s : Sd) : Sd := { s with W := s.W.drop (cnt (sdT s)), L := s.L ++ (sdT s).map fun p => (p, 1), nx := nxA s.nx (sdT s) }
def agB (s : Sd) : Bool := s.L.all fun e => decide (e.2 < s.tries)
def agL (s : Sd) : List Bt := if agB s = true then s.out else []
def agS (s : Sd) : Sd := if agB s = true then { s with L := s.L.map fun e => (e.1, e.2 + 1) } else s
def gtB (s : Sd) (a : Ak) : Prop := AkOne a ∧ far (fstN s) a.2.2.1 ≤ far (fstN s) s.nx
instance (s : Sd) (a : Ak) : Decidable (gtB s a) := by unfold gtB; infer_instance
def kpt (a : Ak) (e : Bt × Int) : Bool := !hasN a.2.2.1 a.2.2.2 e.1.1
def gtS (s : Sd) (a : Ak) : Sd := if gtB s a then { s with L := s.L.filter (kpt a) } else s
def gtN (s : Sd) (a : Ak) : Nat := s.L.length - (gtS s a).L.length
/-- What is out lies within the window, from the first one on, each further than the one ahead of it, and the next number behind them all. -/
structure SdOk (s : Sd) : Prop where
  win : 1 ≤ s.win ∧ s.win ≤ 16
  tries : 1 ≤ s.tries ∧ s.tries ≤ 100
  wok : AllOk s.W
  wl : s.W.length ≤ 1024
  nx : 0 ≤ s.nx ∧ s.nx ≤ 65535
  inw : ∀ e ∈ s.L, far (fstN s) e.1.1 < s.win
  rise : s.L.Pairwise fun e e' => far (fstN s) e.1.1 < far (fstN s) e'.1.1
  below : ∀ e ∈ s.L, far (fstN s) e.1.1 < far (fstN s) s.nx
  top : far (fstN s) s.nx ≤ s.win
  bok : ∀ e ∈ s.L, BtOk e.1.1 e.1.2
  sent : ∀ e ∈ s.L, 1 ≤ e.2 ∧ e.2 ≤ s.tries
theorem far_self (a : Int) : far a a = 0 := by unfold far; omega
theorem sdok_new {win tries : Int} (h : nwOk win tries) : SdOk (sd0 win tries) :=
  ⟨h.1, h.2, fun i hi => absurd hi (Nat.not_lt_zero i), Nat.zero_le _, ⟨Int.le_refl 0, (show (0 : Int) ≤ 65535 by decide)⟩, fun e he => absurd he List.not_mem_nil, List.Pairwise.nil, fun e he => absurd he List.not_mem_nil, (by show far 0 0 ≤ win; rw [far_self]; have := h.1.1; omega), fun e he => absurd he List.not_mem_nil, fun e he => absurd he List.not_mem_nil⟩
theorem allok_app {xs ys : List Ob} (hx : AllOk xs) (hy : AllOk ys) : AllOk (xs ++ ys) := fun i hi => by
  by_cases h : i < xs.length
  · have e : (xs ++ ys).getD i z12 = xs.getD i z12 := by simp [List.getD, List.getElem?_append, h]
    rw [e]; exact hx i h
  · have e : (xs ++ ys).getD i z12 = ys.getD (i - xs.length) z12 := by simp [List.getD, List.getElem?_append, h]
    rw [e]; exact hy _ (by rw [List.length_append] at hi; omega)
theorem allok_one {y : Ob} (h : y.Ok) : AllOk [y] := fun i hi => by
  have hi' : i < 1 := hi
  obtain rfl : i = 0 := by omega
  exact h
theorem allok_drop {ys : List Ob} (h : AllOk ys) (k : Nat) : AllOk (ys.drop k) := fun i hi => by
  have e : (ys.drop k).getD i z12 = ys.getD (k + i) z12 := by simp [List.getD]
  rw [e]
  exact h _ (by rw [List.length_drop] at hi; omega)
theorem sdok_push {s : Sd} (h : SdOk s) (y : Ob) : SdOk (pushR s y).2 := by
  unfold pushR
  by_cases hy : y.Ok
  · rw [if_pos hy]
    by_cases hl : 1024 ≤ s.W.length
    · rw [if_pos hl]; exact h
    · rw [if_neg hl]
      exact ⟨h.win, h.tries, allok_app h.wok (allok_one hy), by show (s.W ++ [y]).length ≤ 1024; rw [List.length_append]; have e : [y].length = 1 := rfl; omega, h.nx, h.inw, h.rise, h.below, h.top, h.bok, h.sent⟩
  · rw [if_neg hy]; exact h
theorem sdok_again {s : Sd} (h : SdOk s) : SdOk (agS s) := by
  unfold agS
  cases hb : agB s with
  | false => exact h
  | true =>
    rw [if_pos rfl]
    have hf : fstN { s with L := s.L.map fun e => (e.1, e.2 + 1) } = fstN s := by
      unfold fstN
      cases s.L <;> rfl
    have hm : ∀ e ∈ s.L.map (fun e => (e.1, e.2 + 1)), ∃ e0 ∈ s.L, e = (e0.1, e0.2 + 1) := fun e he => by
      obtain ⟨e0, h0, h1⟩ := List.mem_map.1 he
      exact ⟨e0, h0, h1.symm⟩
    refine ⟨h.win, h.tries, h.wok, h.wl, h.nx, fun e he => ?_, ?_, fun e he => ?_, by rw [hf]; exact h.top, fun e he => ?_, fun e he => ?_⟩
    · obtain ⟨e0, h0, rfl⟩ := hm e he
      rw [hf]; exact h.inw e0 h0
    · rw [hf]
      exact List.pairwise_map.2 h.rise
    · obtain ⟨e0, h0, rfl⟩ := hm e he
      rw [hf]; exact h.below e0 h0
    · obtain ⟨e0, h0, rfl⟩ := hm e he
      exact h.bok e0 h0
    · obtain ⟨e0, h0, rfl⟩ := hm e he
      have h1 := h.sent e0 h0
      have h2 : decide (e0.2 < s.tries) = true := List.all_eq_true.1 hb e0 h0
      rw [decide_eq_true_iff] at h2
      show 1 ≤ e0.2 + 1 ∧ e0.2 + 1 ≤ s.tries
      omega
theorem far_shift {f g x : Int} (h : far f g ≤ far f x) : far g x = far f x - far f g := by
  unfold far at *
  omega
theorem sdok_got {s : Sd} (h : SdOk s) (a : Ak) : SdOk (gtS s a) := by
  unfold gtS
  by_cases hg : gtB s a
  · rw [if_pos hg]
    cases hL : s.L.filter (kpt a) with
    | nil =>
      have hf : fstN { s with L := [] } = s.nx := rfl
      exact ⟨h.win, h.tries, h.wok, h.wl, h.nx, fun e he => absurd he List.not_mem_nil, List.Pairwise.nil, fun e he => absurd he List.not_mem_nil, (by rw [hf]; show far s.nx s.nx ≤ s.win; rw [far_self]; have := h.win; omega), fun e he => absurd he List.not_mem_nil, fun e he => absurd he List.not_mem_nil⟩
    | cons e1 l1 =>
      have hf : fstN { s with L := e1 :: l1 } = e1.1.1 := rfl
      have hsub : List.Sublist (e1 :: l1) s.L := hL ▸ List.filter_sublist
      have hin : ∀ e ∈ e1 :: l1, e ∈ s.L := fun e he => hsub.subset he
      have hr : (e1 :: l1).Pairwise fun e e' => far (fstN s) e.1.1 < far (fstN s) e'.1.1 := h.rise.sublist hsub
      have h1 : ∀ e ∈ e1 :: l1, far (fstN s) e1.1.1 ≤ far (fstN s) e.1.1 := fun e he => by
        rcases List.mem_cons.1 he with rfl | he
        · exact Int.le_refl _
        · exact Int.le_of_lt ((List.pairwise_cons.1 hr).1 e he)
      have hb0 := far_bd (fstN s) e1.1.1
      refine ⟨h.win, h.tries, h.wok, h.wl, h.nx, fun e he => ?_, ?_, fun e he => ?_, ?_, fun e he => h.bok e (hin e he), fun e he => h.sent e (hin e he)⟩
      · rw [hf, far_shift (h1 e he)]
        have := h.inw e (hin e he)
        show _ < s.win
        omega
      · rw [hf]
        refine List.Pairwise.imp_of_mem (fun {x y} hx hy hxy => ?_) hr
        rw [far_shift (h1 x hx), far_shift (h1 y hy)]
        omega
      · have h2 := h.below e (hin e he)
        have h3 := h.below e1 (hin e1 List.mem_cons_self)
        rw [hf, far_shift (h1 e he)]
        show _ < far e1.1.1 s.nx
        rw [far_shift (Int.le_of_lt h3)]
        omega
      · have h3 := h.below e1 (hin e1 List.mem_cons_self)
        rw [hf]
        show far e1.1.1 s.nx ≤ s.win
        rw [far_shift (Int.le_of_lt h3)]
        have := h.top
        omega
  · rw [if_neg hg]; exact h
end Go.Proofs.YtdigjklhfimnbaaGreat
namespace Go.Proofs.YtdigjklhfimnbaaGreat
set_option maxRecDepth 100000
open Go.RowKit

/-- Of the blocks that there were only those of F have turned. -/
structure Chg (F : Nat → Prop) (w w' : World) : Prop where
  os : w'.os = w.os
  tape : w'.tape = w.tape
  output : w'.output = w.output
  size : w.heap.size ≤ w'.heap.size
  block : ∀ k, k < w.heap.size → ¬ F k → w'.heap[k]? = w.heap[k]?
theorem Chg.refl (F : Nat → Prop) (w : World) : Chg F w w := ⟨rfl, rfl, rfl, Nat.le_refl _, fun _ _ _ => rfl⟩
theorem Chg.trans {F G : Nat → Prop} {a b c : World} (h : Chg F a b) (k : Chg G b c) (hG : ∀ x, x < a.heap.size → G x → F x) : Chg F a c :=
  ⟨k.os.trans h.os, k.tape.trans h.tape, k.output.trans h.output, Nat.le_trans h.size k.size, fun x hx hn => (k.block x (Nat.lt_of_lt_of_le hx h.size) (fun g => hn (hG x hx g))).trans (h.block x hx hn)⟩
theorem Chg.mono {F G : Nat → Prop} {a b : World} (h : Chg F a b) (hG : ∀ x, x < a.heap.size → F x → G x) : Chg G a b := ⟨h.os, h.tape, h.output, h.size, fun x hx hn => h.block x hx (fun f => hn (hG x hx f))⟩
theorem Chg.drew {F : Nat → Prop} {a w : World} (h : Chg F a w) : Chg F a w.drew := ⟨h.os, h.tape, h.output, h.size, h.block⟩
theorem Chg.alloc {F : Nat → Prop} {a w : World} (h : Chg F a w) (o : Obj) : Chg F a (w.alloc o) :=
  h.trans (G := fun _ => False) ⟨rfl, rfl, rfl, by simp, fun k hk _ => Below.heap_alloc _ _ _ hk⟩ (fun _ _ h => h.elim)
theorem Chg.setCell {F : Nat → Prop} {a w : World} (h : Chg F a w) {p : Addr} (hp : F p.block ∨ a.heap.size ≤ p.block) (u : Value) : Chg F a (w.setCell p u) :=
  h.trans (G := fun k => k = p.block) ⟨rfl, rfl, rfl, by simp [World.setCell], fun k _ hk => Below.heap_setCell _ _ _ _ hk⟩ (fun x hx e => hp.elim (fun f => by rw [e]; exact f) (fun g => absurd hx (by rw [e]; omega)))
theorem Chg.grown {F : Nat → Prop} {a w w' : World} {row : Option Nat} (h : Chg F a w) (hg : w.grownBy w' row) (hr : ∀ k, row = some k → F k ∨ a.heap.size ≤ k) : Chg F a w' :=
  h.trans (G := fun k => row = some k) ⟨hg.os, hg.tape, hg.output, hg.size, fun k hk hn => hg.block k hk (fun e => hn e.symm)⟩ (fun x hx e => (hr x e).elim (fun f => f) (fun g => absurd hx (by omega)))
theorem chg0 {F : Nat → Prop} {w w' : World} (h : Below w.heap.size w w') : Chg F w w' := ⟨h.os, h.tape, h.output, h.size, fun k hk _ => h.block k hk⟩
theorem Chg.below {F : Nat → Prop} {B : Nat} {w w' : World} (h : Chg F w w') (hB : B ≤ w.heap.size) (hF : ∀ k, F k → B ≤ k) : Below B w w' :=
  ⟨h.os, h.tape, h.output, h.size, fun k hk => h.block k (by omega) (fun f => by have := hF k f; omega)⟩
theorem Chg.cell {F : Nat → Prop} {w w' : World} (h : Chg F w w') {b j : Nat} (hb : b < w.heap.size) (hn : ¬ F b) : w'.cell? ⟨b, j, none⟩ = w.cell? ⟨b, j, none⟩ := World.cell?_of_block (h.block b hb hn)
theorem Chg.frozen {F : Nat → Prop} {w w' : World} (h : Chg F w w') {b j : Nat} (hb : b < w.heap.size) (hn : ¬ F b) : w'.frozen? ⟨b, j, none⟩ = w.frozen? ⟨b, j, none⟩ := by
  have := h.block b hb hn
  simp only [World.frozen?, this]
/-- A slice that reads as objects, off the blocks of F, in a block of objects. -/
def OsO (w : World) (F : Nat → Prop) (v : Value) (ys : List Ob) : Prop := Os w v ys ∧ ∀ a n c, v = .slice (some a) n c → ys ≠ [] → ¬ F a.block ∧ ∃ cur fz, w.heap[a.block]? = some (.cells cur 41 fz)
/-- A slice that reads as batches, off the blocks of F, its objects too. -/
def BtsO (w : World) (F : Nat → Prop) (v : Value) (bs : List Bt) : Prop :=
  (∃ a cap, v = .slice a 0 cap ∧ (a = none → cap = 0) ∧ bs = []) ∨
  ∃ b off cap, v = .slice (some ⟨b, off, none⟩) bs.length cap ∧ bs.length ≤ cap ∧ b < w.heap.size ∧ ¬ F b ∧ ∀ i, i < bs.length → w.cell? ⟨b, off + i * 2, none⟩ = some (.int .i64 (bs.getD i zb).1) ∧ ∃ u, w.cell? ⟨b, off + i * 2 + 1, none⟩ = some u ∧ u.oneCell' = true ∧ OsO w F u (bs.getD i zb).2
theorem Os.chg {F : Nat → Prop} {w w' : World} {v : Value} {ys : List Ob} (h : Os w v ys) (hc : Chg F w w') (hv : ∀ a n c, v = .slice (some a) n c → ys ≠ [] → ¬ F a.block) : Os w' v ys := by
  by_cases hn : ys = []
  · subst hn
    rcases h with h | ⟨b, off, cap, rfl, h2, h3, _⟩
    · exact .inl h
    · exact .inl ⟨some ⟨b, off, none⟩, cap, rfl, (fun e => nomatch e), rfl⟩
  · rcases h with h | ⟨b, off, cap, rfl, h2, h3, h4⟩
    · exact .inl h
    · exact .inr ⟨b, off, cap, rfl, h2, Nat.lt_of_lt_of_le h3 hc.size, fun i hi j hj => (hc.cell h3 (hv _ _ _ rfl hn)).trans (h4 i hi j hj)⟩
theorem some_lt {w : World} {b : Nat} {o : Obj} (h : w.heap[b]? = some o) : b < w.heap.size := (Array.getElem?_eq_some_iff.1 h).1
theorem OsO.chg {F : Nat → Prop} {w w' : World} {v : Value} {ys : List Ob} (h : OsO w F v ys) (hc : Chg F w w') : OsO w' F v ys :=
  ⟨h.1.chg hc (fun a n c e hn => (h.2 a n c e hn).1), fun a n c e hn => by
    obtain ⟨h1, cur, fz, h2⟩ := h.2 a n c e hn
    exact ⟨h1, cur, fz, (hc.block a.block (some_lt h2) h1).trans h2⟩⟩
theorem OsO.to {F F' : Nat → Prop} {w : World} {v : Value} {ys : List Ob} (h : OsO w F v ys) (hF : ∀ k, F' k → F k ∨ w.heap.size ≤ k) : OsO w F' v ys :=
  ⟨h.1, fun a n c e hn => by
    obtain ⟨h1, cur, fz, h2⟩ := h.2 a n c e hn
    refine ⟨fun hf => ?_, cur, fz, h2⟩
    rcases hF _ hf with g | g
    · exact h1 g
    · have := some_lt h2; omega⟩
theorem BtsO.chg {F : Nat → Prop} {w w' : World} {v : Value} {bs : List Bt} (h : BtsO w F v bs) (hc : Chg F w w') : BtsO w' F v bs := by
  rcases h with h | ⟨b, off, cap, h1, h2, h3, h4, h5⟩
  · exact .inl h
  · refine .inr ⟨b, off, cap, h1, h2, Nat.lt_of_lt_of_le h3 hc.size, h4, fun i hi => ?_⟩
    obtain ⟨k1, u, k2, k3, k4⟩ := h5 i hi
    exact ⟨(hc.cell h3 h4).trans k1, u, (hc.cell h3 h4).trans k2, k3, k4.chg hc⟩
theorem BtsO.to {F F' : Nat → Prop} {w : World} {v : Value} {bs : List Bt} (h : BtsO w F v bs) (hF : ∀ k, F' k → F k ∨ w.heap.size ≤ k) : BtsO w F' v bs := by
  rcases h with h | ⟨b, off, cap, h1, h2, h3, h4, h5⟩
  · exact .inl h
  · refine .inr ⟨b, off, cap, h1, h2, h3, fun hf => ?_, fun i hi => ?_⟩
    · rcases hF _ hf with g | g
      · exact h4 g
      · omega
    · obtain ⟨k1, u, k2, k3, k4⟩ := h5 i hi
      exact ⟨k1, u, k2, k3, k4.to hF⟩
theorem OsO.below {F : Nat → Prop} {w w' : World} {v : Value} {ys : List Ob} (h : OsO w F v ys) (hb : Below w.heap.size w w') : OsO w' F v ys :=
  ⟨h.1.below hb, fun a n c e hn => by
    obtain ⟨h1, cur, fz, h2⟩ := h.2 a n c e hn
    exact ⟨h1, cur, fz, (hb.block a.block (some_lt h2)).trans h2⟩⟩
theorem BtsO.below {F : Nat → Prop} {w w' : World} {v : Value} {bs : List Bt} (h : BtsO w F v bs) (hb : Below w.heap.size w w') : BtsO w' F v bs := by
  rcases h with h | ⟨b, off, cap, h1, h2, h3, h4, h5⟩
  · exact .inl h
  · refine .inr ⟨b, off, cap, h1, h2, Nat.lt_of_lt_of_le h3 hb.size, h4, fun i hi => ?_⟩
    obtain ⟨k1, u, k2, k3, k4⟩ := h5 i hi
    exact ⟨(hb.cell (p := ⟨b, off + i * 2, none⟩) h3).trans k1, u, (hb.cell (p := ⟨b, off + i * 2 + 1, none⟩) h3).trans k2, k3, k4.below hb⟩
theorem OsO.mono {F G : Nat → Prop} {w : World} {v : Value} {ys : List Ob} (h : OsO w G v ys) (hF : ∀ k, F k → G k) : OsO w F v ys := ⟨h.1, fun a n c e hn => ⟨fun hf => (h.2 a n c e hn).1 (hF _ hf), (h.2 a n c e hn).2⟩⟩
theorem BtsO.mono {F G : Nat → Prop} {w : World} {v : Value} {bs : List Bt} (h : BtsO w G v bs) (hF : ∀ k, F k → G k) : BtsO w F v bs := by
  rcases h with h | ⟨b, off, cap, h1, h2, h3, h4, h5⟩
  · exact .inl h
  · refine .inr ⟨b, off, cap, h1, h2, h3, fun hf => h4 (hF _ hf), fun i hi => ?_⟩
    obtain ⟨k1, u, k2, k3, k4⟩ := h5 i hi
    exact ⟨k1, u, k2, k3, k4.mono hF⟩
theorem BtsO.bts {F : Nat → Prop} {w : World} {v : Value} {bs : List Bt} (h : BtsO w F v bs) : Bts w v bs := by
  rcases h with ⟨a, cap, h1, _, h2⟩ | ⟨b, off, cap, h1, _, _, _, h5⟩
  · exact .inl ⟨a, cap, h1, h2⟩
  · exact .inr ⟨b, off, cap, h1, fun i hi => ⟨(h5 i hi).1, by obtain ⟨_, u, k2, _, k4⟩ := h5 i hi; exact ⟨u, k2, k4.1⟩⟩⟩
theorem BtsO.form {F : Nat → Prop} {w : World} {v : Value} {bs : List Bt} (h : BtsO w F v bs) : ∃ a c, v = .slice a bs.length c := h.bts.form
theorem OsO.form {F : Nat → Prop} {w : World} {v : Value} {ys : List Ob} (h : OsO w F v ys) : ∃ a c, v = .slice a ys.length c := h.1.form
/-- What the program's sender answers: PS w F b s: at block b lies a sender that is s, in the blocks of F. What Send and Wait answer lies in new blocks. -/
structure Dc (PS : World → (Nat → Prop) → Nat → Sd → Prop) : Prop where
  lt : ∀ {w : World} {F : Nat → Prop} {b : Nat} {s : Sd}, PS w F b s → ∀ k, F k → k < w.heap.size
  ok : ∀ {w : World} {F : Nat → Prop} {b : Nat} {s : Sd}, PS w F b s → SdOk s
  keep : ∀ {w w' : World} {F G : Nat → Prop} {b : Nat} {s : Sd}, PS w F b s → Chg G w w' → (∀ k, F k → ¬ G k) → PS w' F b s
  new : ∀ (win tries : Int) (w : World), Calls Tryz.prog 46 #[.int .i64 win, .int .i64 tries] w fun e w' => Below w.heap.size w w' ∧ ((¬ nwOk win tries ∧ e = .returned (.tuple #[.pointer none, .int .i64 1])) ∨ (nwOk win tries ∧ ∃ b F, e = .returned (.tuple #[.pointer (some ⟨b, 0, none⟩), .int .i64 0]) ∧ PS w' F b (sd0 win tries) ∧ ∀ k, F k → w.heap.size ≤ k))
  push : ∀ {w : World} {F : Nat → Prop} {b : Nat} {s : Sd} (y : Ob), PS w F b s → Calls Tryz.prog 48 #[.pointer (some ⟨b, 0, none⟩), .agg #[.int .i64 y.k, .int .i64 y.x, .bool y.n, .int .i64 y.t, .int .i64 y.o, .int .i64 y.r, .int .i64 y.d, .int .i64 y.i, .int .i64 y.p, .int .i64 y.q, .int .i64 y.s, .int .i64 y.m]] w fun e w' => e = .returned (.int .i64 (pushR s y).1) ∧ Chg F w w' ∧ ∃ F', PS w' F' b ((pushR s y).2) ∧ (∀ k, F' k → F k ∨ w.heap.size ≤ k)
  send : ∀ {w : World} {F : Nat → Prop} {b : Nat} {s : Sd}, PS w F b s → Calls Tryz.prog 50 #[.pointer (some ⟨b, 0, none⟩)] w fun e w' => ∃ r, e = .returned r ∧ Chg F w w' ∧ ∃ F', PS w' F' b (sdS s) ∧ (∀ k, F' k → F k ∨ w.heap.size ≤ k) ∧ BtsO w' (fun k => F' k ∨ k < w.heap.size) r (sdT s)
  again : ∀ {w : World} {F : Nat → Prop} {b : Nat} {s : Sd}, PS w F b s → Calls Tryz.prog 51 #[.pointer (some ⟨b, 0, none⟩)] w fun e w' => ∃ r, e = .returned (.tuple #[r, .bool (agB s)]) ∧ Chg F w w' ∧ ∃ F', PS w' F' b (agS s) ∧ (∀ k, F' k → F k ∨ w.heap.size ≤ k) ∧ BtsO w' F' r (agL s)
  got : ∀ {w : World} {F : Nat → Prop} {b : Nat} {s : Sd} (a : Ak), PS w F b s → Calls Tryz.prog 117 #[.pointer (some ⟨b, 0, none⟩), .agg #[.int .i64 a.1, .int .i64 a.2.1, .int .i64 a.2.2.1, .int .i64 a.2.2.2]] w fun e w' => e = .returned (.int .i64 (gtN s a)) ∧ Chg F w w' ∧ ∃ F', PS w' F' b (gtS s a) ∧ (∀ k, F' k → F k ∨ w.heap.size ≤ k)
  wait : ∀ {w : World} {F : Nat → Prop} {b : Nat} {s : Sd}, PS w F b s → Calls Tryz.prog 54 #[.pointer (some ⟨b, 0, none⟩)] w fun e w' => ∃ r, e = .returned r ∧ Chg F w w' ∧ ∃ F', PS w' F' b (s) ∧ (∀ k, F' k → F k ∨ w.heap.size ≤ k) ∧ OsO w' (fun k => F' k ∨ k < w.heap.size) r s.W
  out : ∀ {w : World} {F : Nat → Prop} {b : Nat} {s : Sd}, PS w F b s → Calls Tryz.prog 55 #[.pointer (some ⟨b, 0, none⟩)] w fun e w' => ∃ r, e = .returned r ∧ Chg F w w' ∧ ∃ F', PS w' F' b (s) ∧ (∀ k, F' k → F k ∨ w.heap.size ≤ k) ∧ BtsO w' F' r s.out
  pushN : ∀ (y : Ob) (w : World), Calls Tryz.prog 48 #[.pointer none, .agg #[.int .i64 y.k, .int .i64 y.x, .bool y.n, .int .i64 y.t, .int .i64 y.o, .int .i64 y.r, .int .i64 y.d, .int .i64 y.i, .int .i64 y.p, .int .i64 y.q, .int .i64 y.s, .int .i64 y.m]] w fun e w' => e = .returned (.int .i64 3) ∧ Below w.heap.size w w'
  sendN : ∀ (w : World), Calls Tryz.prog 50 #[.pointer none] w fun e w' => ∃ r, e = .returned r ∧ Bts w' r [] ∧ Below w.heap.size w w'
  againN : ∀ (w : World), Calls Tryz.prog 51 #[.pointer none] w fun e w' => ∃ r, e = .returned (.tuple #[r, .bool true]) ∧ Bts w' r [] ∧ Below w.heap.size w w'
  gotN : ∀ (a : Ak) (w : World), Calls Tryz.prog 117 #[.pointer none, .agg #[.int .i64 a.1, .int .i64 a.2.1, .int .i64 a.2.2.1, .int .i64 a.2.2.2]] w fun e w' => e = .returned (.int .i64 0) ∧ Below w.heap.size w w'
  waitN : ∀ (w : World), Calls Tryz.prog 54 #[.pointer none] w fun e w' => ∃ r, e = .returned r ∧ Os w' r [] ∧ Below w.heap.size w w'
  outN : ∀ (w : World), Calls Tryz.prog 55 #[.pointer none] w fun e w' => ∃ r, e = .returned r ∧ Bts w' r [] ∧ Below w.heap.size w w'
/-- A sender that was made since w0. -/
structure One (PS : World → (Nat → Prop) → Nat → Sd → Prop) (w0 w : World) (F : Nat → Prop) (b : Nat) (s : Sd) : Prop where
  ps : PS w F b s
  new : ∀ k, F k → w0.heap.size ≤ k
  bel : Below w0.heap.size w0 w
section
variable {PS : World → (Nat → Prop) → Nat → Sd → Prop} {w0 w w' : World} {F F' : Nat → Prop} {b : Nat} {s s' : Sd}
theorem One.below (dc : Dc PS) (h : One PS w0 w F b s) (hb : Below w.heap.size w w') : One PS w0 w' F b s :=
  ⟨dc.keep h.ps (G := fun _ => False) (chg0 hb) (fun _ _ g => g), h.new, h.bel.trans (hb.mono h.bel.size)⟩
end
/-- One object makes one batch. -/
theorem pack_one {y : Ob} (n : Int) : packL 512 [y] n = [(lft n, [y])] := by
  obtain ⟨k1, k2, _⟩ := cut_spec 512 [y] (A := 0) (show 0 < 1 by decide)
  have k3 : cutTo 512 [y] 0 = 1 := by have e : [y].length = 1 := rfl; omega
  show packF 512 [y] 1 0 (lft n) = _
  rw [packF_cons (show 0 < 1 by decide), k3]
  rfl
theorem send_one {win tries n : Int} {y : Ob} (hw : 1 ≤ win) (hn : 0 ≤ n ∧ n ≤ 65535) : sdT ⟨win, tries, [y], [], n⟩ = [(n, [y])] ∧ sdS ⟨win, tries, [y], [], n⟩ = ⟨win, tries, [], [((n, [y]), 1)], nxt n⟩ := by
  have e0 : lft n = n := by unfold lft; omega
  have e1 : sdT ⟨win, tries, [y], [], n⟩ = [(n, [y])] := by
    unfold sdT
    show (packL 512 [y] n).takeWhile (fun p => decide (far n p.1 < win)) = _
    rw [pack_one, e0, List.takeWhile_cons]
    have : decide (far n n < win) = true := decide_eq_true (by rw [far_self]; omega)
    show (if decide (far n n < win) = true then _ else _) = _
    rw [if_pos this]
    rfl
  refine ⟨e1, ?_⟩
  unfold sdS
  rw [e1]
  rfl
end Go.Proofs.YtdigjklhfimnbaaGreat
namespace Go.Proofs.YtdigjklhfimnbaaGreat
set_option maxRecDepth 100000
open Go.RowKit

/-- Objects of one's own. -/
def OwO (w : World) (S : Nat) (v : Value) (ys : List Ob) : Prop := w.ownsRow S 41 12 v ys.length (flat ys)
theorem OwO_nil (w : World) (S : Nat) : OwO w S (.slice none 0 0) [] := ⟨rfl, .inl ⟨rfl, rfl⟩⟩
theorem OwO.os {w : World} {S : Nat} {v : Value} {ys : List Ob} (h : OwO w S v ys) : Os w v ys := (Os_of_own h).1
theorem OwO.below {w w' : World} {S : Nat} {v : Value} {ys : List Ob} (h : OwO w S v ys) (hb : Below w.heap.size w w') : OwO w' S v ys := own_below h hb
theorem own_chg {F : Nat → Prop} {w w' : World} {S size n : Nat} {e : TypeId} {v : Value} {xs : List Value} (h : w.ownsRow S e size v n xs) (hc : Chg F w w') (hv : ∀ g, v.ownBlock = some g → ¬ F g) : w'.ownsRow S e size v n xs := by
  refine ⟨h.1, ?_⟩
  rcases h.2 with h2 | ⟨g, cap, cur, rfl, h3, hg, rest⟩
  · exact .inl h2
  · exact .inr ⟨g, cap, cur, rfl, h3, (hc.block g (some_lt hg) (hv g rfl)).trans hg, rest⟩
/-- A whole readable slice of objects behind a row of one's own. -/
theorem run_gappo (w : World) (ty : TypeId) (S : Nat) (v : Value) (xs : List Ob) (hown : OwO w S v xs) (u : Value) (ys : List Ob) (hu : Os w u ys) (hl : xs.length + ys.length ≤ 30000) (hS : S ≤ w.heap.size) :
    ∃ r w', (Builtin.append_ #[31, 31] ty #[v, u]).run Tryz.prog w = .ok r w' ∧ OwO w' S r (xs ++ ys) ∧ w.grownBy w' v.ownBlock ∧ (∀ g, r.ownBlock = some g → v.ownBlock = some g ∨ w.heap.size ≤ g) := by
  obtain ⟨i0, hi, hz0, hz1, hz2⟩ := info_parts infoOB
  have e : flat (xs ++ ys) = flat xs ++ flat ys := flat_app xs ys
  have e2 : (xs ++ ys).length = xs.length + ys.length := by simp
  have hfy : (flat ys).length = ys.length * 12 := flat_len ys
  have hone := flat_ones ys
  have hby : (xs.length + ys.length) * 96 ≤ 140737488355328 := Nat.le_trans (Nat.mul_le_mul_right 96 hl) (by decide)
  have go : ∀ (a : Addr) (c : Nat), (∀ j q, (flat ys)[j]? = some q → w.cell? (a.add j) = some q) →
      ∃ r w', (Builtin.append_ #[31, 31] ty #[v, .slice (some a) ys.length c]).run Tryz.prog w = .ok r w' ∧ OwO w' S r (xs ++ ys) ∧ w.grownBy w' v.ownBlock ∧ (∀ g, r.ownBlock = some g → v.ownBlock = some g ∨ w.heap.size ≤ g) := by
    intro a c hnews
    obtain ⟨v', w', hr, h2, h3, _, h5⟩ := run_append_own_at (P := Tryz.prog) w S 31 ty 41 i0 _ 12 96 underSL hi hz0 hz1 hz2 rfl (by decide) v xs.length (flat xs) hown a ys.length c (flat ys) hfy hnews hone (by unfold maxLen; omega) hby hS
    refine ⟨v', w', hr, ?_, h3, fun g hg => ?_⟩
    · unfold OwO
      rw [e, e2]; exact h2
    · rcases h5 with h | h
      · exact .inl (h ▸ hg)
      · rw [h] at hg
        exact .inr (by cases hg; exact Nat.le_refl _)
  rcases hu with ⟨a, cap, rfl, hc, rfl⟩ | ⟨b, off, cap, rfl, h2, h3, h4⟩
  · cases a with
    | none =>
      obtain rfl := hc rfl
      refine ⟨v, w, run_append_owned_none (P := Tryz.prog) (w := w) S 31 ty 41 i0 12 underSL hi v xs.length (flat xs) hown, ?_, ⟨rfl, rfl, rfl, Nat.le_refl _, fun _ _ _ => rfl⟩, fun g hg => .inl hg⟩
      exact (congrArg (fun z : List Ob => OwO w S v z) (List.append_nil xs)).mpr hown
    | some a => exact go a cap (fun j q hj => by simp [flat] at hj)
  · exact go ⟨b, off, none⟩ cap (flat_news h4)
/-- A row of batches of one's own, whose objects lie off the blocks of F. -/
def SentR (w : World) (S : Nat) (F : Nat → Prop) (v : Value) (l : List Bt) : Prop :=
  (∀ g, v.ownBlock = some g → ¬ F g) ∧ ∃ vs : List (Int × Value), vs.length = l.length ∧ w.ownsRow S 143 2 v l.length (flat2 vs) ∧
    ∀ i, i < l.length → (vs.getD i zv).1 = (l.getD i zb).1 ∧ (vs.getD i zv).2.oneCell' = true ∧ OsO w F (vs.getD i zv).2 (l.getD i zb).2
theorem SentR.below {w w' : World} {S : Nat} {F : Nat → Prop} {v : Value} {l : List Bt} (h : SentR w S F v l) (hb : Below w.heap.size w w') : SentR w' S F v l := by
  obtain ⟨h0, vs, h1, h2, h3⟩ := h
  exact ⟨h0, vs, h1, own_below h2 hb, fun i hi => ⟨(h3 i hi).1, (h3 i hi).2.1, (h3 i hi).2.2.below hb⟩⟩
theorem SentR.form {w : World} {S : Nat} {F : Nat → Prop} {v : Value} {l : List Bt} (h : SentR w S F v l) : ∃ a c, v = .slice a l.length c := by
  obtain ⟨h0, vs, h1, h2, h3⟩ := h
  rcases h2.2 with ⟨h4, h5⟩ | ⟨g, cap, cur, h4, _⟩
  · exact ⟨none, 0, by rw [h4, h5]⟩
  · exact ⟨_, _, h4⟩
theorem flat2_at : ∀ (vs : List (Int × Value)) (i j : Nat), i < vs.length → j < 2 → (flat2 vs)[i * 2 + j]? = (c2 (vs.getD i zv))[j]?
  | [], i, j, h, _ => absurd h (Nat.not_lt_zero i)
  | p :: vs, 0, j, _, hj => by
    simp only [flat2, List.flatMap_cons, Nat.zero_mul, Nat.zero_add, List.getD_cons_zero]
    rw [List.getElem?_append_left (by show j < 2; exact hj)]
  | p :: vs, i + 1, j, h, hj => by
    have ih := flat2_at vs i j (by simpa using h) hj
    simp only [flat2, List.flatMap_cons, List.getD_cons_succ] at *
    rw [List.getElem?_append_right (by show 2 ≤ _; omega), show (i + 1) * 2 + j - (c2 p).length = i * 2 + j by show (i + 1) * 2 + j - 2 = _; omega]
    exact ih
theorem SentR.bts {w : World} {S : Nat} {F : Nat → Prop} {v : Value} {l : List Bt} (h : SentR w S F v l) : Bts w v l := by
  obtain ⟨h0, vs, h1, h2, h3⟩ := h
  rcases h2.2 with ⟨h4, h5⟩ | ⟨g, cap, cur, h4, _, hg, _, _, hcs, htake⟩
  · exact .inl ⟨none, 0, h4, List.eq_nil_of_length_eq_zero h5⟩
  · refine .inr ⟨g, 0, cap, h4, fun i hi => ?_⟩
    have hc : ∀ j, j < 2 → w.cell? ⟨g, 0 + i * 2 + j, none⟩ = (c2 (vs.getD i zv))[j]? := fun j hj => by
      rw [cell_of_row w g _ cur 143 (0, 0) hg, Nat.zero_add, ← flat2_at vs i j (by omega) hj, ← htake, List.getElem?_take, if_pos (by omega)]
      simp
    have e0 := hc 0 (by decide)
    have e1 := hc 1 (by decide)
    obtain ⟨k1, k2, k3⟩ := h3 i hi
    exact ⟨by rw [← k1]; exact e0, (vs.getD i zv).2, e1, k3.1⟩
end Go.Proofs.YtdigjklhfimnbaaGreat
