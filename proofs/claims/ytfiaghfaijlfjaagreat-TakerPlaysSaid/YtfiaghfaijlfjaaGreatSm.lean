/- A sender: what waits, what is out, and how often that was sent; what its calls turn. That what the calls leave is right. No conditions. A sender: what Send sends: as many as fit, each number the next one's; what it leaves is right; a second one sends nothing; objects in their order; what is out is among what was sent, and no more than the window. No conditions. Rows of objects and of batches that lie off some blocks; what the program's sender is asked to answer, over whatever it keeps; one of one's own. No conditions. One object, sent again and again; the document's examples (awake). No conditions. Acks and scripts of calls as arguments. No conditions. append of a whole slice: of objects to objects of one's own, of batches to batches of one's own whose objects are another's. No conditions but on lengths. append of a whole slice of batches. What is greedily found. No conditions but on lengths. One batch of a row of them, as a slice; what a push leaves out. No conditions. Rows of objects of one's own that lie off the blocks of F, and off each other. What Again, Got leave as it was. No conditions. What is sent, one batch behind the other, behind a row of objects of one's own. No conditions. -/
import Derived.Test.YtfiaghfaijlfjaaGreatOps
import Derived.Test.YtfiaghfaijlfjaaGreatBma
import Derived.Test.YtfiaghfaijlfjaaGreatZfa
import Derived.Test.YtfiaghfaijlfjaaGreatAkp
import Derived.Test.YtfiaghfaijlfjaaGreatGsp
import Derived.Test.YtfiaghfaijlfjaaGreatWit
import Derived.Test.YtfiaghfaijlfjaaGreatOsa
import Derived.Deep.Cut
import Derived.Deep.CutBlock
import Derived.Deep.RegionHeld
import Derived.Shelf.RegionOpenPlain
namespace Go.Proofs.YtfiaghfaijlfjaaGreat
set_option maxRecDepth 100000

abbrev Bt := Int × List Ob
abbrev Ak := Int × Int × Int × Int
/-- A sender: its window, its tries, what waits, what is out and how often that was sent, the next number. -/
structure Sd where
  win : Int
  tries : Int
  W : List Ob
  L : List (Bt × Int)
  nx : Int
def Sd.out (s : Sd) : List Bt := s.L.map Prod.fst
def nwOk (win tries : Int) : Prop := (1 ≤ win ∧ win ≤ 16) ∧ 1 ≤ tries ∧ tries ≤ 100
instance (win tries : Int) : Decidable (nwOk win tries) := by unfold nwOk; infer_instance
def sd0 (win tries : Int) : Sd := ⟨win, tries, [], [], 0⟩
def fstN (s : Sd) : Int := match s.L with
  | [] => s.nx
  | e :: _ => e.1.1
def pushR (s : Sd) (y : Ob) : Int × Sd := if y.Ok then (if 1024 ≤ s.W.length then (8, s) else (0, { s with W := s.W ++ [y] })) else (1, s)
/-- What is sent: of the batches as many as fit. -/
def sdT (s : Sd) : List Bt := (packL 512 s.W s.nx).takeWhile fun p => decide (far (fstN s) p.1 < s.win)
def cnt (l : List Bt) : Nat := (l.map fun p => p.2.length).sum
def nxA (nx : Int) (l : List Bt) : Int := numAt nx l.length
def sdS (s : Sd) : Sd := { s with W := s.W.drop (cnt (sdT s)), L := s.L ++ (sdT s).map fun p => (p, 1), nx := nxA s.nx (sdT s) }
def agB (s : Sd) : Bool := s.L.all fun e => decide (e.2 < s.tries)
def agL (s : Sd) : List Bt := if agB s = true then s.out else []
def agS (s : Sd) : Sd := if agB s = true then { s with L := s.L.map fun e => (e.1, e.2 + 1) } else s
def gtB (s : Sd) (a : Ak) : Prop := AkOne a ∧ far (fstN s) a.2.2.1 ≤ far (fstN s) s.nx
instance (s : Sd) (a : Ak) : Decidable (gtB s a) := by unfold gtB; infer_instance
def kpt (a : Ak) (e : Bt × Int) : Bool := !hasN a.2.2.1 a.2.2.2 e.1.1
def gtS (s : Sd) (a : Ak) : Sd := if gtB s a then { s with L := s.L.filter (kpt a) } else s
def gtN (s : Sd) (a : Ak) : Nat := s.L.length - (gtS s a).L.length
/-- What is out lies within the window, from the first one on, each further than the one ahead of it, and the next number behind them all. -/
structure SdOk (s : Sd) : Prop where
  win : 1 ≤ s.win ∧ s.win ≤ 16
  tries : 1 ≤ s.tries ∧ s.tries ≤ 100
  wok : AllOk s.W
  wl : s.W.length ≤ 1024
  nx : 0 ≤ s.nx ∧ s.nx ≤ 65535
  inw : ∀ e ∈ s.L, far (fstN s) e.1.1 < s.win
  rise : s.L.Pairwise fun e e' => far (fstN s) e.1.1 < far (fstN s) e'.1.1
  below : ∀ e ∈ s.L, far (fstN s) e.1.1 < far (fstN s) s.nx
  top : far (fstN s) s.nx ≤ s.win
  bok : ∀ e ∈ s.L, BtOk e.1.1 e.1.2
  sent : ∀ e ∈ s.L, 1 ≤ e.2 ∧ e.2 ≤ s.tries
theorem far_self (a : Int) : far a a = 0 := by unfold far; omega
theorem sdok_new {win tries : Int} (h : nwOk win tries) : SdOk (sd0 win tries) :=
  ⟨h.1, h.2, fun i hi => absurd hi (Nat.not_lt_zero i), Nat.zero_le _, ⟨Int.le_refl 0, (show (0 : Int) ≤ 65535 by decide)⟩, fun e he => absurd he List.not_mem_nil, List.Pairwise.nil, fun e he => absurd he List.not_mem_nil, (by show far 0 0 ≤ win; rw [far_self]; have := h.1.1; omega), fun e he => absurd he List.not_mem_nil, fun e he => absurd he List.not_mem_nil⟩
theorem allok_app {xs ys : List Ob} (hx : AllOk xs) (hy : AllOk ys) : AllOk (xs ++ ys) := fun i hi => by
  by_cases h : i < xs.length
  · have e : (xs ++ ys).getD i z12 = xs.getD i z12 := by simp [List.getD, List.getElem?_append, h]
    rw [e]; exact hx i h
  · have e : (xs ++ ys).getD i z12 = ys.getD (i - xs.length) z12 := by simp [List.getD, List.getElem?_append, h]
    rw [e]; exact hy _ (by rw [List.length_append] at hi; omega)
theorem allok_one {y : Ob} (h : y.Ok) : AllOk [y] := fun i hi => by
  have hi' : i < 1 := hi
  obtain rfl : i = 0 := by omega
  exact h
theorem allok_drop {ys : List Ob} (h : AllOk ys) (k : Nat) : AllOk (ys.drop k) := fun i hi => by
  have e : (ys.drop k).getD i z12 = ys.getD (k + i) z12 := by simp [List.getD]
  rw [e]
  exact h _ (by rw [List.length_drop] at hi; omega)
theorem sdok_push {s : Sd} (h : SdOk s) (y : Ob) : SdOk (pushR s y).2 := by
  unfold pushR
  by_cases hy : y.Ok
  · rw [if_pos hy]
    by_cases hl : 1024 ≤ s.W.length
    · rw [if_pos hl]; exact h
    · rw [if_neg hl]
      exact ⟨h.win, h.tries, allok_app h.wok (allok_one hy), by show (s.W ++ [y]).length ≤ 1024; rw [List.length_append]; have e : [y].length = 1 := rfl; omega, h.nx, h.inw, h.rise, h.below, h.top, h.bok, h.sent⟩
  · rw [if_neg hy]; exact h
theorem sdok_again {s : Sd} (h : SdOk s) : SdOk (agS s) := by
  unfold agS
  cases hb : agB s with
  | false => exact h
  | true =>
    rw [if_pos rfl]
    have hf : fstN { s with L := s.L.map fun e => (e.1, e.2 + 1) } = fstN s := by
      unfold fstN
      cases s.L <;> rfl
    have hm : ∀ e ∈ s.L.map (fun e => (e.1, e.2 + 1)), ∃ e0 ∈ s.L, e = (e0.1, e0.2 + 1) := fun e he => by
      obtain ⟨e0, h0, h1⟩ := List.mem_map.1 he
      exact ⟨e0, h0, h1.symm⟩
    refine ⟨h.win, h.tries, h.wok, h.wl, h.nx, fun e he => ?_, ?_, fun e he => ?_, by rw [hf]; exact h.top, fun e he => ?_, fun e he => ?_⟩
    · obtain ⟨e0, h0, rfl⟩ := hm e he
      rw [hf]; exact h.inw e0 h0
    · rw [hf]
      exact List.pairwise_map.2 h.rise
    · obtain ⟨e0, h0, rfl⟩ := hm e he
      rw [hf]; exact h.below e0 h0
    · obtain ⟨e0, h0, rfl⟩ := hm e he
      exact h.bok e0 h0
    · obtain ⟨e0, h0, rfl⟩ := hm e he
      have h1 := h.sent e0 h0
      have h2 : decide (e0.2 < s.tries) = true := List.all_eq_true.1 hb e0 h0
      rw [decide_eq_true_iff] at h2
      show 1 ≤ e0.2 + 1 ∧ e0.2 + 1 ≤ s.tries
      omega
theorem far_shift {f g x : Int} (h : far f g ≤ far f x) : far g x = far f x - far f g := by
  unfold far at *
  omega
theorem sdok_got {s : Sd} (h : SdOk s) (a : Ak) : SdOk (gtS s a) := by
  unfold gtS
  by_cases hg : gtB s a
  · rw [if_pos hg]
    cases hL : s.L.filter (kpt a) with
    | nil =>
      have hf : fstN { s with L := [] } = s.nx := rfl
      exact ⟨h.win, h.tries, h.wok, h.wl, h.nx, fun e he => absurd he List.not_mem_nil, List.Pairwise.nil, fun e he => absurd he List.not_mem_nil, (by rw [hf]; show far s.nx s.nx ≤ s.win; rw [far_self]; have := h.win; omega), fun e he => absurd he List.not_mem_nil, fun e he => absurd he List.not_mem_nil⟩
    | cons e1 l1 =>
      have hf : fstN { s with L := e1 :: l1 } = e1.1.1 := rfl
      have hsub : List.Sublist (e1 :: l1) s.L := hL ▸ List.filter_sublist
      have hin : ∀ e ∈ e1 :: l1, e ∈ s.L := fun e he => hsub.subset he
      have hr : (e1 :: l1).Pairwise fun e e' => far (fstN s) e.1.1 < far (fstN s) e'.1.1 := h.rise.sublist hsub
      have h1 : ∀ e ∈ e1 :: l1, far (fstN s) e1.1.1 ≤ far (fstN s) e.1.1 := fun e he => by
        rcases List.mem_cons.1 he with rfl | he
        · exact Int.le_refl _
        · exact Int.le_of_lt ((List.pairwise_cons.1 hr).1 e he)
      have hb0 := far_bd (fstN s) e1.1.1
      refine ⟨h.win, h.tries, h.wok, h.wl, h.nx, fun e he => ?_, ?_, fun e he => ?_, ?_, fun e he => h.bok e (hin e he), fun e he => h.sent e (hin e he)⟩
      · rw [hf, far_shift (h1 e he)]
        have := h.inw e (hin e he)
        show _ < s.win
        omega
      · rw [hf]
        refine List.Pairwise.imp_of_mem (fun {x y} hx hy hxy => ?_) hr
        rw [far_shift (h1 x hx), far_shift (h1 y hy)]
        omega
      · have h2 := h.below e (hin e he)
        have h3 := h.below e1 (hin e1 List.mem_cons_self)
        rw [hf, far_shift (h1 e he)]
        show _ < far e1.1.1 s.nx
        rw [far_shift (Int.le_of_lt h3)]
        omega
      · have h3 := h.below e1 (hin e1 List.mem_cons_self)
        rw [hf]
        show far e1.1.1 s.nx ≤ s.win
        rw [far_shift (Int.le_of_lt h3)]
        have := h.top
        omega
  · rw [if_neg hg]; exact h
end Go.Proofs.YtfiaghfaijlfjaaGreat

namespace Go.Proofs.YtfiaghfaijlfjaaGreat
set_option maxRecDepth 100000

theorem numAt_succ (n : Int) (i : Nat) : numAt n (i + 1) = nxt (numAt n i) := by
  induction i generalizing n with
  | zero => rfl
  | succ i ih => exact ih (nxt n)
theorem numAt_add (n : Int) (i j : Nat) : numAt n (i + j) = numAt (numAt n i) j := by
  induction i generalizing n with
  | zero => rw [Nat.zero_add]; rfl
  | succ i ih =>
    rw [show i + 1 + j = (i + j) + 1 by omega]
    exact ih (nxt n)
theorem numAt_rng {n : Int} (h : 0 ≤ n ∧ n ≤ 65535) (i : Nat) : 0 ≤ numAt n i ∧ numAt n i ≤ 65535 := by
  cases i with
  | zero => exact h
  | succ i => rw [numAt_succ]; exact nxt_rng _
theorem far_nxt {f x : Int} (h : far f x < 65535) : far f (nxt x) = far f x + 1 := by
  unfold far nxt at *
  omega
theorem far_same {a b : Int} (ha : 0 ≤ a ∧ a ≤ 65535) (hb : 0 ≤ b ∧ b ≤ 65535) (h : far a b = 0) : a = b := by
  unfold far at h
  omega
/-- What is sent, and what is not. -/
theorem sdT_split (s : Sd) : ∃ R, packL 512 s.W s.nx = sdT s ++ R ∧ ∀ p l, R = p :: l → ¬ far (fstN s) p.1 < s.win := by
  refine ⟨(packL 512 s.W s.nx).dropWhile fun p => decide (far (fstN s) p.1 < s.win), (List.takeWhile_append_dropWhile ..).symm, fun p l h => ?_⟩
  have := List.head?_dropWhile_not (fun p : Bt => decide (far (fstN s) p.1 < s.win)) (packL 512 s.W s.nx)
  rw [h] at this
  simpa using this
theorem sdT_in {s : Sd} {p : Bt} (h : p ∈ sdT s) : far (fstN s) p.1 < s.win := by
  have := List.all_eq_true.1 (List.all_takeWhile (p := fun p : Bt => decide (far (fstN s) p.1 < s.win)) (l := packL 512 s.W s.nx)) p h
  simpa using this
theorem getD_app {α : Type} {xs ys : List α} {i : Nat} {d : α} (h : i < xs.length) : (xs ++ ys).getD i d = xs.getD i d := by simp [List.getD, List.getElem?_append, h]
theorem getD_mem {α : Type} {xs : List α} {i : Nat} {d : α} (h : i < xs.length) : xs.getD i d ∈ xs := by
  have : xs.getD i d = xs[i] := by simp [List.getD, h]
  rw [this]; exact List.getElem_mem h
/-- Objects go in their order. -/
theorem send_all (s : Sd) : ((sdT s).map Prod.snd).flatten ++ (sdS s).W = s.W := by
  obtain ⟨R, hR, _⟩ := sdT_split s
  have hall := packL_all 512 s.W s.nx
  rw [hR, List.map_append, List.flatten_append] at hall
  have hc : cnt (sdT s) = ((sdT s).map Prod.snd).flatten.length := by
    unfold cnt
    rw [List.length_flatten, List.map_map]
    rfl
  show _ ++ s.W.drop (cnt (sdT s)) = s.W
  rw [hc]
  conv => lhs; rw [← hall]
  conv => rhs; rw [← hall]
  rw [List.length_flatten] 
  have e : ((((sdT s).map Prod.snd).flatten ++ (R.map Prod.snd).flatten).drop (((sdT s).map Prod.snd).flatten).length) = (R.map Prod.snd).flatten := List.drop_left ..
  rw [List.length_flatten] at e
  rw [e]
section
variable {s : Sd} (h : SdOk s)
include h
theorem lft_nx : lft s.nx = s.nx := by unfold lft; have := h.nx; omega
theorem sdT_num (i : Nat) (hi : i < (sdT s).length) : ((sdT s).getD i zb).1 = numAt s.nx i := by
  obtain ⟨R, hR, _⟩ := sdT_split s
  have hl : i < (packL 512 s.W s.nx).length := by rw [hR, List.length_append]; omega
  have := packL_num 512 s.W s.nx i hl
  rw [lft_nx h, hR, getD_app hi] at this
  exact this
theorem sdT_far (i : Nat) (hi : i < (sdT s).length) : far (fstN s) (numAt s.nx i) = far (fstN s) s.nx + i := by
  induction i with
  | zero => show far (fstN s) s.nx = _; simp
  | succ i ih =>
    have h1 := ih (by omega)
    have h2 := sdT_in (getD_mem (d := zb) (show i < (sdT s).length by omega))
    rw [sdT_num h i (by omega)] at h2
    have hw := h.win
    rw [numAt_succ, far_nxt (by omega), h1]
    omega
theorem sdT_top : far (fstN s) (nxA s.nx (sdT s)) = far (fstN s) s.nx + (sdT s).length ∧ far (fstN s) s.nx + (sdT s).length ≤ s.win := by
  unfold nxA
  cases hl : (sdT s).length with
  | zero => exact ⟨by show far (fstN s) s.nx = _; simp, by have := h.top; omega⟩
  | succ k =>
    have h1 := sdT_far h k (by omega)
    have h2 := sdT_in (getD_mem (d := zb) (show k < (sdT s).length by omega))
    rw [sdT_num h k (by omega)] at h2
    have hw := h.win
    exact ⟨by rw [numAt_succ, far_nxt (by omega), h1]; omega, by omega⟩
theorem fst_send : fstN (sdS s) = fstN s := by
  unfold sdS
  cases hL : s.L with
  | cons e l => unfold fstN; rw [hL]; rfl
  | nil =>
    cases hT : sdT s with
    | nil => unfold fstN nxA; rw [hL]; rfl
    | cons p l =>
      have := sdT_num h 0 (by rw [hT]; exact Nat.zero_lt_succ _)
      rw [hT] at this
      unfold fstN
      rw [hL]
      exact this
theorem sdok_send : SdOk (sdS s) := by
  have hf := fst_send h
  obtain ⟨t1, t2⟩ := sdT_top h
  have hmem : ∀ e ∈ (sdS s).L, e ∈ s.L ∨ ∃ i, i < (sdT s).length ∧ e = ((sdT s).getD i zb, 1) := fun e he => by
    rcases List.mem_append.1 he with he | he
    · exact .inl he
    · obtain ⟨p, hp, rfl⟩ := List.mem_map.1 he
      obtain ⟨i, hi, rfl⟩ := List.mem_iff_getElem.1 hp
      exact .inr ⟨i, hi, by simp [List.getD, hi]⟩
  have hfar : ∀ i, i < (sdT s).length → far (fstN s) ((sdT s).getD i zb).1 = far (fstN s) s.nx + i := fun i hi => by rw [sdT_num h i hi]; exact sdT_far h i hi
  have hd0 := far_bd (fstN s) s.nx
  refine ⟨h.win, h.tries, allok_drop h.wok _, by show (s.W.drop _).length ≤ 1024; rw [List.length_drop]; have := h.wl; omega, numAt_rng h.nx _, fun e he => ?_, ?_, fun e he => ?_, by rw [hf]; show far (fstN s) (nxA s.nx (sdT s)) ≤ s.win; omega, fun e he => ?_, fun e he => ?_⟩
  · rw [hf]
    rcases hmem e he with h1 | ⟨i, hi, rfl⟩
    · exact h.inw e h1
    · exact sdT_in (getD_mem hi)
  · rw [hf]
    show (s.L ++ (sdT s).map fun p => (p, (1 : Int))).Pairwise _
    rw [List.pairwise_append]
    refine ⟨h.rise, ?_, fun x hx y hy => ?_⟩
    · rw [List.pairwise_map, List.pairwise_iff_getElem]
      intro i j hi hj hij
      have e1 := hfar i hi
      have e2 := hfar j hj
      have g1 : (sdT s).getD i zb = (sdT s)[i] := by simp [List.getD, hi]
      have g2 : (sdT s).getD j zb = (sdT s)[j] := by simp [List.getD, hj]
      rw [g1] at e1
      rw [g2] at e2
      show far (fstN s) (sdT s)[i].1 < far (fstN s) (sdT s)[j].1
      omega
    · obtain ⟨p, hp, rfl⟩ := List.mem_map.1 hy
      obtain ⟨i, hi, rfl⟩ := List.mem_iff_getElem.1 hp
      have g1 : (sdT s).getD i zb = (sdT s)[i] := by simp [List.getD, hi]
      have e1 := hfar i hi
      rw [g1] at e1
      have e2 := h.below x hx
      show far (fstN s) x.1.1 < far (fstN s) (sdT s)[i].1
      omega
  · rw [hf]
    show far (fstN s) e.1.1 < far (fstN s) (nxA s.nx (sdT s))
    rcases hmem e he with h1 | ⟨i, hi, rfl⟩
    · have := h.below e h1; omega
    · have := hfar i hi
      show far (fstN s) ((sdT s).getD i zb).1 < _
      omega
  · rcases hmem e he with h1 | ⟨i, hi, rfl⟩
    · exact h.bok e h1
    · obtain ⟨R, hR, _⟩ := sdT_split s
      have hl : i < (packL 512 s.W s.nx).length := by rw [hR, List.length_append]; omega
      have := packL_ok h.wok (most := 512) ⟨by decide, by decide⟩ s.nx i hl
      rw [hR, getD_app hi] at this
      exact this.1
  · rcases hmem e he with h1 | ⟨i, hi, rfl⟩
    · exact h.sent e h1
    · exact ⟨Int.le_refl _, h.tries.1⟩
/-- A second Send sends nothing. -/
theorem send_twice : sdT (sdS s) = [] := by
  obtain ⟨R, hR, hst⟩ := sdT_split s
  have hall := send_all s
  have hp := packL_all 512 s.W s.nx
  rw [hR, List.map_append, List.flatten_append] at hp
  have hW : (sdS s).W = (R.map Prod.snd).flatten := List.append_cancel_left (hall.trans hp.symm)
  have h2 := sdok_send h
  cases R with
  | nil =>
    have h0 : (sdS s).W = [] := hW
    unfold sdT
    rw [h0]
    rfl
  | cons p l =>
    have hno := hst p l rfl
    have hl : (sdT s).length < (packL 512 s.W s.nx).length := by rw [hR, List.length_append, List.length_cons]; omega
    have hn := packL_num 512 s.W s.nx (sdT s).length hl
    have e : (packL 512 s.W s.nx).getD (sdT s).length zb = p := by rw [hR]; simp [List.getD]
    rw [e, lft_nx h] at hn
    obtain ⟨R2, hR2, _⟩ := sdT_split (sdS s)
    cases hT : sdT (sdS s) with
    | nil => rfl
    | cons q l2 =>
      have h3 := sdT_num h2 0 (by rw [hT]; exact Nat.zero_lt_succ _)
      have h4 := sdT_in (s := sdS s) (p := q) (by rw [hT]; exact List.mem_cons_self)
      rw [hT] at h3
      have h5 : q.1 = nxA s.nx (sdT s) := h3
      rw [fst_send h, h5] at h4
      exact absurd (show far (fstN s) p.1 < s.win by rw [hn]; exact h4) hno
end
/-- The numbers of what is sent. -/
theorem send_nums {s : Sd} (h : SdOk s) (i : Nat) (hi : i < (sdT s).length) : ((sdT s).getD i zb).1 = numAt s.nx i := sdT_num h i hi
theorem rows_le {f : Bt × Int → Int} {b : Int} : ∀ (l : List (Bt × Int)) (a : Int), (∀ e ∈ l, a ≤ f e ∧ f e < b) → l.Pairwise (fun x y => f x < f y) → a ≤ b → (l.length : Int) ≤ b - a
  | [], a, _, _, hab => by show (0 : Int) ≤ _; omega
  | e :: l, a, hm, hp, hab => by
    obtain ⟨h1, h2⟩ := List.pairwise_cons.1 hp
    have h3 := hm e List.mem_cons_self
    have ih := rows_le l (f e + 1) (fun x hx => ⟨by have := h1 x hx; omega, (hm x (List.mem_cons_of_mem _ hx)).2⟩) h2 (by omega)
    rw [List.length_cons]
    omega
/-- No more are out than the window. -/
theorem out_le {s : Sd} (h : SdOk s) : (s.out.length : Int) ≤ s.win := by
  have := rows_le (f := fun e => far (fstN s) e.1.1) (b := s.win) s.L 0 (fun e he => ⟨(far_bd _ _).1, h.inw e he⟩) h.rise (by have := h.win; omega)
  unfold Sd.out
  rw [List.length_map]
  omega
theorem out_within {s : Sd} (h : SdOk s) {k : Nat} (hk : k < s.out.length) : far (s.out.getD 0 zb).1 (s.out.getD k zb).1 < s.win := by
  have hk' : k < s.L.length := by unfold Sd.out at hk; rw [List.length_map] at hk; exact hk
  cases hL : s.L with
  | nil => rw [hL] at hk'; exact absurd hk' (Nat.not_lt_zero k)
  | cons e l =>
    have e0 : (s.out.getD 0 zb).1 = fstN s := by unfold Sd.out fstN; rw [hL]; rfl
    have e1 : s.out.getD k zb = (s.L[k]).1 := by unfold Sd.out; simp [List.getD, hk']
    rw [e0, e1]
    exact h.inw _ (List.getElem_mem hk')
theorem sub_send {s : Sd} {l : List Bt} (h : s.out.Sublist l) : (sdS s).out.Sublist (l ++ sdT s) := by
  have e : (sdS s).out = s.out ++ sdT s := by
    unfold Sd.out sdS
    rw [List.map_append, List.map_map]
    congr 1
    exact List.map_id _
  rw [e]
  exact h.append (List.Sublist.refl _)
theorem out_again (s : Sd) : (agS s).out = s.out := by
  unfold agS Sd.out
  cases agB s with
  | false => rfl
  | true => rw [if_pos rfl, List.map_map]; rfl
theorem out_got (s : Sd) (a : Ak) : (gtS s a).out.Sublist s.out := by
  unfold gtS Sd.out
  by_cases h : gtB s a
  · rw [if_pos h]; exact List.filter_sublist.map _
  · rw [if_neg h]; exact List.Sublist.refl _
theorem got_len (s : Sd) (a : Ak) : (gtS s a).L.length + gtN s a = s.L.length := by
  have : (gtS s a).L.length ≤ s.L.length := by
    unfold gtS
    by_cases h : gtB s a
    · rw [if_pos h]; exact List.length_filter_le _ _
    · rw [if_neg h]; exact Nat.le_refl _
  unfold gtN
  omega
theorem gtS_yes {s : Sd} {a : Ak} (h : gtB s a) : gtS s a = { s with L := s.L.filter (kpt a) } := if_pos h
theorem gtS_no {s : Sd} {a : Ak} (h : ¬ gtB s a) : gtS s a = s := if_neg h
/-- A second ack of the same tells nothing more. -/
theorem got_twice (s : Sd) (a : Ak) : gtN (gtS s a) a = 0 := by
  unfold gtN
  by_cases h2 : gtB (gtS s a) a
  · rw [gtS_yes h2]
    by_cases h : gtB s a
    · rw [gtS_yes h]
      show (s.L.filter (kpt a)).length - ((s.L.filter (kpt a)).filter (kpt a)).length = 0
      rw [List.filter_filter]
      simp
    · rw [gtS_no h] at h2
      exact absurd h2 h
  · rw [gtS_no h2]; omega
end Go.Proofs.YtfiaghfaijlfjaaGreat

namespace Go.Proofs.YtfiaghfaijlfjaaGreat
set_option maxRecDepth 100000
open Go.RowKit

/-- Of the blocks that there were only those of F have turned. -/
structure Chg (F : Nat → Prop) (w w' : World) : Prop where
  os : w'.os = w.os
  tape : w'.tape = w.tape
  output : w'.output = w.output
  size : w.heap.size ≤ w'.heap.size
  block : ∀ k, k < w.heap.size → ¬ F k → w'.heap[k]? = w.heap[k]?
theorem Chg.refl (F : Nat → Prop) (w : World) : Chg F w w := ⟨rfl, rfl, rfl, Nat.le_refl _, fun _ _ _ => rfl⟩
theorem Chg.trans {F G : Nat → Prop} {a b c : World} (h : Chg F a b) (k : Chg G b c) (hG : ∀ x, x < a.heap.size → G x → F x) : Chg F a c :=
  ⟨k.os.trans h.os, k.tape.trans h.tape, k.output.trans h.output, Nat.le_trans h.size k.size, fun x hx hn => (k.block x (Nat.lt_of_lt_of_le hx h.size) (fun g => hn (hG x hx g))).trans (h.block x hx hn)⟩
theorem Chg.mono {F G : Nat → Prop} {a b : World} (h : Chg F a b) (hG : ∀ x, x < a.heap.size → F x → G x) : Chg G a b := ⟨h.os, h.tape, h.output, h.size, fun x hx hn => h.block x hx (fun f => hn (hG x hx f))⟩
theorem Chg.drew {F : Nat → Prop} {a w : World} (h : Chg F a w) : Chg F a w.drew := ⟨h.os, h.tape, h.output, h.size, h.block⟩
theorem Chg.alloc {F : Nat → Prop} {a w : World} (h : Chg F a w) (o : Obj) : Chg F a (w.alloc o) :=
  h.trans (G := fun _ => False) ⟨rfl, rfl, rfl, by simp, fun k hk _ => Below.heap_alloc _ _ _ hk⟩ (fun _ _ h => h.elim)
theorem Chg.setCell {F : Nat → Prop} {a w : World} (h : Chg F a w) {p : Addr} (hp : F p.block ∨ a.heap.size ≤ p.block) (u : Value) : Chg F a (w.setCell p u) :=
  h.trans (G := fun k => k = p.block) ⟨rfl, rfl, rfl, by simp [World.setCell], fun k _ hk => Below.heap_setCell _ _ _ _ hk⟩ (fun x hx e => hp.elim (fun f => by rw [e]; exact f) (fun g => absurd hx (by rw [e]; omega)))
theorem Chg.grown {F : Nat → Prop} {a w w' : World} {row : Option Nat} (h : Chg F a w) (hg : w.grownBy w' row) (hr : ∀ k, row = some k → F k ∨ a.heap.size ≤ k) : Chg F a w' :=
  h.trans (G := fun k => row = some k) ⟨hg.os, hg.tape, hg.output, hg.size, fun k hk hn => hg.block k hk (fun e => hn e.symm)⟩ (fun x hx e => (hr x e).elim (fun f => f) (fun g => absurd hx (by omega)))
theorem chg_of {B : Nat} {w w' : World} (h : Below B w w') : Chg (fun k => B ≤ k) w w' := ⟨h.os, h.tape, h.output, h.size, fun k _ hn => h.block k (by omega)⟩
theorem chg0 {F : Nat → Prop} {w w' : World} (h : Below w.heap.size w w') : Chg F w w' := ⟨h.os, h.tape, h.output, h.size, fun k hk _ => h.block k hk⟩
theorem Chg.below {F : Nat → Prop} {B : Nat} {w w' : World} (h : Chg F w w') (hB : B ≤ w.heap.size) (hF : ∀ k, F k → B ≤ k) : Below B w w' :=
  ⟨h.os, h.tape, h.output, h.size, fun k hk => h.block k (by omega) (fun f => by have := hF k f; omega)⟩
theorem Chg.cell {F : Nat → Prop} {w w' : World} (h : Chg F w w') {b j : Nat} (hb : b < w.heap.size) (hn : ¬ F b) : w'.cell? ⟨b, j, none⟩ = w.cell? ⟨b, j, none⟩ := World.cell?_of_block (h.block b hb hn)
theorem Chg.frozen {F : Nat → Prop} {w w' : World} (h : Chg F w w') {b j : Nat} (hb : b < w.heap.size) (hn : ¬ F b) : w'.frozen? ⟨b, j, none⟩ = w.frozen? ⟨b, j, none⟩ := by
  have := h.block b hb hn
  simp only [World.frozen?, this]

/-- A slice that reads as objects, off the blocks of F, in a block of objects. -/
def OsO (w : World) (F : Nat → Prop) (v : Value) (ys : List Ob) : Prop := Os w v ys ∧ ∀ a n c, v = .slice (some a) n c → ys ≠ [] → ¬ F a.block ∧ ∃ cur fz, w.heap[a.block]? = some (.cells cur 53 fz)
/-- A slice that reads as batches, off the blocks of F, its objects too. -/
def BtsO (w : World) (F : Nat → Prop) (v : Value) (bs : List Bt) : Prop :=
  (∃ a cap, v = .slice a 0 cap ∧ (a = none → cap = 0) ∧ bs = []) ∨
  ∃ b off cap, v = .slice (some ⟨b, off, none⟩) bs.length cap ∧ bs.length ≤ cap ∧ b < w.heap.size ∧ ¬ F b ∧ ∀ i, i < bs.length → w.cell? ⟨b, off + i * 2, none⟩ = some (.int .i64 (bs.getD i zb).1) ∧ ∃ u, w.cell? ⟨b, off + i * 2 + 1, none⟩ = some u ∧ u.oneCell' = true ∧ OsO w F u (bs.getD i zb).2
theorem Os.chg {F : Nat → Prop} {w w' : World} {v : Value} {ys : List Ob} (h : Os w v ys) (hc : Chg F w w') (hv : ∀ a n c, v = .slice (some a) n c → ys ≠ [] → ¬ F a.block) : Os w' v ys := by
  by_cases hn : ys = []
  · subst hn
    rcases h with h | ⟨b, off, cap, rfl, h2, h3, _⟩
    · exact .inl h
    · exact .inl ⟨some ⟨b, off, none⟩, cap, rfl, (fun e => nomatch e), rfl⟩
  · rcases h with h | ⟨b, off, cap, rfl, h2, h3, h4⟩
    · exact .inl h
    · exact .inr ⟨b, off, cap, rfl, h2, Nat.lt_of_lt_of_le h3 hc.size, fun i hi j hj => (hc.cell h3 (hv _ _ _ rfl hn)).trans (h4 i hi j hj)⟩
theorem some_lt {w : World} {b : Nat} {o : Obj} (h : w.heap[b]? = some o) : b < w.heap.size := (Array.getElem?_eq_some_iff.1 h).1
theorem OsO.chg {F : Nat → Prop} {w w' : World} {v : Value} {ys : List Ob} (h : OsO w F v ys) (hc : Chg F w w') : OsO w' F v ys :=
  ⟨h.1.chg hc (fun a n c e hn => (h.2 a n c e hn).1), fun a n c e hn => by
    obtain ⟨h1, cur, fz, h2⟩ := h.2 a n c e hn
    exact ⟨h1, cur, fz, (hc.block a.block (some_lt h2) h1).trans h2⟩⟩
theorem OsO.to {F F' : Nat → Prop} {w : World} {v : Value} {ys : List Ob} (h : OsO w F v ys) (hF : ∀ k, F' k → F k ∨ w.heap.size ≤ k) : OsO w F' v ys :=
  ⟨h.1, fun a n c e hn => by
    obtain ⟨h1, cur, fz, h2⟩ := h.2 a n c e hn
    refine ⟨fun hf => ?_, cur, fz, h2⟩
    rcases hF _ hf with g | g
    · exact h1 g
    · have := some_lt h2; omega⟩
theorem BtsO.chg {F : Nat → Prop} {w w' : World} {v : Value} {bs : List Bt} (h : BtsO w F v bs) (hc : Chg F w w') : BtsO w' F v bs := by
  rcases h with h | ⟨b, off, cap, h1, h2, h3, h4, h5⟩
  · exact .inl h
  · refine .inr ⟨b, off, cap, h1, h2, Nat.lt_of_lt_of_le h3 hc.size, h4, fun i hi => ?_⟩
    obtain ⟨k1, u, k2, k3, k4⟩ := h5 i hi
    exact ⟨(hc.cell h3 h4).trans k1, u, (hc.cell h3 h4).trans k2, k3, k4.chg hc⟩
theorem BtsO.to {F F' : Nat → Prop} {w : World} {v : Value} {bs : List Bt} (h : BtsO w F v bs) (hF : ∀ k, F' k → F k ∨ w.heap.size ≤ k) : BtsO w F' v bs := by
  rcases h with h | ⟨b, off, cap, h1, h2, h3, h4, h5⟩
  · exact .inl h
  · refine .inr ⟨b, off, cap, h1, h2, h3, fun hf => ?_, fun i hi => ?_⟩
    · rcases hF _ hf with g | g
      · exact h4 g
      · omega
    · obtain ⟨k1, u, k2, k3, k4⟩ := h5 i hi
      exact ⟨k1, u, k2, k3, k4.to hF⟩
theorem OsO.step {F F' : Nat → Prop} {w w' : World} {v : Value} {ys : List Ob} (h : OsO w F v ys) (hc : Chg F w w') (hF : ∀ k, F' k → F k ∨ w.heap.size ≤ k) : OsO w' F' v ys := ⟨(h.chg hc).1, fun a n c e hn => ⟨((h.to hF).2 a n c e hn).1, ((h.chg hc).2 a n c e hn).2⟩⟩
theorem OsO.below {F : Nat → Prop} {w w' : World} {v : Value} {ys : List Ob} (h : OsO w F v ys) (hb : Below w.heap.size w w') : OsO w' F v ys :=
  ⟨h.1.below hb, fun a n c e hn => by
    obtain ⟨h1, cur, fz, h2⟩ := h.2 a n c e hn
    exact ⟨h1, cur, fz, (hb.block a.block (some_lt h2)).trans h2⟩⟩
theorem BtsO.step {F F' : Nat → Prop} {w w' : World} {v : Value} {bs : List Bt} (h : BtsO w F v bs) (hc : Chg F w w') (hF : ∀ k, F' k → F k ∨ w.heap.size ≤ k) : BtsO w' F' v bs := by
  rcases h with h | ⟨b, off, cap, h1, h2, h3, h4, h5⟩
  · exact .inl h
  · refine .inr ⟨b, off, cap, h1, h2, Nat.lt_of_lt_of_le h3 hc.size, fun hf => ?_, fun i hi => ?_⟩
    · rcases hF _ hf with g | g
      · exact h4 g
      · omega
    · obtain ⟨k1, u, k2, k3, k4⟩ := h5 i hi
      exact ⟨(hc.cell h3 h4).trans k1, u, (hc.cell h3 h4).trans k2, k3, k4.step hc hF⟩
theorem BtsO.below {F : Nat → Prop} {w w' : World} {v : Value} {bs : List Bt} (h : BtsO w F v bs) (hb : Below w.heap.size w w') : BtsO w' F v bs := by
  rcases h with h | ⟨b, off, cap, h1, h2, h3, h4, h5⟩
  · exact .inl h
  · refine .inr ⟨b, off, cap, h1, h2, Nat.lt_of_lt_of_le h3 hb.size, h4, fun i hi => ?_⟩
    obtain ⟨k1, u, k2, k3, k4⟩ := h5 i hi
    exact ⟨(hb.cell (p := ⟨b, off + i * 2, none⟩) h3).trans k1, u, (hb.cell (p := ⟨b, off + i * 2 + 1, none⟩) h3).trans k2, k3, k4.below hb⟩
theorem OsO.mono {F G : Nat → Prop} {w : World} {v : Value} {ys : List Ob} (h : OsO w G v ys) (hF : ∀ k, F k → G k) : OsO w F v ys := ⟨h.1, fun a n c e hn => ⟨fun hf => (h.2 a n c e hn).1 (hF _ hf), (h.2 a n c e hn).2⟩⟩
theorem BtsO.mono {F G : Nat → Prop} {w : World} {v : Value} {bs : List Bt} (h : BtsO w G v bs) (hF : ∀ k, F k → G k) : BtsO w F v bs := by
  rcases h with h | ⟨b, off, cap, h1, h2, h3, h4, h5⟩
  · exact .inl h
  · refine .inr ⟨b, off, cap, h1, h2, h3, fun hf => h4 (hF _ hf), fun i hi => ?_⟩
    obtain ⟨k1, u, k2, k3, k4⟩ := h5 i hi
    exact ⟨k1, u, k2, k3, k4.mono hF⟩
theorem BtsO.bts {F : Nat → Prop} {w : World} {v : Value} {bs : List Bt} (h : BtsO w F v bs) : Bts w v bs := by
  rcases h with ⟨a, cap, h1, _, h2⟩ | ⟨b, off, cap, h1, _, _, _, h5⟩
  · exact .inl ⟨a, cap, h1, h2⟩
  · exact .inr ⟨b, off, cap, h1, fun i hi => ⟨(h5 i hi).1, by obtain ⟨_, u, k2, _, k4⟩ := h5 i hi; exact ⟨u, k2, k4.1⟩⟩⟩
theorem BtsO.form {F : Nat → Prop} {w : World} {v : Value} {bs : List Bt} (h : BtsO w F v bs) : ∃ a c, v = .slice a bs.length c := h.bts.form
theorem OsO.form {F : Nat → Prop} {w : World} {v : Value} {ys : List Ob} (h : OsO w F v ys) : ∃ a c, v = .slice a ys.length c := h.1.form

/-- What the program's sender answers: PS w F b s: at block b lies a sender that is s, in the blocks of F. What Send and Wait answer lies in new blocks. -/
structure Dc (PS : World → (Nat → Prop) → Nat → Sd → Prop) : Prop where
  lt : ∀ {w : World} {F : Nat → Prop} {b : Nat} {s : Sd}, PS w F b s → ∀ k, F k → k < w.heap.size
  ok : ∀ {w : World} {F : Nat → Prop} {b : Nat} {s : Sd}, PS w F b s → SdOk s
  keep : ∀ {w w' : World} {F G : Nat → Prop} {b : Nat} {s : Sd}, PS w F b s → Chg G w w' → (∀ k, F k → ¬ G k) → PS w' F b s
  new : ∀ (win tries : Int) (w : World), Calls Tryz.prog 16 #[.int .i64 win, .int .i64 tries] w fun e w' => Below w.heap.size w w' ∧ ((¬ nwOk win tries ∧ e = .returned (.tuple #[.pointer none, .int .i64 1])) ∨ (nwOk win tries ∧ ∃ b F, e = .returned (.tuple #[.pointer (some ⟨b, 0, none⟩), .int .i64 0]) ∧ PS w' F b (sd0 win tries) ∧ ∀ k, F k → w.heap.size ≤ k))
  push : ∀ {w : World} {F : Nat → Prop} {b : Nat} {s : Sd} (y : Ob), PS w F b s → Calls Tryz.prog 17 #[.pointer (some ⟨b, 0, none⟩), .agg #[.int .i64 y.k, .int .i64 y.x, .bool y.n, .int .i64 y.t, .int .i64 y.o, .int .i64 y.r, .int .i64 y.d, .int .i64 y.i, .int .i64 y.p, .int .i64 y.q, .int .i64 y.s, .int .i64 y.m]] w fun e w' => e = .returned (.int .i64 (pushR s y).1) ∧ Chg F w w' ∧ ∃ F', PS w' F' b ((pushR s y).2) ∧ (∀ k, F' k → F k ∨ w.heap.size ≤ k)
  send : ∀ {w : World} {F : Nat → Prop} {b : Nat} {s : Sd}, PS w F b s → Calls Tryz.prog 18 #[.pointer (some ⟨b, 0, none⟩)] w fun e w' => ∃ r, e = .returned r ∧ Chg F w w' ∧ ∃ F', PS w' F' b (sdS s) ∧ (∀ k, F' k → F k ∨ w.heap.size ≤ k) ∧ BtsO w' (fun k => F' k ∨ k < w.heap.size) r (sdT s)
  again : ∀ {w : World} {F : Nat → Prop} {b : Nat} {s : Sd}, PS w F b s → Calls Tryz.prog 19 #[.pointer (some ⟨b, 0, none⟩)] w fun e w' => ∃ r, e = .returned (.tuple #[r, .bool (agB s)]) ∧ Chg F w w' ∧ ∃ F', PS w' F' b (agS s) ∧ (∀ k, F' k → F k ∨ w.heap.size ≤ k) ∧ BtsO w' F' r (agL s)
  got : ∀ {w : World} {F : Nat → Prop} {b : Nat} {s : Sd} (a : Ak), PS w F b s → Calls Tryz.prog 20 #[.pointer (some ⟨b, 0, none⟩), .agg #[.int .i64 a.1, .int .i64 a.2.1, .int .i64 a.2.2.1, .int .i64 a.2.2.2]] w fun e w' => e = .returned (.int .i64 (gtN s a)) ∧ Chg F w w' ∧ ∃ F', PS w' F' b (gtS s a) ∧ (∀ k, F' k → F k ∨ w.heap.size ≤ k)
  wait : ∀ {w : World} {F : Nat → Prop} {b : Nat} {s : Sd}, PS w F b s → Calls Tryz.prog 22 #[.pointer (some ⟨b, 0, none⟩)] w fun e w' => ∃ r, e = .returned r ∧ Chg F w w' ∧ ∃ F', PS w' F' b (s) ∧ (∀ k, F' k → F k ∨ w.heap.size ≤ k) ∧ OsO w' (fun k => F' k ∨ k < w.heap.size) r s.W
  out : ∀ {w : World} {F : Nat → Prop} {b : Nat} {s : Sd}, PS w F b s → Calls Tryz.prog 21 #[.pointer (some ⟨b, 0, none⟩)] w fun e w' => ∃ r, e = .returned r ∧ Chg F w w' ∧ ∃ F', PS w' F' b (s) ∧ (∀ k, F' k → F k ∨ w.heap.size ≤ k) ∧ BtsO w' F' r s.out
  pushN : ∀ (y : Ob) (w : World), Calls Tryz.prog 17 #[.pointer none, .agg #[.int .i64 y.k, .int .i64 y.x, .bool y.n, .int .i64 y.t, .int .i64 y.o, .int .i64 y.r, .int .i64 y.d, .int .i64 y.i, .int .i64 y.p, .int .i64 y.q, .int .i64 y.s, .int .i64 y.m]] w fun e w' => e = .returned (.int .i64 3) ∧ Below w.heap.size w w'
  sendN : ∀ (w : World), Calls Tryz.prog 18 #[.pointer none] w fun e w' => ∃ r, e = .returned r ∧ Bts w' r [] ∧ Below w.heap.size w w'
  againN : ∀ (w : World), Calls Tryz.prog 19 #[.pointer none] w fun e w' => ∃ r, e = .returned (.tuple #[r, .bool true]) ∧ Bts w' r [] ∧ Below w.heap.size w w'
  gotN : ∀ (a : Ak) (w : World), Calls Tryz.prog 20 #[.pointer none, .agg #[.int .i64 a.1, .int .i64 a.2.1, .int .i64 a.2.2.1, .int .i64 a.2.2.2]] w fun e w' => e = .returned (.int .i64 0) ∧ Below w.heap.size w w'
  waitN : ∀ (w : World), Calls Tryz.prog 22 #[.pointer none] w fun e w' => ∃ r, e = .returned r ∧ Os w' r [] ∧ Below w.heap.size w w'
  outN : ∀ (w : World), Calls Tryz.prog 21 #[.pointer none] w fun e w' => ∃ r, e = .returned r ∧ Bts w' r [] ∧ Below w.heap.size w w'
/-- A sender that was made since w0. -/
structure One (PS : World → (Nat → Prop) → Nat → Sd → Prop) (w0 w : World) (F : Nat → Prop) (b : Nat) (s : Sd) : Prop where
  ps : PS w F b s
  new : ∀ k, F k → w0.heap.size ≤ k
  bel : Below w0.heap.size w0 w
section
variable {PS : World → (Nat → Prop) → Nat → Sd → Prop} {w0 w w' : World} {F F' : Nat → Prop} {b : Nat} {s s' : Sd}
theorem One.next (h : One PS w0 w F b s) (hc : Chg F w w') (hp : PS w' F' b s') (hF : ∀ k, F' k → F k ∨ w.heap.size ≤ k) : One PS w0 w' F' b s' :=
  ⟨hp, fun k hk => (hF k hk).elim (h.new k) (fun g => Nat.le_trans h.bel.size g), h.bel.trans (hc.below h.bel.size h.new)⟩
theorem One.below (dc : Dc PS) (h : One PS w0 w F b s) (hb : Below w.heap.size w w') : One PS w0 w' F b s :=
  ⟨dc.keep h.ps (G := fun _ => False) (chg0 hb) (fun _ _ g => g), h.new, h.bel.trans (hb.mono h.bel.size)⟩
end
/-- One object makes one batch. -/
theorem pack_one {y : Ob} (n : Int) : packL 512 [y] n = [(lft n, [y])] := by
  obtain ⟨k1, k2, _⟩ := cut_spec 512 [y] (A := 0) (show 0 < 1 by decide)
  have k3 : cutTo 512 [y] 0 = 1 := by have e : [y].length = 1 := rfl; omega
  show packF 512 [y] 1 0 (lft n) = _
  rw [packF_cons (show 0 < 1 by decide), k3]
  rfl
theorem send_one {win tries n : Int} {y : Ob} (hw : 1 ≤ win) (hn : 0 ≤ n ∧ n ≤ 65535) : sdT ⟨win, tries, [y], [], n⟩ = [(n, [y])] ∧ sdS ⟨win, tries, [y], [], n⟩ = ⟨win, tries, [], [((n, [y]), 1)], nxt n⟩ := by
  have e0 : lft n = n := by unfold lft; omega
  have e1 : sdT ⟨win, tries, [y], [], n⟩ = [(n, [y])] := by
    unfold sdT
    show (packL 512 [y] n).takeWhile (fun p => decide (far n p.1 < win)) = _
    rw [pack_one, e0, List.takeWhile_cons]
    have : decide (far n n < win) = true := decide_eq_true (by rw [far_self]; omega)
    show (if decide (far n n < win) = true then _ else _) = _
    rw [if_pos this]
    rfl
  refine ⟨e1, ?_⟩
  unfold sdS
  rw [e1]
  rfl
end Go.Proofs.YtfiaghfaijlfjaaGreat

namespace Go.Proofs.YtfiaghfaijlfjaaGreat
set_option maxRecDepth 100000
open Go.RowKit

/-- One batch is out, of number 0, sent c times. -/
def o1 (win tries : Int) (y : Ob) (c : Int) : Sd := ⟨win, tries, [], [((0, [y]), c)], 1⟩
def o0 (win tries : Int) : Sd := ⟨win, tries, [], [], 1⟩
theorem o1_send {win tries : Int} {y : Ob} (hw : 1 ≤ win) : sdT ⟨win, tries, [y], [], 0⟩ = [(0, [y])] ∧ sdS ⟨win, tries, [y], [], 0⟩ = o1 win tries y 1 := send_one hw ⟨Int.le_refl 0, by decide⟩
theorem o1_push {win tries : Int} {y : Ob} (hy : y.Ok) : pushR (sd0 win tries) y = (0, ⟨win, tries, [y], [], 0⟩) := by
  unfold pushR
  rw [if_pos hy]
  rfl
theorem o1_agB (win tries : Int) (y : Ob) (c : Int) : agB (o1 win tries y c) = decide (c < tries) := by
  show (decide (c < tries) && true) = _
  rw [Bool.and_true]
theorem o1_more {win tries : Int} {y : Ob} {c : Int} (h : c < tries) : agB (o1 win tries y c) = true ∧ agL (o1 win tries y c) = [(0, [y])] ∧ agS (o1 win tries y c) = o1 win tries y (c + 1) := by
  have e : agB (o1 win tries y c) = true := by rw [o1_agB]; exact decide_eq_true h
  refine ⟨e, ?_, ?_⟩
  · unfold agL; rw [if_pos e]; rfl
  · unfold agS; rw [if_pos e]; rfl
theorem o1_end {win tries : Int} {y : Ob} {c : Int} (h : ¬ c < tries) : agB (o1 win tries y c) = false ∧ agL (o1 win tries y c) = [] ∧ agS (o1 win tries y c) = o1 win tries y c := by
  have e : agB (o1 win tries y c) = false := by rw [o1_agB]; exact decide_eq_false h
  have e2 : ¬ agB (o1 win tries y c) = true := by rw [e]; decide
  exact ⟨e, by unfold agL; rw [if_neg e2], by unfold agS; rw [if_neg e2]⟩
theorem o1_got (win tries : Int) (y : Ob) (c : Int) : gtN (o1 win tries y c) (0, 0, 1, 0) = 1 ∧ gtS (o1 win tries y c) (0, 0, 1, 0) = o0 win tries := by
  have hg : gtB (o1 win tries y c) (0, 0, 1, 0) := ⟨by decide, show far 0 1 ≤ far 0 1 from Int.le_refl _⟩
  have e : gtS (o1 win tries y c) (0, 0, 1, 0) = o0 win tries := by
    rw [gtS_yes hg]
    show Sd.mk win tries [] (List.filter (kpt (0, 0, 1, 0)) [((0, [y]), c)]) 1 = _
    have hk : kpt (0, 0, 1, 0) ((0, [y]), c) = false := by show (!hasN 1 0 0) = false; decide
    rw [List.filter_cons_of_neg (by rw [hk]; decide)]
    rfl
  refine ⟨?_, e⟩
  unfold gtN
  rw [e]
  rfl
theorem o1_far (win tries : Int) (y : Ob) (c : Int) : gtN (o1 win tries y c) (0, 0, 2, 0) = 0 ∧ gtS (o1 win tries y c) (0, 0, 2, 0) = o1 win tries y c := by
  have hg : ¬ gtB (o1 win tries y c) (0, 0, 2, 0) := fun h => absurd (show far 0 2 ≤ far 0 1 from h.2) (by decide)
  have e := gtS_no hg
  exact ⟨by unfold gtN; rw [e]; omega, e⟩
theorem o0_again (win tries : Int) : agB (o0 win tries) = true ∧ agL (o0 win tries) = [] ∧ agS (o0 win tries) = o0 win tries := ⟨rfl, rfl, rfl⟩
def y5 : Ob := ⟨1, 5, false, 0, 0, 0, 0, 0, 0, 0, 0, 0⟩
theorem y5_ok : y5.Ok := by decide
theorem bts_one {w : World} {a : Option Addr} {c : Nat} {n : Int} {l : List Ob} (h : Bts w (.slice a 1 c) [(n, l)]) : ∃ b off, a = some ⟨b, off, none⟩ ∧ w.cell? ⟨b, off, none⟩ = some (.int .i64 n) := by
  obtain ⟨b, off, h1, h2, -⟩ := Bts.at (bs := [(n, l)]) h (i := 0) (show 0 < 1 by decide)
  exact ⟨b, off, h1, h2⟩
end Go.Proofs.YtfiaghfaijlfjaaGreat

namespace Go.Proofs.YtfiaghfaijlfjaaGreat
set_option maxRecDepth 100000
open Go.RowKit Go.WideShapes Go.ChangeShapes

theorem underAK : Tryz.prog.underlying 37 = some (.struct (Tryz.prog.fieldsOf 37)) := by kernel_rfl
def akc (a : Ak) : List Value := [.int .i64 a.1, .int .i64 a.2.1, .int .i64 a.2.2.1, .int .i64 a.2.2.2]
theorem list4 {cs : List Value} (h : cs.length = 4) : ∃ c0 c1 c2 c3, cs = [c0, c1, c2, c3] := by
  match cs, h with
  | [c0, c1, c2, c3], _ => exact ⟨c0, c1, c2, c3, rfl⟩
theorem ak_trod {H : Type} {enc : TypeId × Value → H} {w : World} {base n' : Nat} {spare : Nat → Bool} {held : Bool} {cs : List Value} {X : DataW H × List MemPlace} (hl4 : cs.length = 4)
    (hf : DataW.trod enc Tryz.prog w base spare held n' 37 cs = some X) : ∃ a : Ak, cs = akc a := by
  obtain ⟨c0, c1, c2, c3, rfl⟩ := list4 hl4
  obtain ⟨xs, M, _, _, _, hl, hx⟩ := DataW.trod_struct underAK hf
  obtain ⟨i, rfl, _⟩ := int_cell (cell_form (j := 0) (T := 3) (O := 0) (v := c0) hl hx (by kernel_rfl) (by kernel_rfl) rfl)
  obtain ⟨p, rfl, _⟩ := int_cell (cell_form (j := 1) (T := 3) (O := 1) (v := c1) hl hx (by kernel_rfl) (by kernel_rfl) rfl)
  obtain ⟨x, rfl, _⟩ := int_cell (cell_form (j := 2) (T := 3) (O := 2) (v := c2) hl hx (by kernel_rfl) (by kernel_rfl) rfl)
  obtain ⟨m, rfl, _⟩ := int_cell (cell_form (j := 3) (T := 3) (O := 3) (v := c3) hl hx (by kernel_rfl) (by kernel_rfl) rfl)
  exact ⟨(i, p, x, m), rfl⟩
theorem ak_form {H : Type} {enc : TypeId × Value → H} {w : World} {base b0 : Nat} {spare : Nat → Bool} {held : Bool} {r' : Reach} {v : Value} {d' : DataW H} {p' : List MemPlace}
    (hv : Value.okWide Tryz.prog w r' b0 37 v) (h : DataW.Trod enc Tryz.prog w base spare held 37 v d' p') : ∃ a : Ak, v = .agg #[.int .i64 a.1, .int .i64 a.2.1, .int .i64 a.2.2.1, .int .i64 a.2.2.2] := by
  obtain ⟨cs, rfl, hs⟩ := okWide_struct underAK hv
  obtain ⟨fuel, hf⟩ := h
  have hl : cs.toList.length = 4 := by rw [Array.length_toList]; exact hs.trans (by kernel_rfl)
  obtain ⟨a, ha⟩ := ak_trod hl hf
  refine ⟨a, congrArg Value.agg (Array.ext' ?_)⟩
  exact ha
end Go.Proofs.YtfiaghfaijlfjaaGreat

namespace Go.Proofs.YtfiaghfaijlfjaaGreat
set_option maxRecDepth 100000
open Go.RowKit

/-- Objects of one's own. -/
def OwO (w : World) (S : Nat) (v : Value) (ys : List Ob) : Prop := w.ownsRow S 53 12 v ys.length (flat ys)
theorem OwO_nil (w : World) (S : Nat) : OwO w S (.slice none 0 0) [] := ⟨rfl, .inl ⟨rfl, rfl⟩⟩
theorem OwO.os {w : World} {S : Nat} {v : Value} {ys : List Ob} (h : OwO w S v ys) : Os w v ys := (Os_of_own h).1
theorem OwO.below {w w' : World} {S : Nat} {v : Value} {ys : List Ob} (h : OwO w S v ys) (hb : Below w.heap.size w w') : OwO w' S v ys := own_below h hb
theorem own_chg {F : Nat → Prop} {w w' : World} {S size n : Nat} {e : TypeId} {v : Value} {xs : List Value} (h : w.ownsRow S e size v n xs) (hc : Chg F w w') (hv : ∀ g, v.ownBlock = some g → ¬ F g) : w'.ownsRow S e size v n xs := by
  refine ⟨h.1, ?_⟩
  rcases h.2 with h2 | ⟨g, cap, cur, rfl, h3, hg, rest⟩
  · exact .inl h2
  · exact .inr ⟨g, cap, cur, rfl, h3, (hc.block g (some_lt hg) (hv g rfl)).trans hg, rest⟩
/-- A whole readable slice of objects behind a row of one's own. -/
theorem run_gappo (w : World) (ty : TypeId) (S : Nat) (v : Value) (xs : List Ob) (hown : OwO w S v xs) (u : Value) (ys : List Ob) (hu : Os w u ys) (hl : xs.length + ys.length ≤ 30000) (hS : S ≤ w.heap.size) :
    ∃ r w', (Builtin.append_ #[29, 29] ty #[v, u]).run Tryz.prog w = .ok r w' ∧ OwO w' S r (xs ++ ys) ∧ w.grownBy w' v.ownBlock ∧ (∀ g, r.ownBlock = some g → v.ownBlock = some g ∨ w.heap.size ≤ g) := by
  obtain ⟨i0, hi, hz0, hz1, hz2⟩ := info_parts infoOB
  have e : flat (xs ++ ys) = flat xs ++ flat ys := flat_app xs ys
  have e2 : (xs ++ ys).length = xs.length + ys.length := by simp
  have hfy : (flat ys).length = ys.length * 12 := flat_len ys
  have hone := flat_ones ys
  have hby : (xs.length + ys.length) * 96 ≤ 140737488355328 := Nat.le_trans (Nat.mul_le_mul_right 96 hl) (by decide)
  have go : ∀ (a : Addr) (c : Nat), (∀ j q, (flat ys)[j]? = some q → w.cell? (a.add j) = some q) →
      ∃ r w', (Builtin.append_ #[29, 29] ty #[v, .slice (some a) ys.length c]).run Tryz.prog w = .ok r w' ∧ OwO w' S r (xs ++ ys) ∧ w.grownBy w' v.ownBlock ∧ (∀ g, r.ownBlock = some g → v.ownBlock = some g ∨ w.heap.size ≤ g) := by
    intro a c hnews
    obtain ⟨v', w', hr, h2, h3, _, h5⟩ := run_append_own_at (P := Tryz.prog) w S 29 ty 53 i0 _ 12 96 underSL hi hz0 hz1 hz2 rfl (by decide) v xs.length (flat xs) hown a ys.length c (flat ys) hfy hnews hone (by unfold maxLen; omega) hby hS
    refine ⟨v', w', hr, ?_, h3, fun g hg => ?_⟩
    · unfold OwO
      rw [e, e2]; exact h2
    · rcases h5 with h | h
      · exact .inl (h ▸ hg)
      · rw [h] at hg
        exact .inr (by cases hg; exact Nat.le_refl _)
  rcases hu with ⟨a, cap, rfl, hc, rfl⟩ | ⟨b, off, cap, rfl, h2, h3, h4⟩
  · cases a with
    | none =>
      obtain rfl := hc rfl
      refine ⟨v, w, run_append_owned_none (P := Tryz.prog) (w := w) S 29 ty 53 i0 12 underSL hi v xs.length (flat xs) hown, ?_, ⟨rfl, rfl, rfl, Nat.le_refl _, fun _ _ _ => rfl⟩, fun g hg => .inl hg⟩
      exact (congrArg (fun z : List Ob => OwO w S v z) (List.append_nil xs)).mpr hown
    | some a => exact go a cap (fun j q hj => by simp [flat] at hj)
  · exact go ⟨b, off, none⟩ cap (flat_news h4)
/-- A row of batches of one's own, whose objects lie off the blocks of F. -/
def SentR (w : World) (S : Nat) (F : Nat → Prop) (v : Value) (l : List Bt) : Prop :=
  (∀ g, v.ownBlock = some g → ¬ F g) ∧ ∃ vs : List (Int × Value), vs.length = l.length ∧ w.ownsRow S 34 2 v l.length (flat2 vs) ∧
    ∀ i, i < l.length → (vs.getD i zv).1 = (l.getD i zb).1 ∧ (vs.getD i zv).2.oneCell' = true ∧ OsO w F (vs.getD i zv).2 (l.getD i zb).2
theorem SentR_nil (w : World) (S : Nat) (F : Nat → Prop) : SentR w S F (.slice none 0 0) [] := ⟨fun g h => (by cases h), [], rfl, ⟨rfl, .inl ⟨rfl, rfl⟩⟩, fun i h => absurd h (Nat.not_lt_zero i)⟩
theorem SentR.below {w w' : World} {S : Nat} {F : Nat → Prop} {v : Value} {l : List Bt} (h : SentR w S F v l) (hb : Below w.heap.size w w') : SentR w' S F v l := by
  obtain ⟨h0, vs, h1, h2, h3⟩ := h
  exact ⟨h0, vs, h1, own_below h2 hb, fun i hi => ⟨(h3 i hi).1, (h3 i hi).2.1, (h3 i hi).2.2.below hb⟩⟩
theorem SentR.step {w w' : World} {S : Nat} {F F' : Nat → Prop} {v : Value} {l : List Bt} (h : SentR w S F v l) (hc : Chg F w w') (hF : ∀ k, F' k → F k ∨ w.heap.size ≤ k) : SentR w' S F' v l := by
  obtain ⟨h0, vs, h1, h2, h3⟩ := h
  refine ⟨fun g hg hf => ?_, vs, h1, own_chg h2 hc h0, fun i hi => ⟨(h3 i hi).1, (h3 i hi).2.1, (h3 i hi).2.2.step hc hF⟩⟩
  rcases hF g hf with h4 | h4
  · exact h0 g hg h4
  · have := (h2.lt g hg).2; omega
theorem SentR.form {w : World} {S : Nat} {F : Nat → Prop} {v : Value} {l : List Bt} (h : SentR w S F v l) : ∃ a c, v = .slice a l.length c := by
  obtain ⟨h0, vs, h1, h2, h3⟩ := h
  rcases h2.2 with ⟨h4, h5⟩ | ⟨g, cap, cur, h4, _⟩
  · exact ⟨none, 0, by rw [h4, h5]⟩
  · exact ⟨_, _, h4⟩
theorem flat2_at : ∀ (vs : List (Int × Value)) (i j : Nat), i < vs.length → j < 2 → (flat2 vs)[i * 2 + j]? = (c2 (vs.getD i zv))[j]?
  | [], i, j, h, _ => absurd h (Nat.not_lt_zero i)
  | p :: vs, 0, j, _, hj => by
    simp only [flat2, List.flatMap_cons, Nat.zero_mul, Nat.zero_add, List.getD_cons_zero]
    rw [List.getElem?_append_left (by show j < 2; exact hj)]
  | p :: vs, i + 1, j, h, hj => by
    have ih := flat2_at vs i j (by simpa using h) hj
    simp only [flat2, List.flatMap_cons, List.getD_cons_succ] at *
    rw [List.getElem?_append_right (by show 2 ≤ _; omega), show (i + 1) * 2 + j - (c2 p).length = i * 2 + j by show (i + 1) * 2 + j - 2 = _; omega]
    exact ih
theorem SentR.bts {w : World} {S : Nat} {F : Nat → Prop} {v : Value} {l : List Bt} (h : SentR w S F v l) : Bts w v l := by
  obtain ⟨h0, vs, h1, h2, h3⟩ := h
  rcases h2.2 with ⟨h4, h5⟩ | ⟨g, cap, cur, h4, _, hg, _, _, hcs, htake⟩
  · exact .inl ⟨none, 0, h4, List.eq_nil_of_length_eq_zero h5⟩
  · refine .inr ⟨g, 0, cap, h4, fun i hi => ?_⟩
    have hc : ∀ j, j < 2 → w.cell? ⟨g, 0 + i * 2 + j, none⟩ = (c2 (vs.getD i zv))[j]? := fun j hj => by
      rw [cell_of_row w g _ cur 34 (0, 0) hg, Nat.zero_add, ← flat2_at vs i j (by omega) hj, ← htake, List.getElem?_take, if_pos (by omega)]
      simp
    have e0 := hc 0 (by decide)
    have e1 := hc 1 (by decide)
    obtain ⟨k1, k2, k3⟩ := h3 i hi
    exact ⟨by rw [← k1]; exact e0, (vs.getD i zv).2, e1, k3.1⟩
end Go.Proofs.YtfiaghfaijlfjaaGreat

namespace Go.Proofs.YtfiaghfaijlfjaaGreat
set_option maxRecDepth 100000
open Go.RowKit

theorem chg_grown {w w' : World} {row : Option Nat} (hg : w.grownBy w' row) : Chg (fun k => row = some k) w w' := ⟨hg.os, hg.tape, hg.output, hg.size, fun k hk hn => hg.block k hk (fun e => hn e.symm)⟩
theorem OsO.grown {w w' : World} {F : Nat → Prop} {u : Value} {ys : List Ob} {row : Option Nat} (h : OsO w F u ys) (hg : w.grownBy w' row) (hr : ∀ g, row = some g → ∃ cur fz, w.heap[g]? = some (.cells cur 34 fz)) : OsO w' F u ys := by
  have hne : ∀ a n c, u = .slice (some a) n c → ys ≠ [] → ¬ row = some a.block := fun a n c e hn e2 => by
    obtain ⟨_, cur, fz, h2⟩ := h.2 a n c e hn
    obtain ⟨cur', fz', h3⟩ := hr a.block e2
    rw [h2] at h3
    cases h3
  refine ⟨h.1.chg (chg_grown hg) (fun a n c e hn => hne a n c e hn), fun a n c e hn => ?_⟩
  obtain ⟨h1, cur, fz, h2⟩ := h.2 a n c e hn
  exact ⟨h1, cur, fz, (hg.block a.block (some_lt h2) (fun e2 => hne a n c e hn e2.symm)).trans h2⟩
theorem infoBT2 : (Tryz.prog.info? 34).map (fun i => (i.zero, i.size, i.bytes)) = some (some (.agg #[.int .i64 0, .slice none 0 0]), 2, 32) := infoBT
/-- A whole readable slice of batches behind a row of batches of one's own. -/
theorem run_gappb (w : World) (ty : TypeId) (S : Nat) (F : Nat → Prop) (v : Value) (xs : List Bt) (hown : SentR w S F v xs) (u : Value) (ys : List Bt) (hu : BtsO w F u ys) (hF : ∀ k, F k → k < w.heap.size) (hl : xs.length + ys.length ≤ 1000000) (hS : S ≤ w.heap.size) :
    ∃ r w', (Builtin.append_ #[22, 22] ty #[v, u]).run Tryz.prog w = .ok r w' ∧ SentR w' S F r (xs ++ ys) ∧ w.grownBy w' v.ownBlock := by
  obtain ⟨i0, hi, hz0, hz1, hz2⟩ := info_parts infoBT
  obtain ⟨h0, vs, k1, k2, k3⟩ := hown
  have hrow : ∀ g, v.ownBlock = some g → ∃ cur fz, w.heap[g]? = some (.cells cur 34 fz) := fun g hg => by
    rcases k2.2 with ⟨rfl, _⟩ | ⟨g', cap, cur, rfl, _, hh, _⟩
    · cases hg
    · cases hg
      exact ⟨cur, (0, 0), hh⟩
  have hby : (xs.length + ys.length) * 32 ≤ 140737488355328 := Nat.le_trans (Nat.mul_le_mul_right 32 hl) (by decide)
  have go : ∀ (a : Addr) (c : Nat) (us : List (Int × Value)), us.length = ys.length → (∀ i, i < ys.length → (us.getD i zv).1 = (ys.getD i zb).1 ∧ (us.getD i zv).2.oneCell' = true ∧ OsO w F (us.getD i zv).2 (ys.getD i zb).2) → (∀ j q, (flat2 us)[j]? = some q → w.cell? (a.add j) = some q) →
      ∃ r w', (Builtin.append_ #[22, 22] ty #[v, .slice (some a) ys.length c]).run Tryz.prog w = .ok r w' ∧ SentR w' S F r (xs ++ ys) ∧ w.grownBy w' v.ownBlock := by
    intro a c us hul hus hnews
    have hfy : (flat2 us).length = ys.length * 2 := by rw [flat2_len, hul]
    have hone : ∀ q ∈ flat2 us, q.oneCell' = true := fun q hq => by
      obtain ⟨p, hp, hq2⟩ := List.mem_flatMap.1 hq
      obtain ⟨i, hi2, rfl⟩ := List.mem_iff_getElem.1 hp
      have h4 := (hus i (by omega)).2.1
      have e : us.getD i zv = us[i] := by simp [List.getD, hi2]
      rw [e] at h4
      simp only [c2, List.mem_cons, List.not_mem_nil, or_false] at hq2
      rcases hq2 with rfl | rfl
      · rfl
      · exact h4
    obtain ⟨r, w', hr, h2, h3, _, h5⟩ := run_append_own_at (P := Tryz.prog) w S 22 ty 34 i0 _ 2 32 underBS hi hz0 hz1 hz2 rfl (by decide) v xs.length (flat2 vs) k2 a ys.length c (flat2 us) hfy hnews hone (by unfold maxLen; omega) hby hS
    refine ⟨r, w', hr, ⟨fun g hg hf => ?_, vs ++ us, by rw [List.length_append, List.length_append, k1, hul], ?_, fun i hi2 => ?_⟩, h3⟩
    · rcases h5 with h | h
      · exact h0 g (h ▸ hg) hf
      · rw [h] at hg
        cases hg
        exact absurd (hF _ hf) (Nat.lt_irrefl _)
    · rw [flat2_app, List.length_append]; exact h2
    · rw [List.length_append] at hi2
      by_cases h9 : i < xs.length
      · have e1 : (vs ++ us).getD i zv = vs.getD i zv := by simp [List.getD, List.getElem?_append, k1, h9]
        have e2 : (xs ++ ys).getD i zb = xs.getD i zb := by simp [List.getD, List.getElem?_append, h9]
        rw [e1, e2]
        exact ⟨(k3 i h9).1, (k3 i h9).2.1, (k3 i h9).2.2.grown h3 hrow⟩
      · have e1 : (vs ++ us).getD i zv = us.getD (i - xs.length) zv := by simp [List.getD, List.getElem?_append, k1, h9]
        have e2 : (xs ++ ys).getD i zb = ys.getD (i - xs.length) zb := by simp [List.getD, List.getElem?_append, h9]
        rw [e1, e2]
        obtain ⟨g1, g2, g3⟩ := hus (i - xs.length) (by omega)
        exact ⟨g1, g2, g3.grown h3 hrow⟩
  rcases hu with ⟨a, cap, rfl, hc, rfl⟩ | ⟨b, off, cap, rfl, h2, h3, h4, h5⟩
  · cases a with
    | none =>
      obtain rfl := hc rfl
      refine ⟨v, w, run_append_owned_none (P := Tryz.prog) (w := w) S 22 ty 34 i0 2 underBS hi v xs.length (flat2 vs) k2, ?_, ⟨rfl, rfl, rfl, Nat.le_refl _, fun _ _ _ => rfl⟩⟩
      rw [List.append_nil]
      exact ⟨h0, vs, k1, k2, k3⟩
    | some a => exact go a cap [] rfl (fun i hi2 => absurd hi2 (Nat.not_lt_zero i)) (fun j q hj => by simp [flat2] at hj)
  · obtain ⟨G, hG⟩ : ∃ G : Nat → Value, ∀ i, i < ys.length → w.cell? ⟨b, off + i * 2 + 1, none⟩ = some (G i) ∧ (G i).oneCell' = true ∧ OsO w F (G i) (ys.getD i zb).2 := by
      refine ⟨fun i => if h : i < ys.length then Classical.choose (h5 i h).2 else .nilFunc, fun i hi2 => ?_⟩
      simp only [dif_pos hi2]
      exact Classical.choose_spec (h5 i hi2).2
    have hat : ∀ i, i < ys.length → ((List.range ys.length).map fun i => ((ys.getD i zb).1, G i)).getD i zv = ((ys.getD i zb).1, G i) := fun i hi2 => by simp [List.getD, hi2]
    refine go ⟨b, off, none⟩ cap ((List.range ys.length).map fun i => ((ys.getD i zb).1, G i)) (by simp) (fun i hi2 => by rw [hat i hi2]; exact ⟨rfl, (hG i hi2).2⟩) (fun j q hj => ?_)
    have hlt := (List.getElem?_eq_some_iff.1 hj).1
    rw [flat2_len, List.length_map, List.length_range] at hlt
    have hd : j / 2 < ys.length := by omega
    have h6 := flat2_at ((List.range ys.length).map fun i => ((ys.getD i zb).1, G i)) (j / 2) (j % 2) (by simpa using hd) (Nat.mod_lt _ (by decide))
    rw [hat _ hd, show j / 2 * 2 + j % 2 = j by omega] at h6
    rw [add_spot, ← hj, h6]
    have hj2 : j % 2 = 0 ∨ j % 2 = 1 := by omega
    rcases hj2 with e | e
    · rw [e, show off + j = off + j / 2 * 2 by omega]
      exact (h5 (j / 2) hd).1
    · rw [e, show off + j = off + j / 2 * 2 + 1 by omega]
      exact (hG (j / 2) hd).1
/-- What is found greedily: the first one of a part is ahead, or the rest of the part lies behind the place. -/
theorem sub_skip {α : Type} {x y : α} {xs ys : List α} (h : (x :: xs).Sublist (y :: ys)) (hne : ¬ y = x) : (x :: xs).Sublist ys := by
  cases h with
  | cons _ h => exact h
  | cons_cons _ h => exact absurd rfl hne
theorem sub_take {α : Type} {x : α} {xs ys : List α} (h : (x :: xs).Sublist (x :: ys)) : xs.Sublist ys := List.Sublist.of_cons_cons h
end Go.Proofs.YtfiaghfaijlfjaaGreat

namespace Go.Proofs.YtfiaghfaijlfjaaGreat
set_option maxRecDepth 100000
open Go.RowKit

theorem run_sl (b off n c i : Nat) (hi : i < n) (hc : n ≤ c) (w : World) : (Instr.slice 22 (.slice (some ⟨b, off, none⟩) n c) (some (.int .i64 (i : Int))) (some (.int .i64 ((i : Int) + 1))) none).run Tryz.prog w = .ok (.slice (some ⟨b, off + i * 2, none⟩) 1 (c - i)) w := by
  have h1 : (0 : Int) ≤ (i : Int) := by omega
  have h3 : (i : Int) + 1 ≤ (c : Int) := by omega
  have h4 : (0 : Int) ≤ (i : Int) + 1 := by omega
  have h5 : ((i : Int) + 1).toNat = i + 1 := by omega
  simp [Instr.slice, go_sem, h1, h3, h4, h5]
  omega
theorem SentR.at {w : World} {S : Nat} {F : Nat → Prop} {a : Option Addr} {c : Nat} {l : List Bt} (h : SentR w S F (.slice a l.length c) l) {i : Nat} (hi : i < l.length) : ∃ b off, a = some ⟨b, off, none⟩ ∧ l.length ≤ c := by
  obtain ⟨_, vs, h1, h2, _⟩ := h
  rcases h2.2 with ⟨h4, h5⟩ | ⟨g, cap, cur, h4, _, _, h5, _⟩
  · omega
  · simp only [Value.slice.injEq] at h4
    exact ⟨g, 0, h4.1, h4.2.2 ▸ h5⟩
theorem BtsO.at {w : World} {F : Nat → Prop} {a : Option Addr} {c : Nat} {l : List Bt} (h : BtsO w F (.slice a l.length c) l) {i : Nat} (hi : i < l.length) : ∃ b off, a = some ⟨b, off, none⟩ ∧ l.length ≤ c := by
  rcases h with ⟨_, _, _, _, e⟩ | ⟨b, off, cap, h1, h2, _⟩
  · rw [e] at hi; exact absurd hi (Nat.not_lt_zero i)
  · simp only [Value.slice.injEq] at h1
    exact ⟨b, off, h1.1, h1.2.2 ▸ h2⟩
theorem bts_sub {w : World} {b off c c' : Nat} {l : List Bt} (h : Bts w (.slice (some ⟨b, off, none⟩) l.length c) l) {i : Nat} (hi : i < l.length) : Bts w (.slice (some ⟨b, off + i * 2, none⟩) 1 c') [l.getD i zb] := by
  obtain ⟨b', off', h1, h2, u, h3, h4⟩ := h.at hi
  cases h1
  refine .inr ⟨b, off + i * 2, c', rfl, fun k hk => ?_⟩
  have hk' : k < 1 := hk
  obtain rfl : k = 0 := by omega
  exact ⟨h2, u, h3, h4⟩
theorem push_out (s : Sd) (y : Ob) : (pushR s y).2.out = s.out := by
  unfold pushR Sd.out
  split
  · split <;> rfl
  · rfl
theorem push_win (s : Sd) (y : Ob) : (pushR s y).2.win = s.win := by
  unfold pushR
  split
  · split <;> rfl
  · rfl
theorem ag_win (s : Sd) : (agS s).win = s.win := by unfold agS; split <;> rfl
theorem gt_win (s : Sd) (a : Ak) : (gtS s a).win = s.win := by unfold gtS; split <;> rfl
theorem sdT_len {s : Sd} (h : SdOk s) : (sdT s).length ≤ 16 := by
  obtain ⟨_, t2⟩ := sdT_top h
  have := far_bd (fstN s) s.nx
  have := h.win
  omega
theorem sdT_small {s : Sd} (h : SdOk s) : ∀ p ∈ sdT s, p.2.length ≤ 32 := fun p hp => by
  have h2 := (sdok_send h).bok (p, 1) (List.mem_append_right _ (List.mem_map.2 ⟨p, hp, rfl⟩))
  exact h2.2.1.2
end Go.Proofs.YtfiaghfaijlfjaaGreat

namespace Go.Proofs.YtfiaghfaijlfjaaGreat
set_option maxRecDepth 100000
open Go.RowKit

structure RowF (w : World) (S : Nat) (F : Nat → Prop) (v : Value) (ys : List Ob) : Prop where
  own : OwO w S v ys
  off : ∀ g, v.ownBlock = some g → ¬ F g
theorem RowF_nil (w : World) (S : Nat) (F : Nat → Prop) : RowF w S F (.slice none 0 0) [] := ⟨OwO_nil w S, fun g h => by cases h⟩
theorem RowF.lt {w : World} {S : Nat} {F : Nat → Prop} {v : Value} {ys : List Ob} (h : RowF w S F v ys) : ∀ g, v.ownBlock = some g → S ≤ g ∧ g < w.heap.size := fun g hg => World.ownsRow.lt h.own g hg
theorem RowF.form {w : World} {S : Nat} {F : Nat → Prop} {v : Value} {ys : List Ob} (h : RowF w S F v ys) : ∃ a c, v = .slice a ys.length c := own_form h.own
theorem RowF.below {w w' : World} {S : Nat} {F : Nat → Prop} {v : Value} {ys : List Ob} (h : RowF w S F v ys) (hb : Below w.heap.size w w') : RowF w' S F v ys := ⟨h.own.below hb, h.off⟩
theorem RowF.step {w w' : World} {S : Nat} {F F' : Nat → Prop} {v : Value} {ys : List Ob} (h : RowF w S F v ys) (hc : Chg F w w') (hF : ∀ k, F' k → F k ∨ w.heap.size ≤ k) : RowF w' S F' v ys :=
  ⟨own_chg h.own hc h.off, fun g hg hf => (hF g hf).elim (h.off g hg) (fun h2 => by have := (h.lt g hg).2; omega)⟩
/-- One row lies apart from another one. -/
def Apart (u v : Value) : Prop := ∀ g, u.ownBlock = some g → ¬ v.ownBlock = some g
theorem Apart.symm {u v : Value} (h : Apart u v) : Apart v u := fun g h1 h2 => h g h2 h1
theorem RowF.kept {w w' : World} {S : Nat} {F : Nat → Prop} {v u : Value} {ys : List Ob} (h : RowF w S F v ys) (hg : w.grownBy w' u.ownBlock) (ha : Apart v u) : RowF w' S F v ys :=
  ⟨own_chg h.own (chg_grown hg) (fun g h1 h2 => ha g h1 h2), h.off⟩
/-- A row that grew: off F, and apart from what it was apart from. -/
theorem RowF.grew {w w' : World} {S : Nat} {F : Nat → Prop} {v r : Value} {xs zs : List Ob} (h : RowF w S F v xs) (ho : OwO w' S r zs) (hF : ∀ k, F k → k < w.heap.size) (hr : ∀ g, r.ownBlock = some g → v.ownBlock = some g ∨ w.heap.size ≤ g) : RowF w' S F r zs :=
  ⟨ho, fun g hg hf => (hr g hg).elim (fun h2 => h.off g h2 hf) (fun h2 => by have := hF g hf; omega)⟩
theorem Apart.grew {w : World} {S : Nat} {F : Nat → Prop} {v r u : Value} {ys : List Ob} (h : Apart v u) (hu : RowF w S F u ys) (hr : ∀ g, r.ownBlock = some g → v.ownBlock = some g ∨ w.heap.size ≤ g) : Apart r u := fun g hg hu2 =>
  (hr g hg).elim (fun h2 => h g h2 hu2) (fun h2 => by have := (hu.lt g hu2).2; omega)
theorem One.grown {PS : World → (Nat → Prop) → Nat → Sd → Prop} (dc : Dc PS) {w0 w w' : World} {F : Nat → Prop} {b : Nat} {s : Sd} {v : Value} {ys : List Ob} (h : One PS w0 w F b s) (hv : RowF w w0.heap.size F v ys) (hg : w.grownBy w' v.ownBlock) : One PS w0 w' F b s :=
  ⟨dc.keep h.ps (chg_grown hg) (fun k hk e => hv.off k e hk), h.new, h.bel.grown hg h.bel.size (fun k hk => (hv.lt k hk).1)⟩
/-- One object that was just laid down. -/
theorem os_new (w : World) (y : Ob) : Os (w.alloc (.cells #[.int .i64 y.k, .int .i64 y.x, .bool y.n, .int .i64 y.t, .int .i64 y.o, .int .i64 y.r, .int .i64 y.d, .int .i64 y.i, .int .i64 y.p, .int .i64 y.q, .int .i64 y.s, .int .i64 y.m] 53)) (.slice (some ⟨w.heap.size, 0, none⟩) 1 1) [y] := by
  refine .inr ⟨w.heap.size, 0, 1, rfl, Nat.le_refl 1, by simp, fun i hi j hj => ?_⟩
  have hi' : i < 1 := hi
  obtain rfl : i = 0 := by omega
  have h12 : j = 0 ∨ j = 1 ∨ j = 2 ∨ j = 3 ∨ j = 4 ∨ j = 5 ∨ j = 6 ∨ j = 7 ∨ j = 8 ∨ j = 9 ∨ j = 10 ∨ j = 11 := by omega
  rcases h12 with rfl | rfl | rfl | rfl | rfl | rfl | rfl | rfl | rfl | rfl | rfl | rfl <;> simp [Ob.cl]
theorem ag_W (s : Sd) : (agS s).W = s.W ∧ (agS s).nx = s.nx := by unfold agS; split <;> exact ⟨rfl, rfl⟩
theorem gt_W (s : Sd) (a : Ak) : (gtS s a).W = s.W ∧ (gtS s a).nx = s.nx := by unfold gtS; split <;> exact ⟨rfl, rfl⟩
theorem z_nxt_in {n : Int} (_h : 0 ≤ n ∧ n ≤ 65535) : z_nxt n = nxt n := by unfold z_nxt nxt; omega
end Go.Proofs.YtfiaghfaijlfjaaGreat

namespace Go.Proofs.YtfiaghfaijlfjaaGreat
set_option maxRecDepth 100000
open Go.RowKit

def snt (T : List Ob) (l : List Bt) (j : Nat) : List Ob := T ++ ((l.take j).map Prod.snd).flatten
theorem snt_zero (T : List Ob) (l : List Bt) : snt T l 0 = T := by unfold snt; simp
theorem snt_succ (T : List Ob) (l : List Bt) {j : Nat} (h : j < l.length) : snt T l (j + 1) = snt T l j ++ (l.getD j zb).2 := by
  have e : l.take (j + 1) = l.take j ++ [l.getD j zb] := by rw [List.take_succ_eq_append_getElem h]; simp [List.getD, h]
  unfold snt
  rw [e, List.map_append, List.flatten_append, List.append_assoc]
  simp
theorem snt_len (T : List Ob) (l : List Bt) (hl : ∀ p ∈ l, p.2.length ≤ 32) (j : Nat) : (snt T l j).length ≤ T.length + 32 * j := by
  induction j with
  | zero => rw [snt_zero]; omega
  | succ j ih =>
    by_cases h : j < l.length
    · rw [snt_succ T l h, List.length_append]
      have := hl _ (getD_mem (d := zb) h)
      omega
    · have e : snt T l (j + 1) = snt T l j := by unfold snt; rw [List.take_of_length_le (by omega), List.take_of_length_le (by omega)]
      rw [e]; omega
theorem snt_all (T : List Ob) (s : Sd) : snt T (sdT s) (sdT s).length ++ (sdS s).W = T ++ s.W := by
  unfold snt
  rw [List.take_of_length_le (Nat.le_refl _), List.append_assoc, send_all]
theorem BtsO.grew {G : Nat → Prop} {w w' : World} {v u : Value} {bs : List Bt} (h : BtsO w G v bs) (hg : w.grownBy w' u.ownBlock) (hG : ∀ g, u.ownBlock = some g → G g) : BtsO w' G v bs := h.chg ((chg_grown hg).mono (fun x _ e => hG x e))
theorem z_num {s : Sd} (h : SdOk s) (j : Nat) : z_nxt (numAt s.nx j) = numAt s.nx (j + 1) := by
  rw [numAt_succ]; exact z_nxt_in (numAt_rng h.nx j)
end Go.Proofs.YtfiaghfaijlfjaaGreat
