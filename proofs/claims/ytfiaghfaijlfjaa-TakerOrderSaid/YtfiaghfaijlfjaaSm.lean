/- A sender: what waits, what is out, and how often that was sent; what its calls turn. That what the calls leave is right. No conditions. A sender: what Send sends: as many as fit, each number the next one's; what it leaves is right; a second one sends nothing; objects in their order; what is out is among what was sent, and no more than the window. No conditions. A taker: what is next, what is held; what Take tells and leaves. What it leaves is right. No conditions. A taker: what Take turns: what is refused turns nothing; next is one more for each batch that is told. No conditions. Worlds that have turned in some blocks alone; rows of objects that lie off some blocks; Clone of objects. No conditions but on lengths. -/
import Derived.Test.YtfiaghfaijlfjaaOps
import Derived.Test.YtfiaghfaijlfjaaBma
import Derived.Test.YtfiaghfaijlfjaaZfa
import Derived.Test.YtfiaghfaijlfjaaAkp
import Derived.Test.YtfiaghfaijlfjaaAkm
import Derived.Test.YtfiaghfaijlfjaaGsp
import Derived.Test.YtfiaghfaijlfjaaWit
import Derived.Test.YtfiaghfaijlfjaaOpp
import Derived.WalkLawsBesides
namespace Go.Proofs.Ytfiaghfaijlfjaa
set_option maxRecDepth 100000
theorem far_bd (a b : Int) : 0 ≤ far a b ∧ far a b < 65536 := by unfold far; omega

abbrev Bt := Int × List Ob
abbrev Ak := Int × Int × Int × Int
/-- A sender: its window, its tries, what waits, what is out and how often that was sent, the next number. -/
structure Sd where
  win : Int
  tries : Int
  W : List Ob
  L : List (Bt × Int)
  nx : Int
def Sd.out (s : Sd) : List Bt := s.L.map Prod.fst
def nwOk (win tries : Int) : Prop := (1 ≤ win ∧ win ≤ 16) ∧ 1 ≤ tries ∧ tries ≤ 100
instance (win tries : Int) : Decidable (nwOk win tries) := by unfold nwOk; infer_instance
def sd0 (win tries : Int) : Sd := ⟨win, tries, [], [], 0⟩
def fstN (s : Sd) : Int := match s.L with
  | [] => s.nx
  | e :: _ => e.1.1
def pushR (s : Sd) (y : Ob) : Int × Sd := if y.Ok then (if 1024 ≤ s.W.length then (8, s) else (0, { s with W := s.W ++ [y] })) else (1, s)
/-- What is sent: of the batches as many as fit. -/
def sdT (s : Sd) : List Bt := (packL 512 s.W s.nx).takeWhile fun p => decide (far (fstN s) p.1 < s.win)
def cnt (l : List Bt) : Nat := (l.map fun p => p.2.length).sum
def nxA (nx : Int) (l : List Bt) : Int := numAt nx l.length
def sdS (s : Sd) : Sd := { s with W := s.W.drop (cnt (sdT s)), L := s.L ++ (sdT s).map fun p => (p, 1), nx := nxA s.nx (sdT s) }
def agB (s : Sd) : Bool := s.L.all fun e => decide (e.2 < s.tries)
def agL (s : Sd) : List Bt := if agB s = true then s.out else []
def agS (s : Sd) : Sd := if agB s = true then { s with L := s.L.map fun e => (e.1, e.2 + 1) } else s
def gtB (s : Sd) (a : Ak) : Prop := AkOne a ∧ far (fstN s) a.2.2.1 ≤ far (fstN s) s.nx
instance (s : Sd) (a : Ak) : Decidable (gtB s a) := by unfold gtB; infer_instance
def kpt (a : Ak) (e : Bt × Int) : Bool := !hasN a.2.2.1 a.2.2.2 e.1.1
def gtS (s : Sd) (a : Ak) : Sd := if gtB s a then { s with L := s.L.filter (kpt a) } else s
def gtN (s : Sd) (a : Ak) : Nat := s.L.length - (gtS s a).L.length
/-- What is out lies within the window, from the first one on, each further than the one ahead of it, and the next number behind them all. -/
structure SdOk (s : Sd) : Prop where
  win : 1 ≤ s.win ∧ s.win ≤ 16
  tries : 1 ≤ s.tries ∧ s.tries ≤ 100
  wok : AllOk s.W
  wl : s.W.length ≤ 1024
  nx : 0 ≤ s.nx ∧ s.nx ≤ 65535
  inw : ∀ e ∈ s.L, far (fstN s) e.1.1 < s.win
  rise : s.L.Pairwise fun e e' => far (fstN s) e.1.1 < far (fstN s) e'.1.1
  below : ∀ e ∈ s.L, far (fstN s) e.1.1 < far (fstN s) s.nx
  top : far (fstN s) s.nx ≤ s.win
  bok : ∀ e ∈ s.L, BtOk e.1.1 e.1.2
  sent : ∀ e ∈ s.L, 1 ≤ e.2 ∧ e.2 ≤ s.tries
theorem far_self (a : Int) : far a a = 0 := by unfold far; omega
theorem sdok_new {win tries : Int} (h : nwOk win tries) : SdOk (sd0 win tries) :=
  ⟨h.1, h.2, fun i hi => absurd hi (Nat.not_lt_zero i), Nat.zero_le _, ⟨Int.le_refl 0, (show (0 : Int) ≤ 65535 by decide)⟩, fun e he => absurd he List.not_mem_nil, List.Pairwise.nil, fun e he => absurd he List.not_mem_nil, (by show far 0 0 ≤ win; rw [far_self]; have := h.1.1; omega), fun e he => absurd he List.not_mem_nil, fun e he => absurd he List.not_mem_nil⟩
theorem allok_app {xs ys : List Ob} (hx : AllOk xs) (hy : AllOk ys) : AllOk (xs ++ ys) := fun i hi => by
  by_cases h : i < xs.length
  · have e : (xs ++ ys).getD i z12 = xs.getD i z12 := by simp [List.getD, List.getElem?_append, h]
    rw [e]; exact hx i h
  · have e : (xs ++ ys).getD i z12 = ys.getD (i - xs.length) z12 := by simp [List.getD, List.getElem?_append, h]
    rw [e]; exact hy _ (by rw [List.length_append] at hi; omega)
theorem allok_one {y : Ob} (h : y.Ok) : AllOk [y] := fun i hi => by
  have hi' : i < 1 := hi
  obtain rfl : i = 0 := by omega
  exact h
theorem allok_drop {ys : List Ob} (h : AllOk ys) (k : Nat) : AllOk (ys.drop k) := fun i hi => by
  have e : (ys.drop k).getD i z12 = ys.getD (k + i) z12 := by simp [List.getD]
  rw [e]
  exact h _ (by rw [List.length_drop] at hi; omega)
theorem sdok_push {s : Sd} (h : SdOk s) (y : Ob) : SdOk (pushR s y).2 := by
  unfold pushR
  by_cases hy : y.Ok
  · rw [if_pos hy]
    by_cases hl : 1024 ≤ s.W.length
    · rw [if_pos hl]; exact h
    · rw [if_neg hl]
      exact ⟨h.win, h.tries, allok_app h.wok (allok_one hy), by show (s.W ++ [y]).length ≤ 1024; rw [List.length_append]; have e : [y].length = 1 := rfl; omega, h.nx, h.inw, h.rise, h.below, h.top, h.bok, h.sent⟩
  · rw [if_neg hy]; exact h
theorem sdok_again {s : Sd} (h : SdOk s) : SdOk (agS s) := by
  unfold agS
  cases hb : agB s with
  | false => exact h
  | true =>
    rw [if_pos rfl]
    have hf : fstN { s with L := s.L.map fun e => (e.1, e.2 + 1) } = fstN s := by
      unfold fstN
      cases s.L <;> rfl
    have hm : ∀ e ∈ s.L.map (fun e => (e.1, e.2 + 1)), ∃ e0 ∈ s.L, e = (e0.1, e0.2 + 1) := fun e he => by
      obtain ⟨e0, h0, h1⟩ := List.mem_map.1 he
      exact ⟨e0, h0, h1.symm⟩
    refine ⟨h.win, h.tries, h.wok, h.wl, h.nx, fun e he => ?_, ?_, fun e he => ?_, by rw [hf]; exact h.top, fun e he => ?_, fun e he => ?_⟩
    · obtain ⟨e0, h0, rfl⟩ := hm e he
      rw [hf]; exact h.inw e0 h0
    · rw [hf]
      exact List.pairwise_map.2 h.rise
    · obtain ⟨e0, h0, rfl⟩ := hm e he
      rw [hf]; exact h.below e0 h0
    · obtain ⟨e0, h0, rfl⟩ := hm e he
      exact h.bok e0 h0
    · obtain ⟨e0, h0, rfl⟩ := hm e he
      have h1 := h.sent e0 h0
      have h2 : decide (e0.2 < s.tries) = true := List.all_eq_true.1 hb e0 h0
      rw [decide_eq_true_iff] at h2
      show 1 ≤ e0.2 + 1 ∧ e0.2 + 1 ≤ s.tries
      omega
theorem far_shift {f g x : Int} (h : far f g ≤ far f x) : far g x = far f x - far f g := by
  unfold far at *
  omega
theorem sdok_got {s : Sd} (h : SdOk s) (a : Ak) : SdOk (gtS s a) := by
  unfold gtS
  by_cases hg : gtB s a
  · rw [if_pos hg]
    cases hL : s.L.filter (kpt a) with
    | nil =>
      have hf : fstN { s with L := [] } = s.nx := rfl
      exact ⟨h.win, h.tries, h.wok, h.wl, h.nx, fun e he => absurd he List.not_mem_nil, List.Pairwise.nil, fun e he => absurd he List.not_mem_nil, (by rw [hf]; show far s.nx s.nx ≤ s.win; rw [far_self]; have := h.win; omega), fun e he => absurd he List.not_mem_nil, fun e he => absurd he List.not_mem_nil⟩
    | cons e1 l1 =>
      have hf : fstN { s with L := e1 :: l1 } = e1.1.1 := rfl
      have hsub : List.Sublist (e1 :: l1) s.L := hL ▸ List.filter_sublist
      have hin : ∀ e ∈ e1 :: l1, e ∈ s.L := fun e he => hsub.subset he
      have hr : (e1 :: l1).Pairwise fun e e' => far (fstN s) e.1.1 < far (fstN s) e'.1.1 := h.rise.sublist hsub
      have h1 : ∀ e ∈ e1 :: l1, far (fstN s) e1.1.1 ≤ far (fstN s) e.1.1 := fun e he => by
        rcases List.mem_cons.1 he with rfl | he
        · exact Int.le_refl _
        · exact Int.le_of_lt ((List.pairwise_cons.1 hr).1 e he)
      have hb0 := far_bd (fstN s) e1.1.1
      refine ⟨h.win, h.tries, h.wok, h.wl, h.nx, fun e he => ?_, ?_, fun e he => ?_, ?_, fun e he => h.bok e (hin e he), fun e he => h.sent e (hin e he)⟩
      · rw [hf, far_shift (h1 e he)]
        have := h.inw e (hin e he)
        show _ < s.win
        omega
      · rw [hf]
        refine List.Pairwise.imp_of_mem (fun {x y} hx hy hxy => ?_) hr
        rw [far_shift (h1 x hx), far_shift (h1 y hy)]
        omega
      · have h2 := h.below e (hin e he)
        have h3 := h.below e1 (hin e1 List.mem_cons_self)
        rw [hf, far_shift (h1 e he)]
        show _ < far e1.1.1 s.nx
        rw [far_shift (Int.le_of_lt h3)]
        omega
      · have h3 := h.below e1 (hin e1 List.mem_cons_self)
        rw [hf]
        show far e1.1.1 s.nx ≤ s.win
        rw [far_shift (Int.le_of_lt h3)]
        have := h.top
        omega
  · rw [if_neg hg]; exact h
end Go.Proofs.Ytfiaghfaijlfjaa

namespace Go.Proofs.Ytfiaghfaijlfjaa
set_option maxRecDepth 100000

theorem numAt_succ (n : Int) (i : Nat) : numAt n (i + 1) = nxt (numAt n i) := by
  induction i generalizing n with
  | zero => rfl
  | succ i ih => exact ih (nxt n)
theorem numAt_add (n : Int) (i j : Nat) : numAt n (i + j) = numAt (numAt n i) j := by
  induction i generalizing n with
  | zero => rw [Nat.zero_add]; rfl
  | succ i ih =>
    rw [show i + 1 + j = (i + j) + 1 by omega]
    exact ih (nxt n)
theorem numAt_rng {n : Int} (h : 0 ≤ n ∧ n ≤ 65535) (i : Nat) : 0 ≤ numAt n i ∧ numAt n i ≤ 65535 := by
  cases i with
  | zero => exact h
  | succ i => rw [numAt_succ]; exact nxt_rng _
theorem far_nxt {f x : Int} (h : far f x < 65535) : far f (nxt x) = far f x + 1 := by
  unfold far nxt at *
  omega
theorem far_same {a b : Int} (ha : 0 ≤ a ∧ a ≤ 65535) (hb : 0 ≤ b ∧ b ≤ 65535) (h : far a b = 0) : a = b := by
  unfold far at h
  omega
/-- What is sent, and what is not. -/
theorem sdT_split (s : Sd) : ∃ R, packL 512 s.W s.nx = sdT s ++ R ∧ ∀ p l, R = p :: l → ¬ far (fstN s) p.1 < s.win := by
  refine ⟨(packL 512 s.W s.nx).dropWhile fun p => decide (far (fstN s) p.1 < s.win), (List.takeWhile_append_dropWhile ..).symm, fun p l h => ?_⟩
  have := List.head?_dropWhile_not (fun p : Bt => decide (far (fstN s) p.1 < s.win)) (packL 512 s.W s.nx)
  rw [h] at this
  simpa using this
theorem sdT_in {s : Sd} {p : Bt} (h : p ∈ sdT s) : far (fstN s) p.1 < s.win := by
  have := List.all_eq_true.1 (List.all_takeWhile (p := fun p : Bt => decide (far (fstN s) p.1 < s.win)) (l := packL 512 s.W s.nx)) p h
  simpa using this
theorem getD_app {α : Type} {xs ys : List α} {i : Nat} {d : α} (h : i < xs.length) : (xs ++ ys).getD i d = xs.getD i d := by simp [List.getD, List.getElem?_append, h]
theorem getD_mem {α : Type} {xs : List α} {i : Nat} {d : α} (h : i < xs.length) : xs.getD i d ∈ xs := by
  have : xs.getD i d = xs[i] := by simp [List.getD, h]
  rw [this]; exact List.getElem_mem h
/-- Objects go in their order. -/
theorem send_all (s : Sd) : ((sdT s).map Prod.snd).flatten ++ (sdS s).W = s.W := by
  obtain ⟨R, hR, _⟩ := sdT_split s
  have hall := packL_all 512 s.W s.nx
  rw [hR, List.map_append, List.flatten_append] at hall
  have hc : cnt (sdT s) = ((sdT s).map Prod.snd).flatten.length := by
    unfold cnt
    rw [List.length_flatten, List.map_map]
    rfl
  show _ ++ s.W.drop (cnt (sdT s)) = s.W
  rw [hc]
  conv => lhs; rw [← hall]
  conv => rhs; rw [← hall]
  rw [List.length_flatten] 
  have e : ((((sdT s).map Prod.snd).flatten ++ (R.map Prod.snd).flatten).drop (((sdT s).map Prod.snd).flatten).length) = (R.map Prod.snd).flatten := List.drop_left ..
  rw [List.length_flatten] at e
  rw [e]
section
variable {s : Sd} (h : SdOk s)
include h
theorem lft_nx : lft s.nx = s.nx := by unfold lft; have := h.nx; omega
theorem sdT_num (i : Nat) (hi : i < (sdT s).length) : ((sdT s).getD i zb).1 = numAt s.nx i := by
  obtain ⟨R, hR, _⟩ := sdT_split s
  have hl : i < (packL 512 s.W s.nx).length := by rw [hR, List.length_append]; omega
  have := packL_num 512 s.W s.nx i hl
  rw [lft_nx h, hR, getD_app hi] at this
  exact this
theorem sdT_far (i : Nat) (hi : i < (sdT s).length) : far (fstN s) (numAt s.nx i) = far (fstN s) s.nx + i := by
  induction i with
  | zero => show far (fstN s) s.nx = _; simp
  | succ i ih =>
    have h1 := ih (by omega)
    have h2 := sdT_in (getD_mem (d := zb) (show i < (sdT s).length by omega))
    rw [sdT_num h i (by omega)] at h2
    have hw := h.win
    rw [numAt_succ, far_nxt (by omega), h1]
    omega
theorem sdT_top : far (fstN s) (nxA s.nx (sdT s)) = far (fstN s) s.nx + (sdT s).length ∧ far (fstN s) s.nx + (sdT s).length ≤ s.win := by
  unfold nxA
  cases hl : (sdT s).length with
  | zero => exact ⟨by show far (fstN s) s.nx = _; simp, by have := h.top; omega⟩
  | succ k =>
    have h1 := sdT_far h k (by omega)
    have h2 := sdT_in (getD_mem (d := zb) (show k < (sdT s).length by omega))
    rw [sdT_num h k (by omega)] at h2
    have hw := h.win
    exact ⟨by rw [numAt_succ, far_nxt (by omega), h1]; omega, by omega⟩
theorem fst_send : fstN (sdS s) = fstN s := by
  unfold sdS
  cases hL : s.L with
  | cons e l => unfold fstN; rw [hL]; rfl
  | nil =>
    cases hT : sdT s with
    | nil => unfold fstN nxA; rw [hL]; rfl
    | cons p l =>
      have := sdT_num h 0 (by rw [hT]; exact Nat.zero_lt_succ _)
      rw [hT] at this
      unfold fstN
      rw [hL]
      exact this
theorem sdok_send : SdOk (sdS s) := by
  have hf := fst_send h
  obtain ⟨t1, t2⟩ := sdT_top h
  have hmem : ∀ e ∈ (sdS s).L, e ∈ s.L ∨ ∃ i, i < (sdT s).length ∧ e = ((sdT s).getD i zb, 1) := fun e he => by
    rcases List.mem_append.1 he with he | he
    · exact .inl he
    · obtain ⟨p, hp, rfl⟩ := List.mem_map.1 he
      obtain ⟨i, hi, rfl⟩ := List.mem_iff_getElem.1 hp
      exact .inr ⟨i, hi, by simp [List.getD, hi]⟩
  have hfar : ∀ i, i < (sdT s).length → far (fstN s) ((sdT s).getD i zb).1 = far (fstN s) s.nx + i := fun i hi => by rw [sdT_num h i hi]; exact sdT_far h i hi
  have hd0 := far_bd (fstN s) s.nx
  refine ⟨h.win, h.tries, allok_drop h.wok _, by show (s.W.drop _).length ≤ 1024; rw [List.length_drop]; have := h.wl; omega, numAt_rng h.nx _, fun e he => ?_, ?_, fun e he => ?_, by rw [hf]; show far (fstN s) (nxA s.nx (sdT s)) ≤ s.win; omega, fun e he => ?_, fun e he => ?_⟩
  · rw [hf]
    rcases hmem e he with h1 | ⟨i, hi, rfl⟩
    · exact h.inw e h1
    · exact sdT_in (getD_mem hi)
  · rw [hf]
    show (s.L ++ (sdT s).map fun p => (p, (1 : Int))).Pairwise _
    rw [List.pairwise_append]
    refine ⟨h.rise, ?_, fun x hx y hy => ?_⟩
    · rw [List.pairwise_map, List.pairwise_iff_getElem]
      intro i j hi hj hij
      have e1 := hfar i hi
      have e2 := hfar j hj
      have g1 : (sdT s).getD i zb = (sdT s)[i] := by simp [List.getD, hi]
      have g2 : (sdT s).getD j zb = (sdT s)[j] := by simp [List.getD, hj]
      rw [g1] at e1
      rw [g2] at e2
      show far (fstN s) (sdT s)[i].1 < far (fstN s) (sdT s)[j].1
      omega
    · obtain ⟨p, hp, rfl⟩ := List.mem_map.1 hy
      obtain ⟨i, hi, rfl⟩ := List.mem_iff_getElem.1 hp
      have g1 : (sdT s).getD i zb = (sdT s)[i] := by simp [List.getD, hi]
      have e1 := hfar i hi
      rw [g1] at e1
      have e2 := h.below x hx
      show far (fstN s) x.1.1 < far (fstN s) (sdT s)[i].1
      omega
  · rw [hf]
    show far (fstN s) e.1.1 < far (fstN s) (nxA s.nx (sdT s))
    rcases hmem e he with h1 | ⟨i, hi, rfl⟩
    · have := h.below e h1; omega
    · have := hfar i hi
      show far (fstN s) ((sdT s).getD i zb).1 < _
      omega
  · rcases hmem e he with h1 | ⟨i, hi, rfl⟩
    · exact h.bok e h1
    · obtain ⟨R, hR, _⟩ := sdT_split s
      have hl : i < (packL 512 s.W s.nx).length := by rw [hR, List.length_append]; omega
      have := packL_ok h.wok (most := 512) ⟨by decide, by decide⟩ s.nx i hl
      rw [hR, getD_app hi] at this
      exact this.1
  · rcases hmem e he with h1 | ⟨i, hi, rfl⟩
    · exact h.sent e h1
    · exact ⟨Int.le_refl _, h.tries.1⟩
/-- A second Send sends nothing. -/
theorem send_twice : sdT (sdS s) = [] := by
  obtain ⟨R, hR, hst⟩ := sdT_split s
  have hall := send_all s
  have hp := packL_all 512 s.W s.nx
  rw [hR, List.map_append, List.flatten_append] at hp
  have hW : (sdS s).W = (R.map Prod.snd).flatten := List.append_cancel_left (hall.trans hp.symm)
  have h2 := sdok_send h
  cases R with
  | nil =>
    have h0 : (sdS s).W = [] := hW
    unfold sdT
    rw [h0]
    rfl
  | cons p l =>
    have hno := hst p l rfl
    have hl : (sdT s).length < (packL 512 s.W s.nx).length := by rw [hR, List.length_append, List.length_cons]; omega
    have hn := packL_num 512 s.W s.nx (sdT s).length hl
    have e : (packL 512 s.W s.nx).getD (sdT s).length zb = p := by rw [hR]; simp [List.getD]
    rw [e, lft_nx h] at hn
    obtain ⟨R2, hR2, _⟩ := sdT_split (sdS s)
    cases hT : sdT (sdS s) with
    | nil => rfl
    | cons q l2 =>
      have h3 := sdT_num h2 0 (by rw [hT]; exact Nat.zero_lt_succ _)
      have h4 := sdT_in (s := sdS s) (p := q) (by rw [hT]; exact List.mem_cons_self)
      rw [hT] at h3
      have h5 : q.1 = nxA s.nx (sdT s) := h3
      rw [fst_send h, h5] at h4
      exact absurd (show far (fstN s) p.1 < s.win by rw [hn]; exact h4) hno
end
/-- The numbers of what is sent. -/
theorem send_nums {s : Sd} (h : SdOk s) (i : Nat) (hi : i < (sdT s).length) : ((sdT s).getD i zb).1 = numAt s.nx i := sdT_num h i hi
theorem rows_le {f : Bt × Int → Int} {b : Int} : ∀ (l : List (Bt × Int)) (a : Int), (∀ e ∈ l, a ≤ f e ∧ f e < b) → l.Pairwise (fun x y => f x < f y) → a ≤ b → (l.length : Int) ≤ b - a
  | [], a, _, _, hab => by show (0 : Int) ≤ _; omega
  | e :: l, a, hm, hp, hab => by
    obtain ⟨h1, h2⟩ := List.pairwise_cons.1 hp
    have h3 := hm e List.mem_cons_self
    have ih := rows_le l (f e + 1) (fun x hx => ⟨by have := h1 x hx; omega, (hm x (List.mem_cons_of_mem _ hx)).2⟩) h2 (by omega)
    rw [List.length_cons]
    omega
/-- No more are out than the window. -/
theorem out_le {s : Sd} (h : SdOk s) : (s.out.length : Int) ≤ s.win := by
  have := rows_le (f := fun e => far (fstN s) e.1.1) (b := s.win) s.L 0 (fun e he => ⟨(far_bd _ _).1, h.inw e he⟩) h.rise (by have := h.win; omega)
  unfold Sd.out
  rw [List.length_map]
  omega
theorem out_within {s : Sd} (h : SdOk s) {k : Nat} (hk : k < s.out.length) : far (s.out.getD 0 zb).1 (s.out.getD k zb).1 < s.win := by
  have hk' : k < s.L.length := by unfold Sd.out at hk; rw [List.length_map] at hk; exact hk
  cases hL : s.L with
  | nil => rw [hL] at hk'; exact absurd hk' (Nat.not_lt_zero k)
  | cons e l =>
    have e0 : (s.out.getD 0 zb).1 = fstN s := by unfold Sd.out fstN; rw [hL]; rfl
    have e1 : s.out.getD k zb = (s.L[k]).1 := by unfold Sd.out; simp [List.getD, hk']
    rw [e0, e1]
    exact h.inw _ (List.getElem_mem hk')
theorem sub_send {s : Sd} {l : List Bt} (h : s.out.Sublist l) : (sdS s).out.Sublist (l ++ sdT s) := by
  have e : (sdS s).out = s.out ++ sdT s := by
    unfold Sd.out sdS
    rw [List.map_append, List.map_map]
    congr 1
    exact List.map_id _
  rw [e]
  exact h.append (List.Sublist.refl _)
theorem out_again (s : Sd) : (agS s).out = s.out := by
  unfold agS Sd.out
  cases agB s with
  | false => rfl
  | true => rw [if_pos rfl, List.map_map]; rfl
theorem out_got (s : Sd) (a : Ak) : (gtS s a).out.Sublist s.out := by
  unfold gtS Sd.out
  by_cases h : gtB s a
  · rw [if_pos h]; exact List.filter_sublist.map _
  · rw [if_neg h]; exact List.Sublist.refl _
theorem got_len (s : Sd) (a : Ak) : (gtS s a).L.length + gtN s a = s.L.length := by
  have : (gtS s a).L.length ≤ s.L.length := by
    unfold gtS
    by_cases h : gtB s a
    · rw [if_pos h]; exact List.length_filter_le _ _
    · rw [if_neg h]; exact Nat.le_refl _
  unfold gtN
  omega
theorem gtS_yes {s : Sd} {a : Ak} (h : gtB s a) : gtS s a = { s with L := s.L.filter (kpt a) } := if_pos h
theorem gtS_no {s : Sd} {a : Ak} (h : ¬ gtB s a) : gtS s a = s := if_neg h
/-- A second ack of the same tells nothing more. -/
theorem got_twice (s : Sd) (a : Ak) : gtN (gtS s a) a = 0 := by
  unfold gtN
  by_cases h2 : gtB (gtS s a) a
  · rw [gtS_yes h2]
    by_cases h : gtB s a
    · rw [gtS_yes h]
      show (s.L.filter (kpt a)).length - ((s.L.filter (kpt a)).filter (kpt a)).length = 0
      rw [List.filter_filter]
      simp
    · rw [gtS_no h] at h2
      exact absurd h2 h
  · rw [gtS_no h2]; omega
end Go.Proofs.Ytfiaghfaijlfjaa

namespace Go.Proofs.Ytfiaghfaijlfjaa
set_option maxRecDepth 100000
set_option linter.unusedVariables false

structure Tk where
  nx : Int
  H : List Bt
def tk0 : Tk := ⟨0, []⟩
def nums (H : List Bt) : List Int := H.map Prod.fst
def findH (H : List Bt) (n : Int) : Option Bt := H.find? fun h => h.1 == n
def dropH (H : List Bt) (n : Int) : List Bt := H.filter fun h => !(h.1 == n)
/-- As long as the batch of next is held its objects are told. -/
def runT : Nat → Tk → List Ob × Tk
  | 0, t => ([], t)
  | f + 1, t => match findH t.H t.nx with
    | none => ([], t)
    | some h => (h.2 ++ (runT f ⟨nxt t.nx, dropH t.H t.nx⟩).1, (runT f ⟨nxt t.nx, dropH t.H t.nx⟩).2)
/-- What Take answers (objects, error), and leaves. -/
def takeR (t : Tk) (x : Bt) : (List Ob × Int) × Tk :=
  if ¬ BtOk x.1 x.2 then (([], 1), t) else
  if 32768 ≤ far t.nx x.1 then (([], 10), t) else
  if 16 < far t.nx x.1 then (([], 1), t) else
  if (findH t.H x.1).isSome = true then (([], 9), t) else
  (((runT (t.H.length + 1) ⟨t.nx, t.H ++ [x]⟩).1, 0), (runT (t.H.length + 1) ⟨t.nx, t.H ++ [x]⟩).2)
structure TkOk (t : Tk) : Prop where
  nx : 0 ≤ t.nx ∧ t.nx ≤ 65535
  ok : ∀ h ∈ t.H, BtOk h.1 h.2
  near : ∀ h ∈ t.H, 1 ≤ far t.nx h.1 ∧ far t.nx h.1 ≤ 16
  nd : (nums t.H).Nodup
theorem tkok_new : TkOk tk0 := ⟨⟨Int.le_refl 0, (show (0 : Int) ≤ 65535 by decide)⟩, fun h hh => absurd hh List.not_mem_nil, fun h hh => absurd hh List.not_mem_nil, List.nodup_nil⟩
theorem findH_some {H : List Bt} {n : Int} {h : Bt} (hf : findH H n = some h) : h ∈ H ∧ h.1 = n := by
  have h1 := List.mem_of_find?_eq_some hf
  have h2 := List.find?_some hf
  exact ⟨h1, by simpa using h2⟩
theorem findH_none {H : List Bt} {n : Int} (hf : findH H n = none) : ∀ h ∈ H, h.1 ≠ n := by
  intro h hh e
  have := List.find?_eq_none.1 hf h hh
  simp [e] at this
theorem mem_dropH {H : List Bt} {n : Int} {h : Bt} : h ∈ dropH H n ↔ h ∈ H ∧ h.1 ≠ n := by
  unfold dropH
  rw [List.mem_filter]
  simp
theorem dropH_sub (H : List Bt) (n : Int) : (dropH H n).Sublist H := List.filter_sublist
theorem nums_drop {H : List Bt} {n : Int} (h : (nums H).Nodup) : (nums (dropH H n)).Nodup := h.sublist ((dropH_sub H n).map _)
/-- One that is held is one less. -/
theorem dropH_len {H : List Bt} {n : Int} {h : Bt} (hf : findH H n = some h) (hnd : (nums H).Nodup) : (dropH H n).length + 1 = H.length := by
  obtain ⟨hm, he⟩ := findH_some hf
  clear hf
  induction H with
  | nil => exact absurd hm List.not_mem_nil
  | cons a H ih =>
    have hnd' : a.1 ∉ nums H ∧ (nums H).Nodup := List.nodup_cons.1 hnd
    rcases List.mem_cons.1 hm with rfl | hm
    · have e : dropH H n = H := by
        unfold dropH
        rw [List.filter_eq_self]
        intro y hy
        have : y.1 ≠ n := fun e2 => hnd'.1 (by rw [he, ← e2]; exact List.mem_map.2 ⟨y, hy, rfl⟩)
        simpa using this
      have e2 : dropH (h :: H) n = dropH H n := by
        unfold dropH
        rw [List.filter_cons_of_neg]
        simp [he]
      rw [e2, e]
      rfl
    · have hne : a.1 ≠ n := fun e2 => hnd'.1 (by rw [e2, ← he]; exact List.mem_map.2 ⟨h, hm, rfl⟩)
      have e2 : dropH (a :: H) n = a :: dropH H n := by
        unfold dropH
        rw [List.filter_cons_of_pos]
        simpa using hne
      rw [e2, List.length_cons, List.length_cons, ih hnd'.2 hm]
/-- A taker in the midst of telling: next itself may be held. -/
structure TkMid (t : Tk) : Prop where
  nx : 0 ≤ t.nx ∧ t.nx ≤ 65535
  ok : ∀ h ∈ t.H, BtOk h.1 h.2
  near : ∀ h ∈ t.H, far t.nx h.1 ≤ 16
  nd : (nums t.H).Nodup
theorem bt_rng {h : Bt} (hb : BtOk h.1 h.2) : 0 ≤ h.1 ∧ h.1 ≤ 65535 := hb.1
theorem mid_step {t : Tk} (h : TkMid t) {x : Bt} (hf : findH t.H t.nx = some x) : TkMid ⟨nxt t.nx, dropH t.H t.nx⟩ := by
  refine ⟨nxt_rng _, fun y hy => h.ok y (mem_dropH.1 hy).1, fun y hy => ?_, nums_drop h.nd⟩
  obtain ⟨h1, h2⟩ := mem_dropH.1 hy
  have h3 := h.near y h1
  have h4 := bt_rng (h.ok y h1)
  have h5 := h.nx
  show far (nxt t.nx) y.1 ≤ 16
  unfold far nxt at *
  omega
/-- What is told, batch for batch, and what is left. -/
theorem runT_ok : ∀ (f : Nat) (t : Tk), TkMid t → t.H.length ≤ f → TkOk (runT f t).2 ∧ ∃ B : List Bt, (runT f t).1 = (B.map Prod.snd).flatten ∧ (∀ i (hi : i < B.length), B[i] ∈ t.H ∧ B[i].1 = numAt t.nx i) ∧ (runT f t).2.nx = numAt t.nx B.length ∧ (runT f t).2.H.length + B.length = t.H.length ∧ (∀ h, h ∈ (runT f t).2.H ↔ h ∈ t.H ∧ h ∉ B) ∧ findH (runT f t).2.H (runT f t).2.nx = none
  | 0, t, hm, hl => by
    have e : t.H = [] := List.eq_nil_of_length_eq_zero (by omega)
    refine ⟨⟨hm.nx, hm.ok, fun h hh => ?_, hm.nd⟩, [], rfl, fun i hi => absurd hi (Nat.not_lt_zero i), rfl, rfl, fun h => ⟨fun hh => ⟨hh, List.not_mem_nil⟩, fun hh => hh.1⟩, ?_⟩
    · have hh' : h ∈ t.H := hh
      rw [e] at hh'
      exact absurd hh' List.not_mem_nil
    · show findH t.H t.nx = none
      rw [e]
      rfl
  | f + 1, t, hm, hl => by
    cases hf : findH t.H t.nx with
    | none =>
      have e : runT (f + 1) t = ([], t) := by simp only [runT, hf]
      rw [e]
      refine ⟨⟨hm.nx, hm.ok, fun h hh => ⟨?_, hm.near h hh⟩, hm.nd⟩, [], rfl, fun i hi => absurd hi (Nat.not_lt_zero i), rfl, rfl, fun h => ⟨fun hh => ⟨hh, List.not_mem_nil⟩, fun hh => hh.1⟩, hf⟩
      have h1 := findH_none hf h hh
      have h2 := bt_rng (hm.ok h hh)
      have h3 := hm.nx
      show 1 ≤ far t.nx h.1
      unfold far
      omega
    | some x =>
      obtain ⟨hx1, hx2⟩ := findH_some hf
      have hlen := dropH_len hf hm.nd
      obtain ⟨k1, B, k2, k3, k4, k5, k6, k7⟩ := runT_ok f ⟨nxt t.nx, dropH t.H t.nx⟩ (mid_step hm hf) (by show (dropH t.H t.nx).length ≤ f; omega)
      have e : runT (f + 1) t = (x.2 ++ (runT f ⟨nxt t.nx, dropH t.H t.nx⟩).1, (runT f ⟨nxt t.nx, dropH t.H t.nx⟩).2) := by simp only [runT, hf]
      rw [e]
      refine ⟨k1, x :: B, ?_, ?_, ?_, ?_, ?_, k7⟩
      · show x.2 ++ _ = _
        rw [k2]
        rfl
      · intro i hi
        cases i with
        | zero => exact ⟨hx1, hx2⟩
        | succ i =>
          obtain ⟨h1, h2⟩ := k3 i (by simpa using hi)
          exact ⟨(mem_dropH.1 h1).1, h2⟩
      · exact k4
      · show (runT f ⟨nxt t.nx, dropH t.H t.nx⟩).2.H.length + (B.length + 1) = t.H.length
        have k5' : (runT f ⟨nxt t.nx, dropH t.H t.nx⟩).2.H.length + B.length = (dropH t.H t.nx).length := k5
        omega
      · intro h
        rw [k6 h]
        show h ∈ dropH t.H t.nx ∧ h ∉ B ↔ _
        rw [mem_dropH, List.mem_cons, not_or]
        constructor
        · rintro ⟨⟨h1, h2⟩, h3⟩
          exact ⟨h1, fun e => h2 (by rw [e]; exact hx2), h3⟩
        · rintro ⟨h1, h2, h3⟩
          refine ⟨⟨h1, fun e => h2 ?_⟩, h3⟩
          have hnd := hm.nd
          -- two of one number are the same
          have : ∀ (H : List Bt), (nums H).Nodup → ∀ a ∈ H, ∀ b ∈ H, a.1 = b.1 → a = b := by
            intro H
            induction H with
            | nil => intro _ a ha; exact absurd ha List.not_mem_nil
            | cons c H ih =>
              intro hn a ha b hb hab
              have hn' : c.1 ∉ nums H ∧ (nums H).Nodup := List.nodup_cons.1 hn
              rcases List.mem_cons.1 ha with h1 | ha
              · rcases List.mem_cons.1 hb with h2 | hb
                · exact h1.trans h2.symm
                · exact absurd (by rw [← h1, hab]; exact List.mem_map.2 ⟨b, hb, rfl⟩) hn'.1
              · rcases List.mem_cons.1 hb with h2 | hb
                · exact absurd (by rw [← h2, ← hab]; exact List.mem_map.2 ⟨a, ha, rfl⟩) hn'.1
                · exact ih hn'.2 a ha b hb hab
          exact this t.H hnd h h1 x hx1 (e.trans hx2.symm)
end Go.Proofs.Ytfiaghfaijlfjaa

namespace Go.Proofs.Ytfiaghfaijlfjaa
set_option maxRecDepth 100000
set_option linter.unusedVariables false

/-- Take has room for x. -/
def TkIn (t : Tk) (x : Bt) : Prop := BtOk x.1 x.2 ∧ far t.nx x.1 ≤ 16 ∧ findH t.H x.1 = none
/-- What is refused turns nothing, and tells nothing. -/
theorem take_no {t : Tk} {x : Bt} (h : ¬ TkIn t x) : ∃ e : Int, takeR t x = (([], e), t) ∧ (e = 1 ∨ e = 10 ∨ e = 9) := by
  unfold takeR
  by_cases h1 : BtOk x.1 x.2
  · rw [if_neg (fun g => g h1)]
    by_cases h2 : 32768 ≤ far t.nx x.1
    · exact ⟨10, if_pos h2, .inr (.inl rfl)⟩
    · rw [if_neg h2]
      by_cases h3 : 16 < far t.nx x.1
      · exact ⟨1, if_pos h3, .inl rfl⟩
      · rw [if_neg h3]
        by_cases h4 : (findH t.H x.1).isSome = true
        · exact ⟨9, if_pos h4, .inr (.inr rfl)⟩
        · exact absurd ⟨h1, by omega, by simpa using h4⟩ h
  · exact ⟨1, if_pos h1, .inl rfl⟩
theorem take_in {t : Tk} {x : Bt} (h : TkIn t x) : takeR t x = (((runT (t.H.length + 1) ⟨t.nx, t.H ++ [x]⟩).1, 0), (runT (t.H.length + 1) ⟨t.nx, t.H ++ [x]⟩).2) := by
  unfold takeR
  rw [if_neg (fun g => g h.1), if_neg (by have := h.2.1; omega), if_neg (by have := h.2.1; omega), if_neg (by rw [h.2.2]; decide)]
theorem mid_in {t : Tk} (ht : TkOk t) {x : Bt} (h : TkIn t x) : TkMid ⟨t.nx, t.H ++ [x]⟩ := by
  refine ⟨ht.nx, fun y hy => ?_, fun y hy => ?_, ?_⟩
  · rcases List.mem_append.1 hy with hy | hy
    · exact ht.ok y hy
    · rw [List.mem_singleton.1 hy]; exact h.1
  · rcases List.mem_append.1 hy with hy | hy
    · exact (ht.near y hy).2
    · rw [List.mem_singleton.1 hy]; exact h.2.1
  · show (List.map Prod.fst (t.H ++ [x])).Nodup
    rw [List.map_append, List.nodup_append]
    refine ⟨ht.nd, by simp, fun a ha b hb e => ?_⟩
    obtain ⟨y, hy, rfl⟩ := List.mem_map.1 ha
    simp only [List.map_cons, List.map_nil, List.mem_singleton] at hb
    exact findH_none h.2.2 y hy (e.trans hb)
/-- What Take tells of what it has room for: batches in their order from next on, and what is left. -/
theorem take_ok {t : Tk} (ht : TkOk t) {x : Bt} (h : TkIn t x) : (takeR t x).1.2 = 0 ∧ TkOk (takeR t x).2 ∧ ∃ B : List Bt, (takeR t x).1.1 = (B.map Prod.snd).flatten ∧ (∀ i (hi : i < B.length), (B[i] ∈ t.H ∨ B[i] = x) ∧ B[i].1 = numAt t.nx i) ∧ (takeR t x).2.nx = numAt t.nx B.length ∧ (takeR t x).2.H.length + B.length = t.H.length + 1 ∧ (∀ y, y ∈ (takeR t x).2.H ↔ (y ∈ t.H ∨ y = x) ∧ y ∉ B) ∧ findH (takeR t x).2.H (takeR t x).2.nx = none := by
  have hl : (t.H ++ [x]).length = t.H.length + 1 := by rw [List.length_append]; rfl
  obtain ⟨k1, B, k2, k3, k4, k5, k6, k7⟩ := runT_ok (t.H.length + 1) ⟨t.nx, t.H ++ [x]⟩ (mid_in ht h) (by show (t.H ++ [x]).length ≤ _; omega)
  rw [take_in h]
  refine ⟨rfl, k1, B, k2, fun i hi => ?_, k4, k5.trans hl, fun y => ?_, k7⟩
  · obtain ⟨h1, h2⟩ := k3 i hi
    refine ⟨?_, h2⟩
    rcases List.mem_append.1 h1 with h1 | h1
    · exact .inl h1
    · exact .inr (List.mem_singleton.1 h1)
  · rw [k6 y]
    show y ∈ t.H ++ [x] ∧ _ ↔ _
    rw [List.mem_append, List.mem_singleton]
theorem tkok_take {t : Tk} (ht : TkOk t) (x : Bt) : TkOk (takeR t x).2 := by
  by_cases h : TkIn t x
  · exact (take_ok ht h).2.1
  · obtain ⟨e, he, _⟩ := take_no h
    rw [he]; exact ht
/-- No more are held than sixteen. -/
theorem nodup_le : ∀ (l : List Int) (k : Nat), l.Nodup → (∀ n ∈ l, 1 ≤ n ∧ n ≤ k) → l.length ≤ k
  | l, 0, _, h => by
    cases l with
    | nil => exact Nat.le_refl _
    | cons a l => have := h a List.mem_cons_self; omega
  | l, k + 1, hn, h => by
    have h1 := nodup_le (l.filter fun n => !(n == ((k + 1 : Nat) : Int))) k (hn.sublist List.filter_sublist) (fun n hm => by
      obtain ⟨h2, h3⟩ := List.mem_filter.1 hm
      have h4 := h n h2
      have h5 : n ≠ ((k + 1 : Nat) : Int) := by simpa using h3
      omega)
    have h2 : l.length ≤ (l.filter fun n => !(n == ((k + 1 : Nat) : Int))).length + 1 := by
      clear h h1
      induction l with
      | nil => exact Nat.zero_le _
      | cons a l ih =>
        obtain ⟨h3, h4⟩ := List.nodup_cons.1 hn
        by_cases ha : a = ((k + 1 : Nat) : Int)
        · have e : (l.filter fun n => !(n == ((k + 1 : Nat) : Int))) = l := by
            rw [List.filter_eq_self]
            intro y hy
            have : y ≠ ((k + 1 : Nat) : Int) := fun e => h3 (by rw [ha, ← e]; exact hy)
            simpa using this
          rw [List.filter_cons_of_neg (by simp [ha]), e, List.length_cons]
          exact Nat.le_refl _
        · rw [List.filter_cons_of_pos (by simpa using ha), List.length_cons, List.length_cons]
          have := ih h4
          omega
    omega
theorem held_le {t : Tk} (ht : TkOk t) : t.H.length ≤ 16 := by
  have h1 : ((t.H.map fun h => far t.nx h.1)).Nodup := by
    have h2 : (t.H.map fun h => far t.nx h.1) = (nums t.H).map (far t.nx) := by unfold nums; rw [List.map_map]; rfl
    rw [h2]
    have hr : ∀ n ∈ nums t.H, 0 ≤ n ∧ n ≤ 65535 := fun n hn => by
      obtain ⟨h, hh, rfl⟩ := List.mem_map.1 hn
      exact bt_rng (ht.ok h hh)
    have hnd := ht.nd
    generalize nums t.H = l at hr hnd
    induction l with
    | nil => exact List.nodup_nil
    | cons a l ih =>
      obtain ⟨h3, h4⟩ := List.nodup_cons.1 hnd
      rw [List.map_cons, List.nodup_cons]
      refine ⟨fun hm => ?_, ih (fun n hn => hr n (List.mem_cons_of_mem _ hn)) h4⟩
      obtain ⟨c, hc, he⟩ := List.mem_map.1 hm
      have r1 := hr a List.mem_cons_self
      have r2 := hr c (List.mem_cons_of_mem _ hc)
      have : c = a := by unfold far at he; omega
      exact h3 (this ▸ hc)
  have h5 := nodup_le _ 16 h1 (fun n hn => by
    obtain ⟨h, hh, rfl⟩ := List.mem_map.1 hn
    exact ht.near h hh)
  rw [List.length_map] at h5
  exact h5
/-- How far next went. -/
theorem far_numAt {n : Int} (hn : 0 ≤ n ∧ n ≤ 65535) : ∀ k : Nat, k < 65536 → far n (numAt n k) = k
  | 0, _ => by show far n n = 0; exact far_self n
  | k + 1, h => by
    have h1 := far_numAt hn k (by omega)
    rw [numAt_succ, far_nxt (by rw [h1]; omega), h1]
    omega
theorem flat_ge : ∀ B : List Bt, (∀ y ∈ B, 1 ≤ y.2.length) → B.length ≤ ((B.map Prod.snd).flatten).length
  | [], _ => Nat.le_refl _
  | y :: B, hb => by
    rw [List.map_cons, List.flatten_cons, List.length_append, List.length_cons]
    have h1 := hb y List.mem_cons_self
    have h2 := flat_ge B (fun z hz => hb z (List.mem_cons_of_mem _ hz))
    omega
theorem take_more {t : Tk} (ht : TkOk t) {x : Bt} (h : TkIn t x) : ∃ m : Nat, far t.nx (takeR t x).2.nx = m ∧ m ≤ 17 ∧ (takeR t x).2.H.length + m = t.H.length + 1 ∧ m ≤ (takeR t x).1.1.length ∧ (m = 0 → (takeR t x).1.1 = []) := by
  obtain ⟨_, _, B, k2, k3, k4, k5, _, _⟩ := take_ok ht h
  have hl := held_le ht
  refine ⟨B.length, by rw [k4]; exact far_numAt ht.nx B.length (by omega), by omega, k5, ?_, fun e => ?_⟩
  · rw [k2]
    have hb : ∀ y ∈ B, 1 ≤ y.2.length := fun y hy => by
      obtain ⟨i, hi, rfl⟩ := List.mem_iff_getElem.1 hy
      rcases (k3 i hi).1 with h1 | h1
      · exact (ht.ok _ h1).2.1.1
      · rw [h1]; exact h.1.2.1.1
    exact flat_ge B hb
  · have e2 : B = [] := List.eq_nil_of_length_eq_zero e
    rw [k2, e2]
    rfl
end Go.Proofs.Ytfiaghfaijlfjaa

namespace Go.Proofs.Ytfiaghfaijlfjaa
set_option maxRecDepth 100000
set_option linter.unusedVariables false
open Go.RowKit

theorem own_cell {w : World} {base n : Nat} {g cap : Nat} {xs : List Value} {e : TypeId} {size : Nat} (h : w.ownsRow base e size (.slice (some ⟨g, 0, none⟩) n cap) n xs) (j : Nat) (hj : j < n * size) : w.cell? ⟨g, j, none⟩ = xs[j]? := by
  rcases h.2 with ⟨h1, _⟩ | ⟨g', cap', cur, hv, _, hg, _, _, _, htake⟩
  · cases h1
  · simp only [Value.slice.injEq, Option.some.injEq, Addr.mk.injEq, and_true, true_and] at hv
    obtain ⟨rfl, rfl⟩ := hv
    rw [cell_of_row w g j cur e (0, 0) hg, ← htake, List.getElem?_take, if_pos hj]
    simp
theorem Os_of_own {w : World} {base n : Nat} {v : Value} {ys : List Ob} (h : w.ownsRow base 35 12 v n (flat ys)) : Os w v ys ∧ n = ys.length := by
  have hn : n = ys.length := by have := h.1; rw [flat_len] at this; omega
  subst hn
  refine ⟨?_, rfl⟩
  rcases h.2 with ⟨h1, h2⟩ | ⟨g, cap, cur, rfl, _, hg, hnc, _, _, htake⟩
  · exact .inl ⟨none, 0, h1, fun _ => rfl, List.length_eq_zero_iff.1 h2⟩
  · refine .inr ⟨g, 0, cap, rfl, hnc, (Array.getElem?_eq_some_iff.1 hg).1, fun i hi j hj => ?_⟩
    rw [Nat.zero_add, own_cell h (i * 12 + j) (by omega), flat_at ys i j hi hj]
theorem own_form {w : World} {base size n : Nat} {e : TypeId} {v : Value} {xs : List Value} (h : w.ownsRow base e size v n xs) : ∃ a c, v = .slice a n c := by
  rcases h.2 with ⟨rfl, rfl⟩ | ⟨g, cap, cur, rfl, _⟩
  · exact ⟨none, 0, rfl⟩
  · exact ⟨_, _, rfl⟩
/-- Of the blocks that there were only those of F have turned. -/
structure Chg (F : Nat → Prop) (w w' : World) : Prop where
  os : w'.os = w.os
  tape : w'.tape = w.tape
  output : w'.output = w.output
  size : w.heap.size ≤ w'.heap.size
  block : ∀ k, k < w.heap.size → ¬ F k → w'.heap[k]? = w.heap[k]?
theorem Chg.refl (F : Nat → Prop) (w : World) : Chg F w w := ⟨rfl, rfl, rfl, Nat.le_refl _, fun _ _ _ => rfl⟩
theorem Chg.trans {F G : Nat → Prop} {a b c : World} (h : Chg F a b) (k : Chg G b c) (hG : ∀ x, x < a.heap.size → G x → F x) : Chg F a c :=
  ⟨k.os.trans h.os, k.tape.trans h.tape, k.output.trans h.output, Nat.le_trans h.size k.size, fun x hx hn => (k.block x (Nat.lt_of_lt_of_le hx h.size) (fun g => hn (hG x hx g))).trans (h.block x hx hn)⟩
theorem Chg.mono {F G : Nat → Prop} {a b : World} (h : Chg F a b) (hG : ∀ x, x < a.heap.size → F x → G x) : Chg G a b := ⟨h.os, h.tape, h.output, h.size, fun x hx hn => h.block x hx (fun f => hn (hG x hx f))⟩
theorem Chg.drew {F : Nat → Prop} {a w : World} (h : Chg F a w) : Chg F a w.drew := ⟨h.os, h.tape, h.output, h.size, h.block⟩
theorem Chg.alloc {F : Nat → Prop} {a w : World} (h : Chg F a w) (o : Obj) : Chg F a (w.alloc o) :=
  h.trans (G := fun _ => False) ⟨rfl, rfl, rfl, by simp, fun k hk _ => Below.heap_alloc _ _ _ hk⟩ (fun _ _ h => h.elim)
theorem Chg.setCell {F : Nat → Prop} {a w : World} (h : Chg F a w) {p : Addr} (hp : F p.block ∨ a.heap.size ≤ p.block) (u : Value) : Chg F a (w.setCell p u) :=
  h.trans (G := fun k => k = p.block) ⟨rfl, rfl, rfl, by simp [World.setCell], fun k _ hk => Below.heap_setCell _ _ _ _ hk⟩ (fun x hx e => hp.elim (fun f => by rw [e]; exact f) (fun g => absurd hx (by rw [e]; omega)))
theorem Chg.grown {F : Nat → Prop} {a w w' : World} {row : Option Nat} (h : Chg F a w) (hg : w.grownBy w' row) (hr : ∀ k, row = some k → F k ∨ a.heap.size ≤ k) : Chg F a w' :=
  h.trans (G := fun k => row = some k) ⟨hg.os, hg.tape, hg.output, hg.size, fun k hk hn => hg.block k hk (fun e => hn e.symm)⟩ (fun x hx e => (hr x e).elim (fun f => f) (fun g => absurd hx (by omega)))
theorem chg_of {B : Nat} {w w' : World} (h : Below B w w') : Chg (fun k => B ≤ k) w w' := ⟨h.os, h.tape, h.output, h.size, fun k _ hn => h.block k (by omega)⟩
theorem chg0 {F : Nat → Prop} {w w' : World} (h : Below w.heap.size w w') : Chg F w w' := ⟨h.os, h.tape, h.output, h.size, fun k hk _ => h.block k hk⟩
theorem Chg.below {F : Nat → Prop} {B : Nat} {w w' : World} (h : Chg F w w') (hB : B ≤ w.heap.size) (hF : ∀ k, F k → B ≤ k) : Below B w w' :=
  ⟨h.os, h.tape, h.output, h.size, fun k hk => h.block k (by omega) (fun f => by have := hF k f; omega)⟩
theorem Chg.cell {F : Nat → Prop} {w w' : World} (h : Chg F w w') {b j : Nat} (hb : b < w.heap.size) (hn : ¬ F b) : w'.cell? ⟨b, j, none⟩ = w.cell? ⟨b, j, none⟩ := World.cell?_of_block (h.block b hb hn)
theorem Chg.frozen {F : Nat → Prop} {w w' : World} (h : Chg F w w') {b j : Nat} (hb : b < w.heap.size) (hn : ¬ F b) : w'.frozen? ⟨b, j, none⟩ = w.frozen? ⟨b, j, none⟩ := by
  have := h.block b hb hn
  simp only [World.frozen?, this]
/-- A slice that reads as objects, off the blocks of F, in a block of objects. -/
def OsO (w : World) (F : Nat → Prop) (v : Value) (ys : List Ob) : Prop := Os w v ys ∧ ∀ a n c, v = .slice (some a) n c → ys ≠ [] → ¬ F a.block ∧ ∃ cur fz, w.heap[a.block]? = some (.cells cur 35 fz)
/-- A slice that reads as batches, off the blocks of F, its objects too. -/
def BtsO (w : World) (F : Nat → Prop) (v : Value) (bs : List Bt) : Prop :=
  (∃ a cap, v = .slice a 0 cap ∧ (a = none → cap = 0) ∧ bs = []) ∨
  ∃ b off cap, v = .slice (some ⟨b, off, none⟩) bs.length cap ∧ bs.length ≤ cap ∧ b < w.heap.size ∧ ¬ F b ∧ ∀ i, i < bs.length → w.cell? ⟨b, off + i * 2, none⟩ = some (.int .i64 (bs.getD i zb).1) ∧ ∃ u, w.cell? ⟨b, off + i * 2 + 1, none⟩ = some u ∧ u.oneCell' = true ∧ OsO w F u (bs.getD i zb).2
theorem Os.chg {F : Nat → Prop} {w w' : World} {v : Value} {ys : List Ob} (h : Os w v ys) (hc : Chg F w w') (hv : ∀ a n c, v = .slice (some a) n c → ys ≠ [] → ¬ F a.block) : Os w' v ys := by
  by_cases hn : ys = []
  · subst hn
    rcases h with h | ⟨b, off, cap, rfl, h2, h3, _⟩
    · exact .inl h
    · exact .inl ⟨some ⟨b, off, none⟩, cap, rfl, (fun e => nomatch e), rfl⟩
  · rcases h with h | ⟨b, off, cap, rfl, h2, h3, h4⟩
    · exact .inl h
    · exact .inr ⟨b, off, cap, rfl, h2, Nat.lt_of_lt_of_le h3 hc.size, fun i hi j hj => (hc.cell h3 (hv _ _ _ rfl hn)).trans (h4 i hi j hj)⟩
theorem some_lt {w : World} {b : Nat} {o : Obj} (h : w.heap[b]? = some o) : b < w.heap.size := (Array.getElem?_eq_some_iff.1 h).1
theorem OsO.chg {F : Nat → Prop} {w w' : World} {v : Value} {ys : List Ob} (h : OsO w F v ys) (hc : Chg F w w') : OsO w' F v ys :=
  ⟨h.1.chg hc (fun a n c e hn => (h.2 a n c e hn).1), fun a n c e hn => by
    obtain ⟨h1, cur, fz, h2⟩ := h.2 a n c e hn
    exact ⟨h1, cur, fz, (hc.block a.block (some_lt h2) h1).trans h2⟩⟩
theorem OsO.to {F F' : Nat → Prop} {w : World} {v : Value} {ys : List Ob} (h : OsO w F v ys) (hF : ∀ k, F' k → F k ∨ w.heap.size ≤ k) : OsO w F' v ys :=
  ⟨h.1, fun a n c e hn => by
    obtain ⟨h1, cur, fz, h2⟩ := h.2 a n c e hn
    refine ⟨fun hf => ?_, cur, fz, h2⟩
    rcases hF _ hf with g | g
    · exact h1 g
    · have := some_lt h2; omega⟩
theorem BtsO.chg {F : Nat → Prop} {w w' : World} {v : Value} {bs : List Bt} (h : BtsO w F v bs) (hc : Chg F w w') : BtsO w' F v bs := by
  rcases h with h | ⟨b, off, cap, h1, h2, h3, h4, h5⟩
  · exact .inl h
  · refine .inr ⟨b, off, cap, h1, h2, Nat.lt_of_lt_of_le h3 hc.size, h4, fun i hi => ?_⟩
    obtain ⟨k1, u, k2, k3, k4⟩ := h5 i hi
    exact ⟨(hc.cell h3 h4).trans k1, u, (hc.cell h3 h4).trans k2, k3, k4.chg hc⟩
theorem BtsO.to {F F' : Nat → Prop} {w : World} {v : Value} {bs : List Bt} (h : BtsO w F v bs) (hF : ∀ k, F' k → F k ∨ w.heap.size ≤ k) : BtsO w F' v bs := by
  rcases h with h | ⟨b, off, cap, h1, h2, h3, h4, h5⟩
  · exact .inl h
  · refine .inr ⟨b, off, cap, h1, h2, h3, fun hf => ?_, fun i hi => ?_⟩
    · rcases hF _ hf with g | g
      · exact h4 g
      · omega
    · obtain ⟨k1, u, k2, k3, k4⟩ := h5 i hi
      exact ⟨k1, u, k2, k3, k4.to hF⟩
theorem OsO.step {F F' : Nat → Prop} {w w' : World} {v : Value} {ys : List Ob} (h : OsO w F v ys) (hc : Chg F w w') (hF : ∀ k, F' k → F k ∨ w.heap.size ≤ k) : OsO w' F' v ys := ⟨(h.chg hc).1, fun a n c e hn => ⟨((h.to hF).2 a n c e hn).1, ((h.chg hc).2 a n c e hn).2⟩⟩
theorem OsO.below {F : Nat → Prop} {w w' : World} {v : Value} {ys : List Ob} (h : OsO w F v ys) (hb : Below w.heap.size w w') : OsO w' F v ys :=
  ⟨h.1.below hb, fun a n c e hn => by
    obtain ⟨h1, cur, fz, h2⟩ := h.2 a n c e hn
    exact ⟨h1, cur, fz, (hb.block a.block (some_lt h2)).trans h2⟩⟩
theorem BtsO.step {F F' : Nat → Prop} {w w' : World} {v : Value} {bs : List Bt} (h : BtsO w F v bs) (hc : Chg F w w') (hF : ∀ k, F' k → F k ∨ w.heap.size ≤ k) : BtsO w' F' v bs := by
  rcases h with h | ⟨b, off, cap, h1, h2, h3, h4, h5⟩
  · exact .inl h
  · refine .inr ⟨b, off, cap, h1, h2, Nat.lt_of_lt_of_le h3 hc.size, fun hf => ?_, fun i hi => ?_⟩
    · rcases hF _ hf with g | g
      · exact h4 g
      · omega
    · obtain ⟨k1, u, k2, k3, k4⟩ := h5 i hi
      exact ⟨(hc.cell h3 h4).trans k1, u, (hc.cell h3 h4).trans k2, k3, k4.step hc hF⟩
theorem BtsO.below {F : Nat → Prop} {w w' : World} {v : Value} {bs : List Bt} (h : BtsO w F v bs) (hb : Below w.heap.size w w') : BtsO w' F v bs := by
  rcases h with h | ⟨b, off, cap, h1, h2, h3, h4, h5⟩
  · exact .inl h
  · refine .inr ⟨b, off, cap, h1, h2, Nat.lt_of_lt_of_le h3 hb.size, h4, fun i hi => ?_⟩
    obtain ⟨k1, u, k2, k3, k4⟩ := h5 i hi
    exact ⟨(hb.cell (p := ⟨b, off + i * 2, none⟩) h3).trans k1, u, (hb.cell (p := ⟨b, off + i * 2 + 1, none⟩) h3).trans k2, k3, k4.below hb⟩
theorem OsO.mono {F G : Nat → Prop} {w : World} {v : Value} {ys : List Ob} (h : OsO w G v ys) (hF : ∀ k, F k → G k) : OsO w F v ys := ⟨h.1, fun a n c e hn => ⟨fun hf => (h.2 a n c e hn).1 (hF _ hf), (h.2 a n c e hn).2⟩⟩
theorem BtsO.mono {F G : Nat → Prop} {w : World} {v : Value} {bs : List Bt} (h : BtsO w G v bs) (hF : ∀ k, F k → G k) : BtsO w F v bs := by
  rcases h with h | ⟨b, off, cap, h1, h2, h3, h4, h5⟩
  · exact .inl h
  · refine .inr ⟨b, off, cap, h1, h2, h3, fun hf => h4 (hF _ hf), fun i hi => ?_⟩
    obtain ⟨k1, u, k2, k3, k4⟩ := h5 i hi
    exact ⟨k1, u, k2, k3, k4.mono hF⟩
theorem BtsO.bts {F : Nat → Prop} {w : World} {v : Value} {bs : List Bt} (h : BtsO w F v bs) : Bts w v bs := by
  rcases h with ⟨a, cap, h1, _, h2⟩ | ⟨b, off, cap, h1, _, _, _, h5⟩
  · exact .inl ⟨a, cap, h1, h2⟩
  · exact .inr ⟨b, off, cap, h1, fun i hi => ⟨(h5 i hi).1, by obtain ⟨_, u, k2, _, k4⟩ := h5 i hi; exact ⟨u, k2, k4.1⟩⟩⟩
theorem BtsO.form {F : Nat → Prop} {w : World} {v : Value} {bs : List Bt} (h : BtsO w F v bs) : ∃ a c, v = .slice a bs.length c := h.bts.form
theorem OsO.form {F : Nat → Prop} {w : World} {v : Value} {ys : List Ob} (h : OsO w F v ys) : ∃ a c, v = .slice a ys.length c := h.1.form
/-- Objects of one's own. -/
def OwO (w : World) (S : Nat) (v : Value) (ys : List Ob) : Prop := w.ownsRow S 35 12 v ys.length (flat ys)
theorem OwO_nil (w : World) (S : Nat) : OwO w S (.slice none 0 0) [] := ⟨rfl, .inl ⟨rfl, rfl⟩⟩
theorem OwO.os {w : World} {S : Nat} {v : Value} {ys : List Ob} (h : OwO w S v ys) : Os w v ys := (Os_of_own h).1
theorem OwO.below {w w' : World} {S : Nat} {v : Value} {ys : List Ob} (h : OwO w S v ys) (hb : Below w.heap.size w w') : OwO w' S v ys := own_below h hb
theorem own_chg {F : Nat → Prop} {w w' : World} {S size n : Nat} {e : TypeId} {v : Value} {xs : List Value} (h : w.ownsRow S e size v n xs) (hc : Chg F w w') (hv : ∀ g, v.ownBlock = some g → ¬ F g) : w'.ownsRow S e size v n xs := by
  refine ⟨h.1, ?_⟩
  rcases h.2 with h2 | ⟨g, cap, cur, rfl, h3, hg, rest⟩
  · exact .inl h2
  · exact .inr ⟨g, cap, cur, rfl, h3, (hc.block g (some_lt hg) (hv g rfl)).trans hg, rest⟩
/-- A whole readable slice of objects behind a row of one's own. -/
theorem run_gappo (w : World) (ty : TypeId) (S : Nat) (v : Value) (xs : List Ob) (hown : OwO w S v xs) (u : Value) (ys : List Ob) (hu : Os w u ys) (hl : xs.length + ys.length ≤ 30000) (hS : S ≤ w.heap.size) :
    ∃ r w', (Builtin.append_ #[25, 25] ty #[v, u]).run Try.prog w = .ok r w' ∧ OwO w' S r (xs ++ ys) ∧ w.grownBy w' v.ownBlock ∧ (∀ g, r.ownBlock = some g → v.ownBlock = some g ∨ w.heap.size ≤ g) := by
  obtain ⟨i0, hi, hz0, hz1, hz2⟩ := info_parts infoOB
  have e : flat (xs ++ ys) = flat xs ++ flat ys := flat_app xs ys
  have e2 : (xs ++ ys).length = xs.length + ys.length := by simp
  have hfy : (flat ys).length = ys.length * 12 := flat_len ys
  have hone := flat_ones ys
  have hby : (xs.length + ys.length) * 96 ≤ 140737488355328 := Nat.le_trans (Nat.mul_le_mul_right 96 hl) (by decide)
  have go : ∀ (a : Addr) (c : Nat), (∀ j q, (flat ys)[j]? = some q → w.cell? (a.add j) = some q) →
      ∃ r w', (Builtin.append_ #[25, 25] ty #[v, .slice (some a) ys.length c]).run Try.prog w = .ok r w' ∧ OwO w' S r (xs ++ ys) ∧ w.grownBy w' v.ownBlock ∧ (∀ g, r.ownBlock = some g → v.ownBlock = some g ∨ w.heap.size ≤ g) := by
    intro a c hnews
    obtain ⟨v', w', hr, h2, h3, _, h5⟩ := run_append_own_at (P := Try.prog) w S 25 ty 35 i0 _ 12 96 underSL hi hz0 hz1 hz2 rfl (by decide) v xs.length (flat xs) hown a ys.length c (flat ys) hfy hnews hone (by unfold maxLen; omega) hby hS
    refine ⟨v', w', hr, ?_, h3, fun g hg => ?_⟩
    · unfold OwO
      rw [e, e2]; exact h2
    · rcases h5 with h | h
      · exact .inl (h ▸ hg)
      · rw [h] at hg
        exact .inr (by cases hg; exact Nat.le_refl _)
  rcases hu with ⟨a, cap, rfl, hc, rfl⟩ | ⟨b, off, cap, rfl, h2, h3, h4⟩
  · cases a with
    | none =>
      obtain rfl := hc rfl
      refine ⟨v, w, run_append_owned_none (P := Try.prog) (w := w) S 25 ty 35 i0 12 underSL hi v xs.length (flat xs) hown, ?_, ⟨rfl, rfl, rfl, Nat.le_refl _, fun _ _ _ => rfl⟩, fun g hg => .inl hg⟩
      exact (congrArg (fun z : List Ob => OwO w S v z) (List.append_nil xs)).mpr hown
    | some a => exact go a cap (fun j q hj => by simp [flat] at hj)
  · exact go ⟨b, off, none⟩ cap (flat_news h4)
/-- A block of that type. -/
def BlkT (w : World) (k : Nat) (t : TypeId) : Prop := ∃ cur fz, w.heap[k]? = some (.cells cur t fz)
theorem chg_pt (w : World) (b j : Nat) (u : Value) : Chg (fun k => k = b) w (w.setCell ⟨b, j, none⟩ u) := Chg.setCell (F := fun k => k = b) (p := ⟨b, j, none⟩) (Chg.refl _ w) (.inl rfl) u
theorem OwO.mono0 {w : World} {S S' : Nat} {v : Value} {l : List Ob} (h : OwO w S v l) (hS : S' ≤ S) : OwO w S' v l := gown_mono h hS
theorem oclone_any (v : Value) (ys : List Ob) (w : World) (h : Os w v ys) (hl : ys.length ≤ 3000) : Calls Try.prog 18 #[v] w fun e w' => (∃ a c, e = .returned (.slice a ys.length c) ∧ OwO w' w.heap.size (.slice a ys.length c) ys) ∧ Below w.heap.size w w' := by
  obtain ⟨a, c, rfl⟩ := h.form
  cases a with
  | none =>
    obtain ⟨rfl, rfl⟩ : ys = [] ∧ c = 0 := by
      rcases h with ⟨a, cap, hv, hc, rfl⟩ | ⟨b, off, cap, hv, _⟩
      · cases hv; exact ⟨rfl, hc rfl⟩
      · cases hv
    have q22 : ∀ w, (binOp .eql 25 (.slice none 0 0) (.slice none 0 0)).run Try.prog w = .ok (.bool true) w := fun w => Lib.run_eql_slice_nil w 25 35 none 0 0 0 0 underSL
    clear h
    show Calls Try.prog 18 #[.slice none 0 0] w _
    go_enter Try.func18, Try.ntmps18
    go_wp2_with fail
    go_ret
    exact ⟨⟨none, 0, rfl, OwO_nil w _⟩, Below.refl _ _⟩
  | some ad =>
    have q22 : ∀ w, (binOp .eql 25 (.slice (some ad) ys.length c) (.slice none 0 0)).run Try.prog w = .ok (.bool false) w := fun w => Lib.run_eql_slice_nil w 25 35 (some ad) ys.length c 0 0 underSL
    obtain ⟨V, hV⟩ : ∃ V, w.alloc (.cells #[] 35) = V := ⟨_, rfl⟩
    have hb : Below w.heap.size w V := hV ▸ (Below.refl _ w).alloc (Nat.le_refl _) _
    have ho : OwO V w.heap.size (.slice (some ⟨w.heap.size, 0, none⟩) 0 0) [] := hV ▸ World.ownsRow_made (e := 35) (size := 12) w #[] 0 (Nat.le_refl _) (by decide) rfl
    obtain ⟨r, w2, hr, ho2, hg, _⟩ := run_gappo V 25 w.heap.size _ [] ho _ ys (h.below hb) (by simp; omega) hb.size
    rw [List.nil_append] at ho2
    have hb2 : Below w.heap.size w w2 := hb.grown hg hb.size (fun k hk => (World.ownsRow.lt ho k hk).1)
    obtain ⟨a2, c2, rfl⟩ := own_form ho2
    have HO := Lib.hid ho2
    have HB := Lib.hid hb2
    rw [← hV] at hr
    clear h hb ho hg ho2 hb2 hV
    go_enter Try.func18, Try.ntmps18
    go_wp2_with (at_builtin; refine app_go rfl (.tmp 5) (.tmp 6) 25 rfl _ _ _ _ rfl rfl hr ?_)
    go_ret
    exact ⟨⟨a2, c2, rfl, HO.out⟩, HB.out⟩
def NewCl (V : World) (l : List Ob) : Ty := fun v w => ∃ a c, v = .slice a l.length c ∧ OwO w V.heap.size (.slice a l.length c) l
theorem NewCl.keeps (V : World) (l : List Ob) (k : Nat) : T3.Keeps (fun _ w w' => Below w.heap.size w w') k (NewCl V l) := fun _ _ _ _ _ ⟨a, c, h1, h2⟩ hb => ⟨a, c, h1, h2.below hb⟩
end Go.Proofs.Ytfiaghfaijlfjaa
