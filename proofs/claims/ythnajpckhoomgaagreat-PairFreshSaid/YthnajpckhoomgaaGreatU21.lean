/- Texts Sby, Lfx, Pkb, Sd2, Tk1 of this proof, in one. No conditions but on lengths. -/
import Derived.Test.YthnajpckhoomgaaGreatRows
import Derived.Test.YthnajpckhoomgaaGreatU15
import Derived.Test.YthnajpckhoomgaaGreatU20
import Derived.ArgAppend
import Derived.Below
import Derived.BigQuiet
import Derived.Calls
import Derived.ChangeArms
import Derived.ChangeKeysEq
import Derived.ChangeMade
import Derived.ChangeOld
import Derived.Deep.Cut
import Derived.Deep.QuietTactic
import Derived.Deep.RegionLaw
import Derived.Deep.RegionWith
import Derived.Deep.Slices
import Derived.Laws.AppendOwnNone
import Derived.Laws.BytesArg
import Derived.Laws.LoneSync
import Derived.Laws.OwnMore
import Derived.Laws.StructEq
import Derived.Lib.ConvBytes
import Derived.Lib.Hide
import Derived.Lib.QuietBelow
import Derived.LoopIn
import Derived.LoopTactic
import Derived.Maps.AppendAt
import Derived.OpenShut
import Derived.Orders
import Derived.Outline
import Derived.OwnWalkIn
import Derived.ProofKit
import Derived.RangeFuncBox
import Derived.RangeFuncCalls
import Derived.RangeFuncLeaves
import Derived.RangeFuncNested
import Derived.Shelf.RegionOpen
import Derived.ShutString
import Derived.StillTail
import Derived.TacticsInMore
import Derived.WalkKit
import Derived.WalkSpells
import Derived.WideShapes
namespace Go.Proofs.YthnajpckhoomgaaGreat
set_option maxRecDepth 100000
open Go.RowKit

/-- An echo's bytes; a beacon's. -/
def ecB (y : Int × Int) : List Int := y.1 :: lo y.2 4
def beB (M : Int) (ys : List (Int × Int)) : List Int := lo M 4 ++ [(ys.length : Int)] ++ (ys.map ecB).flatten
theorem ecB_len (y : Int × Int) : (ecB y).length = 5 := by simp [ecB, lo_len]
theorem ecB_flat_len (ys : List (Int × Int)) : ((ys.map ecB).flatten).length = 5 * ys.length := by
  induction ys with
  | nil => rfl
  | cons y ys ih => simp only [List.map_cons, List.flatten_cons, List.length_append, ecB_len, ih, List.length_cons]; omega
/-- Echoes in their order are no more than the ids. -/
theorem BeOk.lo {M : Int} {ys : List (Int × Int)} (h : BeOk M ys) : ∀ i, i < ys.length → (i : Int) ≤ (ys.getD i (0, 0)).1 := by
  intro i
  induction i with
  | zero => intro hi; exact (h.1 0 hi).1.1
  | succ i ih =>
    intro hi
    have h1 := ih (by omega)
    have h2 := (h.1 (i + 1) hi).2.1 (by omega)
    rw [Nat.add_sub_cancel] at h2
    omega
theorem BeOk.len {M : Int} {ys : List (Int × Int)} (h : BeOk M ys) : ys.length ≤ 64 := by
  by_cases h0 : ys.length = 0
  · omega
  · have h1 := h.lo (ys.length - 1) (by omega)
    have h2 := (h.1 (ys.length - 1) (by omega)).1.2
    omega
theorem lo_byt {v : Int} {n : Nat} : Byt (lo v n) := fun x hx => by
  obtain ⟨i, _, rfl⟩ := List.mem_map.1 hx
  omega
theorem u8_len {n : Nat} (h : n ≤ 64) : IntKind.u8.wrap (n : Int) = (n : Int) := by rw [IntKind.wrap_u8]; omega
end Go.Proofs.YthnajpckhoomgaaGreat
namespace Go.Proofs.YthnajpckhoomgaaGreat
set_option maxRecDepth 100000
open Go.RowKit

def WiOk (M : Int) (ys : List (Int × Int)) (id ep : Int) : Prop := BeOk M ys ∧ BeOk M (winF ys id ep)
instance (M : Int) (ys : List (Int × Int)) (id ep : Int) : Decidable (WiOk M ys id ep) := by unfold WiOk; infer_instance
theorem beB_len (M : Int) (ys : List (Int × Int)) : (beB M ys).length = 5 + 5 * ys.length := by
  unfold beB
  simp only [List.length_append, lo_len, List.length_cons, List.length_nil, ecB_flat_len]
theorem beB_byt {M : Int} {ys : List (Int × Int)} (h : BeOk M ys) : ∀ x ∈ beB M ys, 0 ≤ x ∧ x < 256 := by
  intro x hx
  unfold beB at hx
  rw [List.mem_append, List.mem_append] at hx
  rcases hx with (hx | hx) | hx
  · exact lo_byt x hx
  · have := h.len
    rw [List.mem_singleton] at hx
    omega
  · obtain ⟨l, hl, hx⟩ := List.mem_flatten.1 hx
    obtain ⟨y, hy, rfl⟩ := List.mem_map.1 hl
    unfold ecB at hx
    rcases List.mem_cons.1 hx with rfl | hx
    · have := ((beok_iff.1 h).2.1 y hy).1
      omega
    · exact lo_byt x hx
theorem OwE.es {w : World} {S : Nat} {v : Value} {xs : List (Int × Int)} (h : OwE w S v xs) : Es w v xs := (Es_of_own h).1
end Go.Proofs.YthnajpckhoomgaaGreat
namespace Go.Proofs.YthnajpckhoomgaaGreat
set_option maxRecDepth 100000
open Go.RowKit Go.Lib

/-- A string's bytes. -/
def bl (x : ByteArray) : List Int := x.data.toList.map fun b => (b.toNat : Int)
theorem bl_len (x : ByteArray) : (bl x).length = x.size := by unfold bl; rw [List.length_map, Array.length_toList]; rfl
theorem bl_byt (x : ByteArray) : ∀ v ∈ bl x, 0 ≤ v ∧ v < 256 := fun v hv => by
  obtain ⟨b, _, rfl⟩ := List.mem_map.1 hv
  have := b.toNat_lt
  omega
def hdB (s d t n k : Int) : List Int := [s, d, t, n / 256, n % 256, k / 256, k % 256]
def pkB (s d t n : Int) (x : ByteArray) : List Int := hdB s d t n x.size ++ bl x
theorem hd_byt {s d t n : Int} {x : ByteArray} (h : PkOk s d t n x) : ∀ v ∈ hdB s d t n x.size, 0 ≤ v ∧ v < 256 := fun v hv => by
  obtain ⟨h1, h2, h3, h4, h5⟩ := h
  simp only [hdB, List.mem_cons, List.not_mem_nil, or_false] at hv
  rcases hv with rfl | rfl | rfl | rfl | rfl | rfl | rfl <;> omega
theorem pkB_len (s d t n : Int) (x : ByteArray) : (pkB s d t n x).length = 7 + x.size := by
  unfold pkB; rw [List.length_append, bl_len]; rfl
theorem pkB_byt {s d t n : Int} {x : ByteArray} (h : PkOk s d t n x) : ∀ v ∈ pkB s d t n x, 0 ≤ v ∧ v < 256 := fun v hv => by
  rcases List.mem_append.1 hv with h1 | h1
  · exact hd_byt h v h1
  · exact bl_byt x v h1
end Go.Proofs.YthnajpckhoomgaaGreat
namespace Go.Proofs.YthnajpckhoomgaaGreat
set_option maxRecDepth 100000

theorem numAt_succ (n : Int) (i : Nat) : numAt n (i + 1) = nxt (numAt n i) := by
  induction i generalizing n with
  | zero => rfl
  | succ i ih => exact ih (nxt n)
theorem numAt_rng {n : Int} (h : 0 ≤ n ∧ n ≤ 65535) (i : Nat) : 0 ≤ numAt n i ∧ numAt n i ≤ 65535 := by
  cases i with
  | zero => exact h
  | succ i => rw [numAt_succ]; exact nxt_rng _
theorem far_nxt {f x : Int} (h : far f x < 65535) : far f (nxt x) = far f x + 1 := by
  unfold far nxt at *
  omega
/-- What is sent, and what is not. -/
theorem sdT_split (s : Sd) : ∃ R, packL 512 s.W s.nx = sdT s ++ R ∧ ∀ p l, R = p :: l → ¬ far (fstN s) p.1 < s.win := by
  refine ⟨(packL 512 s.W s.nx).dropWhile fun p => decide (far (fstN s) p.1 < s.win), (List.takeWhile_append_dropWhile ..).symm, fun p l h => ?_⟩
  have := List.head?_dropWhile_not (fun p : Bt => decide (far (fstN s) p.1 < s.win)) (packL 512 s.W s.nx)
  rw [h] at this
  simpa using this
theorem sdT_in {s : Sd} {p : Bt} (h : p ∈ sdT s) : far (fstN s) p.1 < s.win := by
  have := List.all_eq_true.1 (List.all_takeWhile (p := fun p : Bt => decide (far (fstN s) p.1 < s.win)) (l := packL 512 s.W s.nx)) p h
  simpa using this
theorem getD_app {α : Type} {xs ys : List α} {i : Nat} {d : α} (h : i < xs.length) : (xs ++ ys).getD i d = xs.getD i d := by simp [List.getD, List.getElem?_append, h]
theorem getD_mem {α : Type} {xs : List α} {i : Nat} {d : α} (h : i < xs.length) : xs.getD i d ∈ xs := by
  have : xs.getD i d = xs[i] := by simp [List.getD, h]
  rw [this]; exact List.getElem_mem h
/-- Objects go in their order. -/
theorem send_all (s : Sd) : ((sdT s).map Prod.snd).flatten ++ (sdS s).W = s.W := by
  obtain ⟨R, hR, _⟩ := sdT_split s
  have hall := packL_all 512 s.W s.nx
  rw [hR, List.map_append, List.flatten_append] at hall
  have hc : cnt (sdT s) = ((sdT s).map Prod.snd).flatten.length := by
    unfold cnt
    rw [List.length_flatten, List.map_map]
    rfl
  show _ ++ s.W.drop (cnt (sdT s)) = s.W
  rw [hc]
  conv => lhs; rw [← hall]
  conv => rhs; rw [← hall]
  rw [List.length_flatten] 
  have e : ((((sdT s).map Prod.snd).flatten ++ (R.map Prod.snd).flatten).drop (((sdT s).map Prod.snd).flatten).length) = (R.map Prod.snd).flatten := List.drop_left ..
  rw [List.length_flatten] at e
  rw [e]
section
variable {s : Sd} (h : SdOk s)
include h
theorem lft_nx : lft s.nx = s.nx := by unfold lft; have := h.nx; omega
theorem sdT_num (i : Nat) (hi : i < (sdT s).length) : ((sdT s).getD i zb).1 = numAt s.nx i := by
  obtain ⟨R, hR, _⟩ := sdT_split s
  have hl : i < (packL 512 s.W s.nx).length := by rw [hR, List.length_append]; omega
  have := packL_num 512 s.W s.nx i hl
  rw [lft_nx h, hR, getD_app hi] at this
  exact this
theorem sdT_far (i : Nat) (hi : i < (sdT s).length) : far (fstN s) (numAt s.nx i) = far (fstN s) s.nx + i := by
  induction i with
  | zero => show far (fstN s) s.nx = _; simp
  | succ i ih =>
    have h1 := ih (by omega)
    have h2 := sdT_in (getD_mem (d := zb) (show i < (sdT s).length by omega))
    rw [sdT_num h i (by omega)] at h2
    have hw := h.win
    rw [numAt_succ, far_nxt (by omega), h1]
    omega
theorem sdT_top : far (fstN s) (nxA s.nx (sdT s)) = far (fstN s) s.nx + (sdT s).length ∧ far (fstN s) s.nx + (sdT s).length ≤ s.win := by
  unfold nxA
  cases hl : (sdT s).length with
  | zero => exact ⟨by show far (fstN s) s.nx = _; simp, by have := h.top; omega⟩
  | succ k =>
    have h1 := sdT_far h k (by omega)
    have h2 := sdT_in (getD_mem (d := zb) (show k < (sdT s).length by omega))
    rw [sdT_num h k (by omega)] at h2
    have hw := h.win
    exact ⟨by rw [numAt_succ, far_nxt (by omega), h1]; omega, by omega⟩
theorem fst_send : fstN (sdS s) = fstN s := by
  unfold sdS
  cases hL : s.L with
  | cons e l => unfold fstN; rw [hL]; rfl
  | nil =>
    cases hT : sdT s with
    | nil => unfold fstN nxA; rw [hL]; rfl
    | cons p l =>
      have := sdT_num h 0 (by rw [hT]; exact Nat.zero_lt_succ _)
      rw [hT] at this
      unfold fstN
      rw [hL]
      exact this
theorem sdok_send : SdOk (sdS s) := by
  have hf := fst_send h
  obtain ⟨t1, t2⟩ := sdT_top h
  have hmem : ∀ e ∈ (sdS s).L, e ∈ s.L ∨ ∃ i, i < (sdT s).length ∧ e = ((sdT s).getD i zb, 1) := fun e he => by
    rcases List.mem_append.1 he with he | he
    · exact .inl he
    · obtain ⟨p, hp, rfl⟩ := List.mem_map.1 he
      obtain ⟨i, hi, rfl⟩ := List.mem_iff_getElem.1 hp
      exact .inr ⟨i, hi, by simp [List.getD, hi]⟩
  have hfar : ∀ i, i < (sdT s).length → far (fstN s) ((sdT s).getD i zb).1 = far (fstN s) s.nx + i := fun i hi => by rw [sdT_num h i hi]; exact sdT_far h i hi
  have hd0 := far_bd (fstN s) s.nx
  refine ⟨h.win, h.tries, allok_drop h.wok _, by show (s.W.drop _).length ≤ 1024; rw [List.length_drop]; have := h.wl; omega, numAt_rng h.nx _, fun e he => ?_, ?_, fun e he => ?_, by rw [hf]; show far (fstN s) (nxA s.nx (sdT s)) ≤ s.win; omega, fun e he => ?_, fun e he => ?_⟩
  · rw [hf]
    rcases hmem e he with h1 | ⟨i, hi, rfl⟩
    · exact h.inw e h1
    · exact sdT_in (getD_mem hi)
  · rw [hf]
    show (s.L ++ (sdT s).map fun p => (p, (1 : Int))).Pairwise _
    rw [List.pairwise_append]
    refine ⟨h.rise, ?_, fun x hx y hy => ?_⟩
    · rw [List.pairwise_map, List.pairwise_iff_getElem]
      intro i j hi hj hij
      have e1 := hfar i hi
      have e2 := hfar j hj
      have g1 : (sdT s).getD i zb = (sdT s)[i] := by simp [List.getD, hi]
      have g2 : (sdT s).getD j zb = (sdT s)[j] := by simp [List.getD, hj]
      rw [g1] at e1
      rw [g2] at e2
      show far (fstN s) (sdT s)[i].1 < far (fstN s) (sdT s)[j].1
      omega
    · obtain ⟨p, hp, rfl⟩ := List.mem_map.1 hy
      obtain ⟨i, hi, rfl⟩ := List.mem_iff_getElem.1 hp
      have g1 : (sdT s).getD i zb = (sdT s)[i] := by simp [List.getD, hi]
      have e1 := hfar i hi
      rw [g1] at e1
      have e2 := h.below x hx
      show far (fstN s) x.1.1 < far (fstN s) (sdT s)[i].1
      omega
  · rw [hf]
    show far (fstN s) e.1.1 < far (fstN s) (nxA s.nx (sdT s))
    rcases hmem e he with h1 | ⟨i, hi, rfl⟩
    · have := h.below e h1; omega
    · have := hfar i hi
      show far (fstN s) ((sdT s).getD i zb).1 < _
      omega
  · rcases hmem e he with h1 | ⟨i, hi, rfl⟩
    · exact h.bok e h1
    · obtain ⟨R, hR, _⟩ := sdT_split s
      have hl : i < (packL 512 s.W s.nx).length := by rw [hR, List.length_append]; omega
      have := packL_ok h.wok (most := 512) ⟨by decide, by decide⟩ s.nx i hl
      rw [hR, getD_app hi] at this
      exact this.1
  · rcases hmem e he with h1 | ⟨i, hi, rfl⟩
    · exact h.sent e h1
    · exact ⟨Int.le_refl _, h.tries.1⟩
end
theorem rows_le {f : Bt × Int → Int} {b : Int} : ∀ (l : List (Bt × Int)) (a : Int), (∀ e ∈ l, a ≤ f e ∧ f e < b) → l.Pairwise (fun x y => f x < f y) → a ≤ b → (l.length : Int) ≤ b - a
  | [], a, _, _, hab => by show (0 : Int) ≤ _; omega
  | e :: l, a, hm, hp, hab => by
    obtain ⟨h1, h2⟩ := List.pairwise_cons.1 hp
    have h3 := hm e List.mem_cons_self
    have ih := rows_le l (f e + 1) (fun x hx => ⟨by have := h1 x hx; omega, (hm x (List.mem_cons_of_mem _ hx)).2⟩) h2 (by omega)
    rw [List.length_cons]
    omega
/-- No more are out than the window. -/
theorem out_le {s : Sd} (h : SdOk s) : (s.out.length : Int) ≤ s.win := by
  have := rows_le (f := fun e => far (fstN s) e.1.1) (b := s.win) s.L 0 (fun e he => ⟨(far_bd _ _).1, h.inw e he⟩) h.rise (by have := h.win; omega)
  unfold Sd.out
  rw [List.length_map]
  omega
theorem out_again (s : Sd) : (agS s).out = s.out := by
  unfold agS Sd.out
  cases agB s with
  | false => rfl
  | true => rw [if_pos rfl, List.map_map]; rfl
theorem gtS_yes {s : Sd} {a : Ak} (h : gtB s a) : gtS s a = { s with L := s.L.filter (kpt a) } := if_pos h
theorem gtS_no {s : Sd} {a : Ak} (h : ¬ gtB s a) : gtS s a = s := if_neg h
end Go.Proofs.YthnajpckhoomgaaGreat
namespace Go.Proofs.YthnajpckhoomgaaGreat
set_option maxRecDepth 100000
set_option linter.unusedVariables false

structure Tk where
  nx : Int
  H : List Bt
def tk0 : Tk := ⟨0, []⟩
def nums (H : List Bt) : List Int := H.map Prod.fst
def findH (H : List Bt) (n : Int) : Option Bt := H.find? fun h => h.1 == n
def dropH (H : List Bt) (n : Int) : List Bt := H.filter fun h => !(h.1 == n)
/-- As long as the batch of next is held its objects are told. -/
def runT : Nat → Tk → List Ob × Tk
  | 0, t => ([], t)
  | f + 1, t => match findH t.H t.nx with
    | none => ([], t)
    | some h => (h.2 ++ (runT f ⟨nxt t.nx, dropH t.H t.nx⟩).1, (runT f ⟨nxt t.nx, dropH t.H t.nx⟩).2)
/-- What Take answers (objects, error), and leaves. -/
def takeR (t : Tk) (x : Bt) : (List Ob × Int) × Tk :=
  if ¬ BtOk x.1 x.2 then (([], 1), t) else
  if 32768 ≤ far t.nx x.1 then (([], 10), t) else
  if 16 < far t.nx x.1 then (([], 1), t) else
  if (findH t.H x.1).isSome = true then (([], 9), t) else
  (((runT (t.H.length + 1) ⟨t.nx, t.H ++ [x]⟩).1, 0), (runT (t.H.length + 1) ⟨t.nx, t.H ++ [x]⟩).2)
structure TkOk (t : Tk) : Prop where
  nx : 0 ≤ t.nx ∧ t.nx ≤ 65535
  ok : ∀ h ∈ t.H, BtOk h.1 h.2
  near : ∀ h ∈ t.H, 1 ≤ far t.nx h.1 ∧ far t.nx h.1 ≤ 16
  nd : (nums t.H).Nodup
theorem tkok_new : TkOk tk0 := ⟨⟨Int.le_refl 0, (show (0 : Int) ≤ 65535 by decide)⟩, fun h hh => absurd hh List.not_mem_nil, fun h hh => absurd hh List.not_mem_nil, List.nodup_nil⟩
theorem findH_some {H : List Bt} {n : Int} {h : Bt} (hf : findH H n = some h) : h ∈ H ∧ h.1 = n := by
  have h1 := List.mem_of_find?_eq_some hf
  have h2 := List.find?_some hf
  exact ⟨h1, by simpa using h2⟩
theorem findH_none {H : List Bt} {n : Int} (hf : findH H n = none) : ∀ h ∈ H, h.1 ≠ n := by
  intro h hh e
  have := List.find?_eq_none.1 hf h hh
  simp [e] at this
theorem mem_dropH {H : List Bt} {n : Int} {h : Bt} : h ∈ dropH H n ↔ h ∈ H ∧ h.1 ≠ n := by
  unfold dropH
  rw [List.mem_filter]
  simp
theorem dropH_sub (H : List Bt) (n : Int) : (dropH H n).Sublist H := List.filter_sublist
theorem nums_drop {H : List Bt} {n : Int} (h : (nums H).Nodup) : (nums (dropH H n)).Nodup := h.sublist ((dropH_sub H n).map _)
/-- One that is held is one less. -/
theorem dropH_len {H : List Bt} {n : Int} {h : Bt} (hf : findH H n = some h) (hnd : (nums H).Nodup) : (dropH H n).length + 1 = H.length := by
  obtain ⟨hm, he⟩ := findH_some hf
  clear hf
  induction H with
  | nil => exact absurd hm List.not_mem_nil
  | cons a H ih =>
    have hnd' : a.1 ∉ nums H ∧ (nums H).Nodup := List.nodup_cons.1 hnd
    rcases List.mem_cons.1 hm with rfl | hm
    · have e : dropH H n = H := by
        unfold dropH
        rw [List.filter_eq_self]
        intro y hy
        have : y.1 ≠ n := fun e2 => hnd'.1 (by rw [he, ← e2]; exact List.mem_map.2 ⟨y, hy, rfl⟩)
        simpa using this
      have e2 : dropH (h :: H) n = dropH H n := by
        unfold dropH
        rw [List.filter_cons_of_neg]
        simp [he]
      rw [e2, e]
      rfl
    · have hne : a.1 ≠ n := fun e2 => hnd'.1 (by rw [e2, ← he]; exact List.mem_map.2 ⟨h, hm, rfl⟩)
      have e2 : dropH (a :: H) n = a :: dropH H n := by
        unfold dropH
        rw [List.filter_cons_of_pos]
        simpa using hne
      rw [e2, List.length_cons, List.length_cons, ih hnd'.2 hm]
/-- A taker in the midst of telling: next itself may be held. -/
structure TkMid (t : Tk) : Prop where
  nx : 0 ≤ t.nx ∧ t.nx ≤ 65535
  ok : ∀ h ∈ t.H, BtOk h.1 h.2
  near : ∀ h ∈ t.H, far t.nx h.1 ≤ 16
  nd : (nums t.H).Nodup
theorem bt_rng {h : Bt} (hb : BtOk h.1 h.2) : 0 ≤ h.1 ∧ h.1 ≤ 65535 := hb.1
theorem mid_step {t : Tk} (h : TkMid t) {x : Bt} (hf : findH t.H t.nx = some x) : TkMid ⟨nxt t.nx, dropH t.H t.nx⟩ := by
  refine ⟨nxt_rng _, fun y hy => h.ok y (mem_dropH.1 hy).1, fun y hy => ?_, nums_drop h.nd⟩
  obtain ⟨h1, h2⟩ := mem_dropH.1 hy
  have h3 := h.near y h1
  have h4 := bt_rng (h.ok y h1)
  have h5 := h.nx
  show far (nxt t.nx) y.1 ≤ 16
  unfold far nxt at *
  omega
/-- What is told, batch for batch, and what is left. -/
theorem runT_ok : ∀ (f : Nat) (t : Tk), TkMid t → t.H.length ≤ f → TkOk (runT f t).2 ∧ ∃ B : List Bt, (runT f t).1 = (B.map Prod.snd).flatten ∧ (∀ i (hi : i < B.length), B[i] ∈ t.H ∧ B[i].1 = numAt t.nx i) ∧ (runT f t).2.nx = numAt t.nx B.length ∧ (runT f t).2.H.length + B.length = t.H.length ∧ (∀ h, h ∈ (runT f t).2.H ↔ h ∈ t.H ∧ h ∉ B) ∧ findH (runT f t).2.H (runT f t).2.nx = none
  | 0, t, hm, hl => by
    have e : t.H = [] := List.eq_nil_of_length_eq_zero (by omega)
    refine ⟨⟨hm.nx, hm.ok, fun h hh => ?_, hm.nd⟩, [], rfl, fun i hi => absurd hi (Nat.not_lt_zero i), rfl, rfl, fun h => ⟨fun hh => ⟨hh, List.not_mem_nil⟩, fun hh => hh.1⟩, ?_⟩
    · have hh' : h ∈ t.H := hh
      rw [e] at hh'
      exact absurd hh' List.not_mem_nil
    · show findH t.H t.nx = none
      rw [e]
      rfl
  | f + 1, t, hm, hl => by
    cases hf : findH t.H t.nx with
    | none =>
      have e : runT (f + 1) t = ([], t) := by simp only [runT, hf]
      rw [e]
      refine ⟨⟨hm.nx, hm.ok, fun h hh => ⟨?_, hm.near h hh⟩, hm.nd⟩, [], rfl, fun i hi => absurd hi (Nat.not_lt_zero i), rfl, rfl, fun h => ⟨fun hh => ⟨hh, List.not_mem_nil⟩, fun hh => hh.1⟩, hf⟩
      have h1 := findH_none hf h hh
      have h2 := bt_rng (hm.ok h hh)
      have h3 := hm.nx
      show 1 ≤ far t.nx h.1
      unfold far
      omega
    | some x =>
      obtain ⟨hx1, hx2⟩ := findH_some hf
      have hlen := dropH_len hf hm.nd
      obtain ⟨k1, B, k2, k3, k4, k5, k6, k7⟩ := runT_ok f ⟨nxt t.nx, dropH t.H t.nx⟩ (mid_step hm hf) (by show (dropH t.H t.nx).length ≤ f; omega)
      have e : runT (f + 1) t = (x.2 ++ (runT f ⟨nxt t.nx, dropH t.H t.nx⟩).1, (runT f ⟨nxt t.nx, dropH t.H t.nx⟩).2) := by simp only [runT, hf]
      rw [e]
      refine ⟨k1, x :: B, ?_, ?_, ?_, ?_, ?_, k7⟩
      · show x.2 ++ _ = _
        rw [k2]
        rfl
      · intro i hi
        cases i with
        | zero => exact ⟨hx1, hx2⟩
        | succ i =>
          obtain ⟨h1, h2⟩ := k3 i (by simpa using hi)
          exact ⟨(mem_dropH.1 h1).1, h2⟩
      · exact k4
      · show (runT f ⟨nxt t.nx, dropH t.H t.nx⟩).2.H.length + (B.length + 1) = t.H.length
        have k5' : (runT f ⟨nxt t.nx, dropH t.H t.nx⟩).2.H.length + B.length = (dropH t.H t.nx).length := k5
        omega
      · intro h
        rw [k6 h]
        show h ∈ dropH t.H t.nx ∧ h ∉ B ↔ _
        rw [mem_dropH, List.mem_cons, not_or]
        constructor
        · rintro ⟨⟨h1, h2⟩, h3⟩
          exact ⟨h1, fun e => h2 (by rw [e]; exact hx2), h3⟩
        · rintro ⟨h1, h2, h3⟩
          refine ⟨⟨h1, fun e => h2 ?_⟩, h3⟩
          have hnd := hm.nd
          -- two of one number are the same
          have : ∀ (H : List Bt), (nums H).Nodup → ∀ a ∈ H, ∀ b ∈ H, a.1 = b.1 → a = b := by
            intro H
            induction H with
            | nil => intro _ a ha; exact absurd ha List.not_mem_nil
            | cons c H ih =>
              intro hn a ha b hb hab
              have hn' : c.1 ∉ nums H ∧ (nums H).Nodup := List.nodup_cons.1 hn
              rcases List.mem_cons.1 ha with h1 | ha
              · rcases List.mem_cons.1 hb with h2 | hb
                · exact h1.trans h2.symm
                · exact absurd (by rw [← h1, hab]; exact List.mem_map.2 ⟨b, hb, rfl⟩) hn'.1
              · rcases List.mem_cons.1 hb with h2 | hb
                · exact absurd (by rw [← h2, ← hab]; exact List.mem_map.2 ⟨a, ha, rfl⟩) hn'.1
                · exact ih hn'.2 a ha b hb hab
          exact this t.H hnd h h1 x hx1 (e.trans hx2.symm)
end Go.Proofs.YthnajpckhoomgaaGreat
