/- Texts Akr, Sby, Byr, Aq5, Sd8, Tk1, Tk2 of this proof, in one. No conditions but on lengths. -/
import Derived.Test.YtdigjklhfimnbaaGreatRows
import Derived.Test.YtdigjklhfimnbaaGreatU14
import Derived.Test.YtdigjklhfimnbaaGreatU17
import Derived.ArgAppend
import Derived.Below
import Derived.BigQuiet
import Derived.Calls
import Derived.ChangeArms
import Derived.ChangeMade
import Derived.ChangeOld
import Derived.Deep.Cut
import Derived.Deep.CutBlock
import Derived.Deep.QuietTactic
import Derived.Deep.RegionHeld
import Derived.Deep.RegionLaw
import Derived.Deep.RegionWith
import Derived.Deep.Slices
import Derived.Laws.AppendOwnNone
import Derived.Laws.BitsLemmas
import Derived.Laws.BytesArg
import Derived.Laws.LoneSync
import Derived.Laws.OwnMore
import Derived.Laws.StructEq
import Derived.Lib.Hide
import Derived.Lib.QuietBelow
import Derived.LoopIn
import Derived.LoopTactic
import Derived.Maps.AppendAt
import Derived.OpenShut
import Derived.Orders
import Derived.Outline
import Derived.OwnWalkIn
import Derived.ProofKit
import Derived.RangeFuncBox
import Derived.RangeFuncCalls
import Derived.RangeFuncLeaves
import Derived.RangeFuncNested
import Derived.Shelf.RegionOpen
import Derived.Shelf.RegionOpenPlain
import Derived.ShutString
import Derived.StillTail
import Derived.TacticsInMore
import Derived.WalkKit
import Derived.WalkSpells
import Derived.WideShapes
namespace Go.Proofs.YtdigjklhfimnbaaGreat
set_option maxRecDepth 100000
open Go.RowKit

/-- An ack that may stand there. -/
def AkAt (ys : List (Int × Int × Int × Int)) (i : Nat) : Prop := AkOne (ys.getD i (0, 0, 0, 0)) ∧ (0 < i → (ys.getD (i - 1) (0, 0, 0, 0)).1 < (ys.getD i (0, 0, 0, 0)).1)
instance (ys : List (Int × Int × Int × Int)) (i : Nat) : Decidable (AkAt ys i) := by unfold AkAt; infer_instance
/-- A row of acks that is right. -/
def AksOk (ys : List (Int × Int × Int × Int)) : Prop := (∀ i, i < ys.length → AkAt ys i) ∧ 1 ≤ ys.length ∧ ys.length ≤ 64
instance (ys : List (Int × Int × Int × Int)) : Decidable (AksOk ys) := by unfold AksOk; infer_instance
end Go.Proofs.YtdigjklhfimnbaaGreat
namespace Go.Proofs.YtdigjklhfimnbaaGreat
set_option maxRecDepth 100000
open Go.RowKit

/-- An echo's bytes; a beacon's. -/
def ecB (y : Int × Int) : List Int := y.1 :: lo y.2 4
def beB (M : Int) (ys : List (Int × Int)) : List Int := lo M 4 ++ [(ys.length : Int)] ++ (ys.map ecB).flatten
/-- Echoes in their order are no more than the ids. -/
theorem BeOk.lo {M : Int} {ys : List (Int × Int)} (h : BeOk M ys) : ∀ i, i < ys.length → (i : Int) ≤ (ys.getD i (0, 0)).1 := by
  intro i
  induction i with
  | zero => intro hi; exact (h.1 0 hi).1.1
  | succ i ih =>
    intro hi
    have h1 := ih (by omega)
    have h2 := (h.1 (i + 1) hi).2.1 (by omega)
    rw [Nat.add_sub_cancel] at h2
    omega
theorem BeOk.len {M : Int} {ys : List (Int × Int)} (h : BeOk M ys) : ys.length ≤ 64 := by
  by_cases h0 : ys.length = 0
  · omega
  · have h1 := h.lo (ys.length - 1) (by omega)
    have h2 := (h.1 (ys.length - 1) (by omega)).1.2
    omega
end Go.Proofs.YtdigjklhfimnbaaGreat
namespace Go.Proofs.YtdigjklhfimnbaaGreat
set_option maxRecDepth 100000
open Go.RowKit

section
variable (R : RowT)
end
/-- A byte. -/
def bc (y : Int) : List Value := [.int .u8 y]
theorem underBY : Tryz.prog.underlying 107 = some (.slice 5) := by kernel_rfl
theorem infoBY : (Tryz.prog.info? 5).map (fun i => (i.zero, i.size, i.bytes)) = some (some (.int .u8 0), 1, 1) := by kernel_rfl
theorem cellsBY : Tryz.prog.cellsOf 5 = 1 := by kernel_rfl
theorem bc_ones (y : Int) : ∀ u ∈ bc y, u.oneCell' = true := by
  intro u hu
  simp only [bc, List.mem_cons, List.not_mem_nil, or_false] at hu
  rw [hu]; rfl
noncomputable def RB : RowT where
  α := Int
  d := 0
  cl := bc
  K := 1
  T := 5
  SL := 107
  zero := .int .u8 0
  bytes := 1
  hcl := fun _ => rfl
  hK := by decide
  hone := bc_ones
  hSL := underBY
  hinfo := infoBY
  hz := rfl
  hb := by decide
  hc := cellsBY
/-- Bytes in a row of the call's own. -/
def OwB (w : World) (S : Nat) (v : Value) (xs : List Int) : Prop := w.ownsRow S 5 1 v xs.length (xs.map (Value.int .u8))
theorem gflat_bytes (xs : List Int) : gflat RB xs = xs.map (Value.int .u8) := by
  show xs.flatMap bc = _
  induction xs with
  | nil => rfl
  | cons x xs ih => rw [List.flatMap_cons, ih]; rfl
theorem OwB.to {w : World} {S : Nat} {v : Value} {xs : List Int} (h : OwB w S v xs) : w.ownsRow S RB.T RB.K v xs.length (gflat RB xs) := by rw [gflat_bytes]; exact h
theorem OwB.of {w : World} {S : Nat} {v : Value} {xs : List Int} (h : w.ownsRow S RB.T RB.K v xs.length (gflat RB xs)) : OwB w S v xs := by rw [gflat_bytes] at h; exact h
theorem OwB.form {w : World} {S : Nat} {v : Value} {xs : List Int} (h : OwB w S v xs) : ∃ a c, v = .slice a xs.length c := gown_form h
theorem OwB.lt {w : World} {S : Nat} {v : Value} {xs : List Int} (h : OwB w S v xs) (b : Nat) (hb : v.ownBlock = some b) : S ≤ b ∧ b < w.heap.size := World.ownsRow.lt h b hb
theorem OwB.mono {w : World} {S B : Nat} {v : Value} {xs : List Int} (h : OwB w S v xs) (hB : B ≤ S) : OwB w B v xs := gown_mono h hB
theorem OwB.below {w w' : World} {S : Nat} {v : Value} {xs : List Int} (h : OwB w S v xs) (hb : Below w.heap.size w w') : OwB w' S v xs := gown_below h hb
end Go.Proofs.YtdigjklhfimnbaaGreat
namespace Go.Proofs.YtdigjklhfimnbaaGreat
set_option maxRecDepth 100000
open Go.RowKit

section
variable (R : RowT)
end
/-- A row that none of these blocks holds. -/
def Sep (lo hi : Nat) (v : Value) : Prop := ∀ g, v.ownBlock = some g → g < lo ∨ hi ≤ g
/-- A row between. -/
def Btw (w : World) (lo hi : Nat) (v : Value) (xs : List Int) : Prop := OwB w lo v xs ∧ ∀ g, v.ownBlock = some g → g < hi
theorem Btw.grown {w w' : World} {lo hi : Nat} {r v : Value} {xs : List Int} (h : Btw w lo hi r xs) (hs : Sep lo hi v) (hg : w.grownBy w' v.ownBlock) : Btw w' lo hi r xs := by
  refine ⟨World.ownsRow.kept h.1 hg ?_, h.2⟩
  cases hq : r.ownBlock with
  | none => exact .inl rfl
  | some q => exact .inr (fun e => by have h1 := (h.1.lt q hq).1; have h2 := h.2 q hq; have h3 := hs q e.symm; omega)
theorem Btw.below {w w' : World} {lo hi : Nat} {r : Value} {xs : List Int} (h : Btw w lo hi r xs) (hb : Below w.heap.size w w') : Btw w' lo hi r xs := ⟨h.1.below hb, h.2⟩
end Go.Proofs.YtdigjklhfimnbaaGreat
namespace Go.Proofs.YtdigjklhfimnbaaGreat
set_option maxRecDepth 100000
open Go.RowKit

theorem SentR.at {w : World} {S : Nat} {F : Nat → Prop} {a : Option Addr} {c : Nat} {l : List Bt} (h : SentR w S F (.slice a l.length c) l) {i : Nat} (hi : i < l.length) : ∃ b off, a = some ⟨b, off, none⟩ ∧ l.length ≤ c := by
  obtain ⟨_, vs, h1, h2, _⟩ := h
  rcases h2.2 with ⟨h4, h5⟩ | ⟨g, cap, cur, h4, _, _, h5, _⟩
  · omega
  · simp only [Value.slice.injEq] at h4
    exact ⟨g, 0, h4.1, h4.2.2 ▸ h5⟩
theorem BtsO.at {w : World} {F : Nat → Prop} {a : Option Addr} {c : Nat} {l : List Bt} (h : BtsO w F (.slice a l.length c) l) {i : Nat} (hi : i < l.length) : ∃ b off, a = some ⟨b, off, none⟩ ∧ l.length ≤ c := by
  rcases h with ⟨_, _, _, _, e⟩ | ⟨b, off, cap, h1, h2, _⟩
  · rw [e] at hi; exact absurd hi (Nat.not_lt_zero i)
  · simp only [Value.slice.injEq] at h1
    exact ⟨b, off, h1.1, h1.2.2 ▸ h2⟩
end Go.Proofs.YtdigjklhfimnbaaGreat
namespace Go.Proofs.YtdigjklhfimnbaaGreat
set_option maxRecDepth 100000
set_option linter.unusedVariables false

structure Tk where
  nx : Int
  H : List Bt
def tk0 : Tk := ⟨0, []⟩
def nums (H : List Bt) : List Int := H.map Prod.fst
def findH (H : List Bt) (n : Int) : Option Bt := H.find? fun h => h.1 == n
def dropH (H : List Bt) (n : Int) : List Bt := H.filter fun h => !(h.1 == n)
/-- As long as the batch of next is held its objects are told. -/
def runT : Nat → Tk → List Ob × Tk
  | 0, t => ([], t)
  | f + 1, t => match findH t.H t.nx with
    | none => ([], t)
    | some h => (h.2 ++ (runT f ⟨nxt t.nx, dropH t.H t.nx⟩).1, (runT f ⟨nxt t.nx, dropH t.H t.nx⟩).2)
/-- What Take answers (objects, error), and leaves. -/
def takeR (t : Tk) (x : Bt) : (List Ob × Int) × Tk :=
  if ¬ BtOk x.1 x.2 then (([], 1), t) else
  if 32768 ≤ far t.nx x.1 then (([], 10), t) else
  if 16 < far t.nx x.1 then (([], 1), t) else
  if (findH t.H x.1).isSome = true then (([], 9), t) else
  (((runT (t.H.length + 1) ⟨t.nx, t.H ++ [x]⟩).1, 0), (runT (t.H.length + 1) ⟨t.nx, t.H ++ [x]⟩).2)
structure TkOk (t : Tk) : Prop where
  nx : 0 ≤ t.nx ∧ t.nx ≤ 65535
  ok : ∀ h ∈ t.H, BtOk h.1 h.2
  near : ∀ h ∈ t.H, 1 ≤ far t.nx h.1 ∧ far t.nx h.1 ≤ 16
  nd : (nums t.H).Nodup
theorem tkok_new : TkOk tk0 := ⟨⟨Int.le_refl 0, (show (0 : Int) ≤ 65535 by decide)⟩, fun h hh => absurd hh List.not_mem_nil, fun h hh => absurd hh List.not_mem_nil, List.nodup_nil⟩
theorem findH_some {H : List Bt} {n : Int} {h : Bt} (hf : findH H n = some h) : h ∈ H ∧ h.1 = n := by
  have h1 := List.mem_of_find?_eq_some hf
  have h2 := List.find?_some hf
  exact ⟨h1, by simpa using h2⟩
theorem findH_none {H : List Bt} {n : Int} (hf : findH H n = none) : ∀ h ∈ H, h.1 ≠ n := by
  intro h hh e
  have := List.find?_eq_none.1 hf h hh
  simp [e] at this
theorem mem_dropH {H : List Bt} {n : Int} {h : Bt} : h ∈ dropH H n ↔ h ∈ H ∧ h.1 ≠ n := by
  unfold dropH
  rw [List.mem_filter]
  simp
theorem dropH_sub (H : List Bt) (n : Int) : (dropH H n).Sublist H := List.filter_sublist
theorem nums_drop {H : List Bt} {n : Int} (h : (nums H).Nodup) : (nums (dropH H n)).Nodup := h.sublist ((dropH_sub H n).map _)
/-- One that is held is one less. -/
theorem dropH_len {H : List Bt} {n : Int} {h : Bt} (hf : findH H n = some h) (hnd : (nums H).Nodup) : (dropH H n).length + 1 = H.length := by
  obtain ⟨hm, he⟩ := findH_some hf
  clear hf
  induction H with
  | nil => exact absurd hm List.not_mem_nil
  | cons a H ih =>
    have hnd' : a.1 ∉ nums H ∧ (nums H).Nodup := List.nodup_cons.1 hnd
    rcases List.mem_cons.1 hm with rfl | hm
    · have e : dropH H n = H := by
        unfold dropH
        rw [List.filter_eq_self]
        intro y hy
        have : y.1 ≠ n := fun e2 => hnd'.1 (by rw [he, ← e2]; exact List.mem_map.2 ⟨y, hy, rfl⟩)
        simpa using this
      have e2 : dropH (h :: H) n = dropH H n := by
        unfold dropH
        rw [List.filter_cons_of_neg]
        simp [he]
      rw [e2, e]
      rfl
    · have hne : a.1 ≠ n := fun e2 => hnd'.1 (by rw [e2, ← he]; exact List.mem_map.2 ⟨h, hm, rfl⟩)
      have e2 : dropH (a :: H) n = a :: dropH H n := by
        unfold dropH
        rw [List.filter_cons_of_pos]
        simpa using hne
      rw [e2, List.length_cons, List.length_cons, ih hnd'.2 hm]
/-- A taker in the midst of telling: next itself may be held. -/
structure TkMid (t : Tk) : Prop where
  nx : 0 ≤ t.nx ∧ t.nx ≤ 65535
  ok : ∀ h ∈ t.H, BtOk h.1 h.2
  near : ∀ h ∈ t.H, far t.nx h.1 ≤ 16
  nd : (nums t.H).Nodup
theorem bt_rng {h : Bt} (hb : BtOk h.1 h.2) : 0 ≤ h.1 ∧ h.1 ≤ 65535 := hb.1
theorem mid_step {t : Tk} (h : TkMid t) {x : Bt} (hf : findH t.H t.nx = some x) : TkMid ⟨nxt t.nx, dropH t.H t.nx⟩ := by
  refine ⟨nxt_rng _, fun y hy => h.ok y (mem_dropH.1 hy).1, fun y hy => ?_, nums_drop h.nd⟩
  obtain ⟨h1, h2⟩ := mem_dropH.1 hy
  have h3 := h.near y h1
  have h4 := bt_rng (h.ok y h1)
  have h5 := h.nx
  show far (nxt t.nx) y.1 ≤ 16
  unfold far nxt at *
  omega
/-- What is told, batch for batch, and what is left. -/
theorem runT_ok : ∀ (f : Nat) (t : Tk), TkMid t → t.H.length ≤ f → TkOk (runT f t).2 ∧ ∃ B : List Bt, (runT f t).1 = (B.map Prod.snd).flatten ∧ (∀ i (hi : i < B.length), B[i] ∈ t.H ∧ B[i].1 = numAt t.nx i) ∧ (runT f t).2.nx = numAt t.nx B.length ∧ (runT f t).2.H.length + B.length = t.H.length ∧ (∀ h, h ∈ (runT f t).2.H ↔ h ∈ t.H ∧ h ∉ B) ∧ findH (runT f t).2.H (runT f t).2.nx = none
  | 0, t, hm, hl => by
    have e : t.H = [] := List.eq_nil_of_length_eq_zero (by omega)
    refine ⟨⟨hm.nx, hm.ok, fun h hh => ?_, hm.nd⟩, [], rfl, fun i hi => absurd hi (Nat.not_lt_zero i), rfl, rfl, fun h => ⟨fun hh => ⟨hh, List.not_mem_nil⟩, fun hh => hh.1⟩, ?_⟩
    · have hh' : h ∈ t.H := hh
      rw [e] at hh'
      exact absurd hh' List.not_mem_nil
    · show findH t.H t.nx = none
      rw [e]
      rfl
  | f + 1, t, hm, hl => by
    cases hf : findH t.H t.nx with
    | none =>
      have e : runT (f + 1) t = ([], t) := by simp only [runT, hf]
      rw [e]
      refine ⟨⟨hm.nx, hm.ok, fun h hh => ⟨?_, hm.near h hh⟩, hm.nd⟩, [], rfl, fun i hi => absurd hi (Nat.not_lt_zero i), rfl, rfl, fun h => ⟨fun hh => ⟨hh, List.not_mem_nil⟩, fun hh => hh.1⟩, hf⟩
      have h1 := findH_none hf h hh
      have h2 := bt_rng (hm.ok h hh)
      have h3 := hm.nx
      show 1 ≤ far t.nx h.1
      unfold far
      omega
    | some x =>
      obtain ⟨hx1, hx2⟩ := findH_some hf
      have hlen := dropH_len hf hm.nd
      obtain ⟨k1, B, k2, k3, k4, k5, k6, k7⟩ := runT_ok f ⟨nxt t.nx, dropH t.H t.nx⟩ (mid_step hm hf) (by show (dropH t.H t.nx).length ≤ f; omega)
      have e : runT (f + 1) t = (x.2 ++ (runT f ⟨nxt t.nx, dropH t.H t.nx⟩).1, (runT f ⟨nxt t.nx, dropH t.H t.nx⟩).2) := by simp only [runT, hf]
      rw [e]
      refine ⟨k1, x :: B, ?_, ?_, ?_, ?_, ?_, k7⟩
      · show x.2 ++ _ = _
        rw [k2]
        rfl
      · intro i hi
        cases i with
        | zero => exact ⟨hx1, hx2⟩
        | succ i =>
          obtain ⟨h1, h2⟩ := k3 i (by simpa using hi)
          exact ⟨(mem_dropH.1 h1).1, h2⟩
      · exact k4
      · show (runT f ⟨nxt t.nx, dropH t.H t.nx⟩).2.H.length + (B.length + 1) = t.H.length
        have k5' : (runT f ⟨nxt t.nx, dropH t.H t.nx⟩).2.H.length + B.length = (dropH t.H t.nx).length := k5
        omega
      · intro h
        rw [k6 h]
        show h ∈ dropH t.H t.nx ∧ h ∉ B ↔ _
        rw [mem_dropH, List.mem_cons, not_or]
        constructor
        · rintro ⟨⟨h1, h2⟩, h3⟩
          exact ⟨h1, fun e => h2 (by rw [e]; exact hx2), h3⟩
        · rintro ⟨h1, h2, h3⟩
          refine ⟨⟨h1, fun e => h2 ?_⟩, h3⟩
          have hnd := hm.nd
          -- two of one number are the same
          have : ∀ (H : List Bt), (nums H).Nodup → ∀ a ∈ H, ∀ b ∈ H, a.1 = b.1 → a = b := by
            intro H
            induction H with
            | nil => intro _ a ha; exact absurd ha List.not_mem_nil
            | cons c H ih =>
              intro hn a ha b hb hab
              have hn' : c.1 ∉ nums H ∧ (nums H).Nodup := List.nodup_cons.1 hn
              rcases List.mem_cons.1 ha with h1 | ha
              · rcases List.mem_cons.1 hb with h2 | hb
                · exact h1.trans h2.symm
                · exact absurd (by rw [← h1, hab]; exact List.mem_map.2 ⟨b, hb, rfl⟩) hn'.1
              · rcases List.mem_cons.1 hb with h2 | hb
                · exact absurd (by rw [← h2, ← hab]; exact List.mem_map.2 ⟨a, ha, rfl⟩) hn'.1
                · exact ih hn'.2 a ha b hb hab
          exact this t.H hnd h h1 x hx1 (e.trans hx2.symm)
end Go.Proofs.YtdigjklhfimnbaaGreat
namespace Go.Proofs.YtdigjklhfimnbaaGreat
set_option maxRecDepth 100000
set_option linter.unusedVariables false

/-- Take has room for x. -/
def TkIn (t : Tk) (x : Bt) : Prop := BtOk x.1 x.2 ∧ far t.nx x.1 ≤ 16 ∧ findH t.H x.1 = none
/-- What is refused turns nothing, and tells nothing. -/
theorem take_no {t : Tk} {x : Bt} (h : ¬ TkIn t x) : ∃ e : Int, takeR t x = (([], e), t) ∧ (e = 1 ∨ e = 10 ∨ e = 9) := by
  unfold takeR
  by_cases h1 : BtOk x.1 x.2
  · rw [if_neg (fun g => g h1)]
    by_cases h2 : 32768 ≤ far t.nx x.1
    · exact ⟨10, if_pos h2, .inr (.inl rfl)⟩
    · rw [if_neg h2]
      by_cases h3 : 16 < far t.nx x.1
      · exact ⟨1, if_pos h3, .inl rfl⟩
      · rw [if_neg h3]
        by_cases h4 : (findH t.H x.1).isSome = true
        · exact ⟨9, if_pos h4, .inr (.inr rfl)⟩
        · exact absurd ⟨h1, by omega, by simpa using h4⟩ h
  · exact ⟨1, if_pos h1, .inl rfl⟩
theorem take_in {t : Tk} {x : Bt} (h : TkIn t x) : takeR t x = (((runT (t.H.length + 1) ⟨t.nx, t.H ++ [x]⟩).1, 0), (runT (t.H.length + 1) ⟨t.nx, t.H ++ [x]⟩).2) := by
  unfold takeR
  rw [if_neg (fun g => g h.1), if_neg (by have := h.2.1; omega), if_neg (by have := h.2.1; omega), if_neg (by rw [h.2.2]; decide)]
theorem mid_in {t : Tk} (ht : TkOk t) {x : Bt} (h : TkIn t x) : TkMid ⟨t.nx, t.H ++ [x]⟩ := by
  refine ⟨ht.nx, fun y hy => ?_, fun y hy => ?_, ?_⟩
  · rcases List.mem_append.1 hy with hy | hy
    · exact ht.ok y hy
    · rw [List.mem_singleton.1 hy]; exact h.1
  · rcases List.mem_append.1 hy with hy | hy
    · exact (ht.near y hy).2
    · rw [List.mem_singleton.1 hy]; exact h.2.1
  · show (List.map Prod.fst (t.H ++ [x])).Nodup
    rw [List.map_append, List.nodup_append]
    refine ⟨ht.nd, by simp, fun a ha b hb e => ?_⟩
    obtain ⟨y, hy, rfl⟩ := List.mem_map.1 ha
    simp only [List.map_cons, List.map_nil, List.mem_singleton] at hb
    exact findH_none h.2.2 y hy (e.trans hb)
/-- What Take tells of what it has room for: batches in their order from next on, and what is left. -/
theorem take_ok {t : Tk} (ht : TkOk t) {x : Bt} (h : TkIn t x) : (takeR t x).1.2 = 0 ∧ TkOk (takeR t x).2 ∧ ∃ B : List Bt, (takeR t x).1.1 = (B.map Prod.snd).flatten ∧ (∀ i (hi : i < B.length), (B[i] ∈ t.H ∨ B[i] = x) ∧ B[i].1 = numAt t.nx i) ∧ (takeR t x).2.nx = numAt t.nx B.length ∧ (takeR t x).2.H.length + B.length = t.H.length + 1 ∧ (∀ y, y ∈ (takeR t x).2.H ↔ (y ∈ t.H ∨ y = x) ∧ y ∉ B) ∧ findH (takeR t x).2.H (takeR t x).2.nx = none := by
  have hl : (t.H ++ [x]).length = t.H.length + 1 := by rw [List.length_append]; rfl
  obtain ⟨k1, B, k2, k3, k4, k5, k6, k7⟩ := runT_ok (t.H.length + 1) ⟨t.nx, t.H ++ [x]⟩ (mid_in ht h) (by show (t.H ++ [x]).length ≤ _; omega)
  rw [take_in h]
  refine ⟨rfl, k1, B, k2, fun i hi => ?_, k4, k5.trans hl, fun y => ?_, k7⟩
  · obtain ⟨h1, h2⟩ := k3 i hi
    refine ⟨?_, h2⟩
    rcases List.mem_append.1 h1 with h1 | h1
    · exact .inl h1
    · exact .inr (List.mem_singleton.1 h1)
  · rw [k6 y]
    show y ∈ t.H ++ [x] ∧ _ ↔ _
    rw [List.mem_append, List.mem_singleton]
/-- No more are held than sixteen. -/
theorem nodup_le : ∀ (l : List Int) (k : Nat), l.Nodup → (∀ n ∈ l, 1 ≤ n ∧ n ≤ k) → l.length ≤ k
  | l, 0, _, h => by
    cases l with
    | nil => exact Nat.le_refl _
    | cons a l => have := h a List.mem_cons_self; omega
  | l, k + 1, hn, h => by
    have h1 := nodup_le (l.filter fun n => !(n == ((k + 1 : Nat) : Int))) k (hn.sublist List.filter_sublist) (fun n hm => by
      obtain ⟨h2, h3⟩ := List.mem_filter.1 hm
      have h4 := h n h2
      have h5 : n ≠ ((k + 1 : Nat) : Int) := by simpa using h3
      omega)
    have h2 : l.length ≤ (l.filter fun n => !(n == ((k + 1 : Nat) : Int))).length + 1 := by
      clear h h1
      induction l with
      | nil => exact Nat.zero_le _
      | cons a l ih =>
        obtain ⟨h3, h4⟩ := List.nodup_cons.1 hn
        by_cases ha : a = ((k + 1 : Nat) : Int)
        · have e : (l.filter fun n => !(n == ((k + 1 : Nat) : Int))) = l := by
            rw [List.filter_eq_self]
            intro y hy
            have : y ≠ ((k + 1 : Nat) : Int) := fun e => h3 (by rw [ha, ← e]; exact hy)
            simpa using this
          rw [List.filter_cons_of_neg (by simp [ha]), e, List.length_cons]
          exact Nat.le_refl _
        · rw [List.filter_cons_of_pos (by simpa using ha), List.length_cons, List.length_cons]
          have := ih h4
          omega
    omega
theorem held_le {t : Tk} (ht : TkOk t) : t.H.length ≤ 16 := by
  have h1 : ((t.H.map fun h => far t.nx h.1)).Nodup := by
    have h2 : (t.H.map fun h => far t.nx h.1) = (nums t.H).map (far t.nx) := by unfold nums; rw [List.map_map]; rfl
    rw [h2]
    have hr : ∀ n ∈ nums t.H, 0 ≤ n ∧ n ≤ 65535 := fun n hn => by
      obtain ⟨h, hh, rfl⟩ := List.mem_map.1 hn
      exact bt_rng (ht.ok h hh)
    have hnd := ht.nd
    generalize nums t.H = l at hr hnd
    induction l with
    | nil => exact List.nodup_nil
    | cons a l ih =>
      obtain ⟨h3, h4⟩ := List.nodup_cons.1 hnd
      rw [List.map_cons, List.nodup_cons]
      refine ⟨fun hm => ?_, ih (fun n hn => hr n (List.mem_cons_of_mem _ hn)) h4⟩
      obtain ⟨c, hc, he⟩ := List.mem_map.1 hm
      have r1 := hr a List.mem_cons_self
      have r2 := hr c (List.mem_cons_of_mem _ hc)
      have : c = a := by unfold far at he; omega
      exact h3 (this ▸ hc)
  have h5 := nodup_le _ 16 h1 (fun n hn => by
    obtain ⟨h, hh, rfl⟩ := List.mem_map.1 hn
    exact ht.near h hh)
  rw [List.length_map] at h5
  exact h5
end Go.Proofs.YtdigjklhfimnbaaGreat
