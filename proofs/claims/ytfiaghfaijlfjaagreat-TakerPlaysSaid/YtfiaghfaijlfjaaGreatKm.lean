/- A taker: what is next, what is held; what Take tells and leaves. What it leaves is right. No conditions. A taker: what Take turns: what is refused turns nothing; next is one more for each batch that is told. No conditions. -/
import Derived.Test.YtfiaghfaijlfjaaGreatSm
import Derived.Test.YtfiaghfaijlfjaaGreatAm
namespace Go.Proofs.YtfiaghfaijlfjaaGreat
set_option maxRecDepth 100000
set_option linter.unusedVariables false

structure Tk where
  nx : Int
  H : List Bt
def tk0 : Tk := ⟨0, []⟩
def nums (H : List Bt) : List Int := H.map Prod.fst
def findH (H : List Bt) (n : Int) : Option Bt := H.find? fun h => h.1 == n
def dropH (H : List Bt) (n : Int) : List Bt := H.filter fun h => !(h.1 == n)
/-- As long as the batch of next is held its objects are told. -/
def runT : Nat → Tk → List Ob × Tk
  | 0, t => ([], t)
  | f + 1, t => match findH t.H t.nx with
    | none => ([], t)
    | some h => (h.2 ++ (runT f ⟨nxt t.nx, dropH t.H t.nx⟩).1, (runT f ⟨nxt t.nx, dropH t.H t.nx⟩).2)
/-- What Take answers (objects, error), and leaves. -/
def takeR (t : Tk) (x : Bt) : (List Ob × Int) × Tk :=
  if ¬ BtOk x.1 x.2 then (([], 1), t) else
  if 32768 ≤ far t.nx x.1 then (([], 10), t) else
  if 16 < far t.nx x.1 then (([], 1), t) else
  if (findH t.H x.1).isSome = true then (([], 9), t) else
  (((runT (t.H.length + 1) ⟨t.nx, t.H ++ [x]⟩).1, 0), (runT (t.H.length + 1) ⟨t.nx, t.H ++ [x]⟩).2)
structure TkOk (t : Tk) : Prop where
  nx : 0 ≤ t.nx ∧ t.nx ≤ 65535
  ok : ∀ h ∈ t.H, BtOk h.1 h.2
  near : ∀ h ∈ t.H, 1 ≤ far t.nx h.1 ∧ far t.nx h.1 ≤ 16
  nd : (nums t.H).Nodup
theorem tkok_new : TkOk tk0 := ⟨⟨Int.le_refl 0, (show (0 : Int) ≤ 65535 by decide)⟩, fun h hh => absurd hh List.not_mem_nil, fun h hh => absurd hh List.not_mem_nil, List.nodup_nil⟩
theorem findH_some {H : List Bt} {n : Int} {h : Bt} (hf : findH H n = some h) : h ∈ H ∧ h.1 = n := by
  have h1 := List.mem_of_find?_eq_some hf
  have h2 := List.find?_some hf
  exact ⟨h1, by simpa using h2⟩
theorem findH_none {H : List Bt} {n : Int} (hf : findH H n = none) : ∀ h ∈ H, h.1 ≠ n := by
  intro h hh e
  have := List.find?_eq_none.1 hf h hh
  simp [e] at this
theorem mem_dropH {H : List Bt} {n : Int} {h : Bt} : h ∈ dropH H n ↔ h ∈ H ∧ h.1 ≠ n := by
  unfold dropH
  rw [List.mem_filter]
  simp
theorem dropH_sub (H : List Bt) (n : Int) : (dropH H n).Sublist H := List.filter_sublist
theorem nums_drop {H : List Bt} {n : Int} (h : (nums H).Nodup) : (nums (dropH H n)).Nodup := h.sublist ((dropH_sub H n).map _)
/-- One that is held is one less. -/
theorem dropH_len {H : List Bt} {n : Int} {h : Bt} (hf : findH H n = some h) (hnd : (nums H).Nodup) : (dropH H n).length + 1 = H.length := by
  obtain ⟨hm, he⟩ := findH_some hf
  clear hf
  induction H with
  | nil => exact absurd hm List.not_mem_nil
  | cons a H ih =>
    have hnd' : a.1 ∉ nums H ∧ (nums H).Nodup := List.nodup_cons.1 hnd
    rcases List.mem_cons.1 hm with rfl | hm
    · have e : dropH H n = H := by
        unfold dropH
        rw [List.filter_eq_self]
        intro y hy
        have : y.1 ≠ n := fun e2 => hnd'.1 (by rw [he, ← e2]; exact List.mem_map.2 ⟨y, hy, rfl⟩)
        simpa using this
      have e2 : dropH (h :: H) n = dropH H n := by
        unfold dropH
        rw [List.filter_cons_of_neg]
        simp [he]
      rw [e2, e]
      rfl
    · have hne : a.1 ≠ n := fun e2 => hnd'.1 (by rw [e2, ← he]; exact List.mem_map.2 ⟨h, hm, rfl⟩)
      have e2 : dropH (a :: H) n = a :: dropH H n := by
        unfold dropH
        rw [List.filter_cons_of_pos]
        simpa using hne
      rw [e2, List.length_cons, List.length_cons, ih hnd'.2 hm]
/-- A taker in the midst of telling: next itself may be held. -/
structure TkMid (t : Tk) : Prop where
  nx : 0 ≤ t.nx ∧ t.nx ≤ 65535
  ok : ∀ h ∈ t.H, BtOk h.1 h.2
  near : ∀ h ∈ t.H, far t.nx h.1 ≤ 16
  nd : (nums t.H).Nodup
theorem bt_rng {h : Bt} (hb : BtOk h.1 h.2) : 0 ≤ h.1 ∧ h.1 ≤ 65535 := hb.1
theorem mid_step {t : Tk} (h : TkMid t) {x : Bt} (hf : findH t.H t.nx = some x) : TkMid ⟨nxt t.nx, dropH t.H t.nx⟩ := by
  refine ⟨nxt_rng _, fun y hy => h.ok y (mem_dropH.1 hy).1, fun y hy => ?_, nums_drop h.nd⟩
  obtain ⟨h1, h2⟩ := mem_dropH.1 hy
  have h3 := h.near y h1
  have h4 := bt_rng (h.ok y h1)
  have h5 := h.nx
  show far (nxt t.nx) y.1 ≤ 16
  unfold far nxt at *
  omega
/-- What is told, batch for batch, and what is left. -/
theorem runT_ok : ∀ (f : Nat) (t : Tk), TkMid t → t.H.length ≤ f → TkOk (runT f t).2 ∧ ∃ B : List Bt, (runT f t).1 = (B.map Prod.snd).flatten ∧ (∀ i (hi : i < B.length), B[i] ∈ t.H ∧ B[i].1 = numAt t.nx i) ∧ (runT f t).2.nx = numAt t.nx B.length ∧ (runT f t).2.H.length + B.length = t.H.length ∧ (∀ h, h ∈ (runT f t).2.H ↔ h ∈ t.H ∧ h ∉ B) ∧ findH (runT f t).2.H (runT f t).2.nx = none
  | 0, t, hm, hl => by
    have e : t.H = [] := List.eq_nil_of_length_eq_zero (by omega)
    refine ⟨⟨hm.nx, hm.ok, fun h hh => ?_, hm.nd⟩, [], rfl, fun i hi => absurd hi (Nat.not_lt_zero i), rfl, rfl, fun h => ⟨fun hh => ⟨hh, List.not_mem_nil⟩, fun hh => hh.1⟩, ?_⟩
    · have hh' : h ∈ t.H := hh
      rw [e] at hh'
      exact absurd hh' List.not_mem_nil
    · show findH t.H t.nx = none
      rw [e]
      rfl
  | f + 1, t, hm, hl => by
    cases hf : findH t.H t.nx with
    | none =>
      have e : runT (f + 1) t = ([], t) := by simp only [runT, hf]
      rw [e]
      refine ⟨⟨hm.nx, hm.ok, fun h hh => ⟨?_, hm.near h hh⟩, hm.nd⟩, [], rfl, fun i hi => absurd hi (Nat.not_lt_zero i), rfl, rfl, fun h => ⟨fun hh => ⟨hh, List.not_mem_nil⟩, fun hh => hh.1⟩, hf⟩
      have h1 := findH_none hf h hh
      have h2 := bt_rng (hm.ok h hh)
      have h3 := hm.nx
      show 1 ≤ far t.nx h.1
      unfold far
      omega
    | some x =>
      obtain ⟨hx1, hx2⟩ := findH_some hf
      have hlen := dropH_len hf hm.nd
      obtain ⟨k1, B, k2, k3, k4, k5, k6, k7⟩ := runT_ok f ⟨nxt t.nx, dropH t.H t.nx⟩ (mid_step hm hf) (by show (dropH t.H t.nx).length ≤ f; omega)
      have e : runT (f + 1) t = (x.2 ++ (runT f ⟨nxt t.nx, dropH t.H t.nx⟩).1, (runT f ⟨nxt t.nx, dropH t.H t.nx⟩).2) := by simp only [runT, hf]
      rw [e]
      refine ⟨k1, x :: B, ?_, ?_, ?_, ?_, ?_, k7⟩
      · show x.2 ++ _ = _
        rw [k2]
        rfl
      · intro i hi
        cases i with
        | zero => exact ⟨hx1, hx2⟩
        | succ i =>
          obtain ⟨h1, h2⟩ := k3 i (by simpa using hi)
          exact ⟨(mem_dropH.1 h1).1, h2⟩
      · exact k4
      · show (runT f ⟨nxt t.nx, dropH t.H t.nx⟩).2.H.length + (B.length + 1) = t.H.length
        have k5' : (runT f ⟨nxt t.nx, dropH t.H t.nx⟩).2.H.length + B.length = (dropH t.H t.nx).length := k5
        omega
      · intro h
        rw [k6 h]
        show h ∈ dropH t.H t.nx ∧ h ∉ B ↔ _
        rw [mem_dropH, List.mem_cons, not_or]
        constructor
        · rintro ⟨⟨h1, h2⟩, h3⟩
          exact ⟨h1, fun e => h2 (by rw [e]; exact hx2), h3⟩
        · rintro ⟨h1, h2, h3⟩
          refine ⟨⟨h1, fun e => h2 ?_⟩, h3⟩
          have hnd := hm.nd
          -- two of one number are the same
          have : ∀ (H : List Bt), (nums H).Nodup → ∀ a ∈ H, ∀ b ∈ H, a.1 = b.1 → a = b := by
            intro H
            induction H with
            | nil => intro _ a ha; exact absurd ha List.not_mem_nil
            | cons c H ih =>
              intro hn a ha b hb hab
              have hn' : c.1 ∉ nums H ∧ (nums H).Nodup := List.nodup_cons.1 hn
              rcases List.mem_cons.1 ha with h1 | ha
              · rcases List.mem_cons.1 hb with h2 | hb
                · exact h1.trans h2.symm
                · exact absurd (by rw [← h1, hab]; exact List.mem_map.2 ⟨b, hb, rfl⟩) hn'.1
              · rcases List.mem_cons.1 hb with h2 | hb
                · exact absurd (by rw [← h2, ← hab]; exact List.mem_map.2 ⟨a, ha, rfl⟩) hn'.1
                · exact ih hn'.2 a ha b hb hab
          exact this t.H hnd h h1 x hx1 (e.trans hx2.symm)
end Go.Proofs.YtfiaghfaijlfjaaGreat

namespace Go.Proofs.YtfiaghfaijlfjaaGreat
set_option maxRecDepth 100000
set_option linter.unusedVariables false

/-- Take has room for x. -/
def TkIn (t : Tk) (x : Bt) : Prop := BtOk x.1 x.2 ∧ far t.nx x.1 ≤ 16 ∧ findH t.H x.1 = none
/-- What is refused turns nothing, and tells nothing. -/
theorem take_no {t : Tk} {x : Bt} (h : ¬ TkIn t x) : ∃ e : Int, takeR t x = (([], e), t) ∧ (e = 1 ∨ e = 10 ∨ e = 9) := by
  unfold takeR
  by_cases h1 : BtOk x.1 x.2
  · rw [if_neg (fun g => g h1)]
    by_cases h2 : 32768 ≤ far t.nx x.1
    · exact ⟨10, if_pos h2, .inr (.inl rfl)⟩
    · rw [if_neg h2]
      by_cases h3 : 16 < far t.nx x.1
      · exact ⟨1, if_pos h3, .inl rfl⟩
      · rw [if_neg h3]
        by_cases h4 : (findH t.H x.1).isSome = true
        · exact ⟨9, if_pos h4, .inr (.inr rfl)⟩
        · exact absurd ⟨h1, by omega, by simpa using h4⟩ h
  · exact ⟨1, if_pos h1, .inl rfl⟩
theorem take_in {t : Tk} {x : Bt} (h : TkIn t x) : takeR t x = (((runT (t.H.length + 1) ⟨t.nx, t.H ++ [x]⟩).1, 0), (runT (t.H.length + 1) ⟨t.nx, t.H ++ [x]⟩).2) := by
  unfold takeR
  rw [if_neg (fun g => g h.1), if_neg (by have := h.2.1; omega), if_neg (by have := h.2.1; omega), if_neg (by rw [h.2.2]; decide)]
theorem mid_in {t : Tk} (ht : TkOk t) {x : Bt} (h : TkIn t x) : TkMid ⟨t.nx, t.H ++ [x]⟩ := by
  refine ⟨ht.nx, fun y hy => ?_, fun y hy => ?_, ?_⟩
  · rcases List.mem_append.1 hy with hy | hy
    · exact ht.ok y hy
    · rw [List.mem_singleton.1 hy]; exact h.1
  · rcases List.mem_append.1 hy with hy | hy
    · exact (ht.near y hy).2
    · rw [List.mem_singleton.1 hy]; exact h.2.1
  · show (List.map Prod.fst (t.H ++ [x])).Nodup
    rw [List.map_append, List.nodup_append]
    refine ⟨ht.nd, by simp, fun a ha b hb e => ?_⟩
    obtain ⟨y, hy, rfl⟩ := List.mem_map.1 ha
    simp only [List.map_cons, List.map_nil, List.mem_singleton] at hb
    exact findH_none h.2.2 y hy (e.trans hb)
/-- What Take tells of what it has room for: batches in their order from next on, and what is left. -/
theorem take_ok {t : Tk} (ht : TkOk t) {x : Bt} (h : TkIn t x) : (takeR t x).1.2 = 0 ∧ TkOk (takeR t x).2 ∧ ∃ B : List Bt, (takeR t x).1.1 = (B.map Prod.snd).flatten ∧ (∀ i (hi : i < B.length), (B[i] ∈ t.H ∨ B[i] = x) ∧ B[i].1 = numAt t.nx i) ∧ (takeR t x).2.nx = numAt t.nx B.length ∧ (takeR t x).2.H.length + B.length = t.H.length + 1 ∧ (∀ y, y ∈ (takeR t x).2.H ↔ (y ∈ t.H ∨ y = x) ∧ y ∉ B) ∧ findH (takeR t x).2.H (takeR t x).2.nx = none := by
  have hl : (t.H ++ [x]).length = t.H.length + 1 := by rw [List.length_append]; rfl
  obtain ⟨k1, B, k2, k3, k4, k5, k6, k7⟩ := runT_ok (t.H.length + 1) ⟨t.nx, t.H ++ [x]⟩ (mid_in ht h) (by show (t.H ++ [x]).length ≤ _; omega)
  rw [take_in h]
  refine ⟨rfl, k1, B, k2, fun i hi => ?_, k4, k5.trans hl, fun y => ?_, k7⟩
  · obtain ⟨h1, h2⟩ := k3 i hi
    refine ⟨?_, h2⟩
    rcases List.mem_append.1 h1 with h1 | h1
    · exact .inl h1
    · exact .inr (List.mem_singleton.1 h1)
  · rw [k6 y]
    show y ∈ t.H ++ [x] ∧ _ ↔ _
    rw [List.mem_append, List.mem_singleton]
theorem tkok_take {t : Tk} (ht : TkOk t) (x : Bt) : TkOk (takeR t x).2 := by
  by_cases h : TkIn t x
  · exact (take_ok ht h).2.1
  · obtain ⟨e, he, _⟩ := take_no h
    rw [he]; exact ht
/-- No more are held than sixteen. -/
theorem nodup_le : ∀ (l : List Int) (k : Nat), l.Nodup → (∀ n ∈ l, 1 ≤ n ∧ n ≤ k) → l.length ≤ k
  | l, 0, _, h => by
    cases l with
    | nil => exact Nat.le_refl _
    | cons a l => have := h a List.mem_cons_self; omega
  | l, k + 1, hn, h => by
    have h1 := nodup_le (l.filter fun n => !(n == ((k + 1 : Nat) : Int))) k (hn.sublist List.filter_sublist) (fun n hm => by
      obtain ⟨h2, h3⟩ := List.mem_filter.1 hm
      have h4 := h n h2
      have h5 : n ≠ ((k + 1 : Nat) : Int) := by simpa using h3
      omega)
    have h2 : l.length ≤ (l.filter fun n => !(n == ((k + 1 : Nat) : Int))).length + 1 := by
      clear h h1
      induction l with
      | nil => exact Nat.zero_le _
      | cons a l ih =>
        obtain ⟨h3, h4⟩ := List.nodup_cons.1 hn
        by_cases ha : a = ((k + 1 : Nat) : Int)
        · have e : (l.filter fun n => !(n == ((k + 1 : Nat) : Int))) = l := by
            rw [List.filter_eq_self]
            intro y hy
            have : y ≠ ((k + 1 : Nat) : Int) := fun e => h3 (by rw [ha, ← e]; exact hy)
            simpa using this
          rw [List.filter_cons_of_neg (by simp [ha]), e, List.length_cons]
          exact Nat.le_refl _
        · rw [List.filter_cons_of_pos (by simpa using ha), List.length_cons, List.length_cons]
          have := ih h4
          omega
    omega
theorem held_le {t : Tk} (ht : TkOk t) : t.H.length ≤ 16 := by
  have h1 : ((t.H.map fun h => far t.nx h.1)).Nodup := by
    have h2 : (t.H.map fun h => far t.nx h.1) = (nums t.H).map (far t.nx) := by unfold nums; rw [List.map_map]; rfl
    rw [h2]
    have hr : ∀ n ∈ nums t.H, 0 ≤ n ∧ n ≤ 65535 := fun n hn => by
      obtain ⟨h, hh, rfl⟩ := List.mem_map.1 hn
      exact bt_rng (ht.ok h hh)
    have hnd := ht.nd
    generalize nums t.H = l at hr hnd
    induction l with
    | nil => exact List.nodup_nil
    | cons a l ih =>
      obtain ⟨h3, h4⟩ := List.nodup_cons.1 hnd
      rw [List.map_cons, List.nodup_cons]
      refine ⟨fun hm => ?_, ih (fun n hn => hr n (List.mem_cons_of_mem _ hn)) h4⟩
      obtain ⟨c, hc, he⟩ := List.mem_map.1 hm
      have r1 := hr a List.mem_cons_self
      have r2 := hr c (List.mem_cons_of_mem _ hc)
      have : c = a := by unfold far at he; omega
      exact h3 (this ▸ hc)
  have h5 := nodup_le _ 16 h1 (fun n hn => by
    obtain ⟨h, hh, rfl⟩ := List.mem_map.1 hn
    exact ht.near h hh)
  rw [List.length_map] at h5
  exact h5
/-- How far next went. -/
theorem far_numAt {n : Int} (hn : 0 ≤ n ∧ n ≤ 65535) : ∀ k : Nat, k < 65536 → far n (numAt n k) = k
  | 0, _ => by show far n n = 0; exact far_self n
  | k + 1, h => by
    have h1 := far_numAt hn k (by omega)
    rw [numAt_succ, far_nxt (by rw [h1]; omega), h1]
    omega
theorem flat_ge : ∀ B : List Bt, (∀ y ∈ B, 1 ≤ y.2.length) → B.length ≤ ((B.map Prod.snd).flatten).length
  | [], _ => Nat.le_refl _
  | y :: B, hb => by
    rw [List.map_cons, List.flatten_cons, List.length_append, List.length_cons]
    have h1 := hb y List.mem_cons_self
    have h2 := flat_ge B (fun z hz => hb z (List.mem_cons_of_mem _ hz))
    omega
theorem take_more {t : Tk} (ht : TkOk t) {x : Bt} (h : TkIn t x) : ∃ m : Nat, far t.nx (takeR t x).2.nx = m ∧ m ≤ 17 ∧ (takeR t x).2.H.length + m = t.H.length + 1 ∧ m ≤ (takeR t x).1.1.length ∧ (m = 0 → (takeR t x).1.1 = []) := by
  obtain ⟨_, _, B, k2, k3, k4, k5, _, _⟩ := take_ok ht h
  have hl := held_le ht
  refine ⟨B.length, by rw [k4]; exact far_numAt ht.nx B.length (by omega), by omega, k5, ?_, fun e => ?_⟩
  · rw [k2]
    have hb : ∀ y ∈ B, 1 ≤ y.2.length := fun y hy => by
      obtain ⟨i, hi, rfl⟩ := List.mem_iff_getElem.1 hy
      rcases (k3 i hi).1 with h1 | h1
      · exact (ht.ok _ h1).2.1.1
      · rw [h1]; exact h.1.2.1.1
    exact flat_ge B hb
  · have e2 : B = [] := List.eq_nil_of_length_eq_zero e
    rw [k2, e2]
    rfl
end Go.Proofs.YtfiaghfaijlfjaaGreat
