/- A typed walk over a region that draws its order and whose last operations come one behind the other, behind all the others: these are walked as a list. Over any program. No conditions beyond those of the theorems. -/
import Derived.Test.YtmimgpnogjgliaaTyp3
import Derived.StillTail
namespace Go.Proofs.Ytmimgpnogjgliaa.T3
set_option maxRecDepth 100000

section
variable {P : Program} {C : World → Prop} {X : Nat → World → World → Prop} {a0 : Act}

theorem listed_split {N g : Nat} {listed : Array Bool} (hs : listed.size = N + g) (ht : ∀ t, N ≤ t → t < N + g → listed.getD t true = false) : listed.toList.drop N = List.replicate g false := by
  refine List.ext_getElem (by simp [hs]) fun i h1 h2 => ?_
  have h3 : i < g := by simpa using h2
  have h4 := ht (N + i) (by omega) (by omega)
  have h5 : N + i < listed.size := by omega
  simp [h5] at h4
  simp [h4]
theorem count_split {N g : Nat} {listed : Array Bool} (hs : listed.size = N + g) (ht : ∀ t, N ≤ t → t < N + g → listed.getD t true = false) : listed.toList.count false = (listed.toList.take N).count false + g := by
  conv => lhs; rw [← List.take_append_drop N listed.toList]
  rw [List.count_append, listed_split hs ht, List.count_replicate_self]
theorem listed_full {N g : Nat} {listed : Array Bool} (hs : listed.size = N + g) (ht : ∀ t, N ≤ t → t < N + g → listed.getD t true = false) (h0 : (listed.toList.take N).count false = 0) : listed = Array.replicate N true ++ Array.replicate g false := by
  have h1 : listed.toList.take N = List.replicate N true := by
    refine List.ext_getElem (by simp [hs]) fun i h1 h2 => ?_
    have hm : (listed.toList.take N)[i] ∈ listed.toList.take N := List.getElem_mem h1
    have hn : (listed.toList.take N)[i] ≠ false := fun e => (List.count_eq_zero.1 h0) (e ▸ hm)
    rw [List.getElem_replicate]
    cases hb : (listed.toList.take N)[i] with
    | true => rfl
    | false => exact absurd hb hn
  apply Array.ext'
  rw [← List.take_append_drop N listed.toList, h1, listed_split hs ht]
  simp
theorem wpAny_head {md : Region.Mode} {l : List Oper} {Vs : List Ty} {n N g : Nat} {Q : Exit → Act → World → Prop} (hok : okB md l n = true) (hkey : keyB l = true) (hlen : Vs.length = N) (hNg : l.length = N + g) (hg : 0 < g)
    (hsink : Region.sinkB md l.toArray N = true) (hchain : Region.chainB md l.toArray N = true) (hseq : Region.seqB md l.toArray g N (Array.replicate N true ++ Array.replicate g false) = true)
    (hall : ∀ (i : Nat) (o : Oper) (V : Ty), l[i]? = some o → Vs[i]? = some V → Keeps X i V ∧ StepT P l.toArray C X a0 i (envs (l.take i) (Vs.take i) fun _ => none) o V)
    (hrefl : ∀ k w, X k w w)
    (hQ : ∀ (a : Act) (w : World), Inv C a0 md l Vs n (Array.replicate N true ++ Array.replicate g false) a w → wpList P l.toArray Q (l.drop N) a w) :
    ∀ (f : Nat) (listed : Array Bool) (a : Act) (w : World), HeadInv md l.toArray N listed → listed.toList.count false = f + g → Inv C a0 md l Vs n listed a w → wpAny P md l.toArray Q (f + g) listed a w := by
  have hk : ∀ (i : Nat) V, Vs[i]? = some V → Keeps X i V := fun i V hV => by
    have hi : i < l.length := by have := (List.getElem?_eq_some_iff.1 hV).1; omega
    exact (hall i l[i] V (List.getElem?_eq_getElem hi) hV).1
  have hsz : l.toArray.size = N + g := by simpa using hNg
  intro f
  induction f with
  | zero =>
    intro listed a w hH h0 hI
    have hs : listed.size = N + g := hH.size.trans hsz
    have ht : ∀ t, N ≤ t → t < N + g → listed.getD t true = false := fun t h1 h2 => hH.tail t h1 (by omega)
    have hc := count_split hs ht
    have hf := listed_full hs ht (by omega)
    subst hf
    have := wpAny_of_seq (md := md) (Q' := Q) (P := P) (l.drop N) N _ a w (ops := l.toArray) (fun j => by simp [List.getElem?_drop]) (by rw [show (l.drop N).length = g by simp; omega]; exact hseq) (hQ a w hI)
    rw [show (l.drop N).length = 0 + g by simp; omega] at this
    exact this
  | succ f ih =>
    intro listed a w hH hf hI
    have hs : listed.size = N + g := hH.size.trans hsz
    have hs' : listed.size = l.length := by omega
    have ht : ∀ t, N ≤ t → t < N + g → listed.getD t true = false := fun t h1 h2 => hH.tail t h1 (by omega)
    have hc := count_split hs ht
    obtain ⟨i0, hi0, hun0⟩ : ∃ i0, i0 < N ∧ listed.getD i0 true = false := by
      have hm : false ∈ listed.toList.take N := List.count_pos_iff.1 (by omega)
      obtain ⟨k, hk1, hk2⟩ := List.mem_iff_getElem.1 hm
      have hk3 : k < N := by simp at hk1; omega
      refine ⟨k, hk3, ?_⟩
      have hk4 : k < listed.size := by omega
      simp at hk2
      simp [hk4, hk2]
    have hhead : ∀ i ∈ Region.ready md l.toArray listed, i < N := fun i hi => by
      rcases Nat.lt_or_ge i N with h | h
      · exact h
      · exact absurd hi (tail_waits hsink hchain (by omega) hH _ i0 rfl hi0 hun0 i h)
    have hmem : ∀ i ∈ Region.ready md l.toArray listed, wpOp P l.toArray Q i (wpAny P md l.toArray Q (f + g) (listed.setIfInBounds i true)) a w := by
      intro i hi
      have hiN := hhead i hi
      obtain ⟨hun, o, ho, hafter⟩ := mem_ready.1 hi
      have ho' : l[i]? = some o := by simpa using ho
      obtain ⟨V, hV⟩ : ∃ V, Vs[i]? = some V := ⟨Vs[i]'(by omega), List.getElem?_eq_getElem (by omega)⟩
      obtain ⟨_, hstep⟩ := hall i o V ho' hV
      obtain ⟨k1, k2, k3, _⟩ := okB_spec hok
      have hcnt : (listed.setIfInBounds i true).toList.count false = f + g := by
        have := count_set listed.toList i (getD_get hun)
        rw [Array.toList_setIfInBounds]
        omega
      have hafter' : ∀ e ∈ o.after, Region.binds md e = true → listed.getD e.on true = true := fun e he hb => by
        have h1 := hafter e he hb
        have hon := (okB_spec hok).2.2.2 i o ho' e he hb
        have hjs : e.on < listed.size := by omega
        simp [hjs] at h1 ⊢
        exact h1
      have hnext : ∀ (v : Value) (w' : World), C w' → X i w w' → FactV V o a v w' → wpAny P md l.toArray Q (f + g) (listed.setIfInBounds i true) (a.put o.dst v) w' := fun v w' h1 h2 h3 =>
        ih _ _ _ (hH.set hi hiN) hcnt (inv_put hok hkey hk hs' hI ho' hun hafter' hV h1 h2 h3)
      have hfits : ∀ t ∈ o.looksAt l.toArray, Fits a0 (envs (l.take i) (Vs.take i) fun _ => none) a w t := by
        intro t ht
        unfold Fits
        by_cases hex : ∃ (j : Nat) (o' : Oper), l[j]? = some o' ∧ o'.dst = some t
        · obtain ⟨j, o', hj, hd⟩ := hex
          obtain ⟨hji, e, he, hb, hon⟩ := k3 i j o o' t ho' hj hd ht
          have hjl : j < Vs.length := by omega
          have hVj : Vs[j]? = some Vs[j] := List.getElem?_eq_getElem hjl
          have henv := envs_some (V := Vs[j]) hd (l.take i) (Vs.take i) (fun _ => none) j (by rw [List.getElem?_take, if_pos hji]; exact hj) (by rw [List.getElem?_take, if_pos hji]; exact hVj) (fun k o'' hjk hk' hd' => by
            have hk2 : l[k]? = some o'' := by
              rw [List.getElem?_take] at hk'
              split at hk'
              · exact hk'
              · cases hk'
            have := k2 j k o' o'' t hj hk2 hd hd'
            omega)
          rw [henv]
          have hl := hafter e he hb
          rw [hon] at hl
          have hl' : listed.getD j true = true := by
            have hjs : j < listed.size := by omega
            simp [hjs] at hl ⊢
            exact hl
          exact hI.2.2.2.1 j o' Vs[j] t hj hVj (key_dst hd) hl'
        · have henv := envs_none (t := t) (l.take i) (Vs.take i) (fun _ => none) (fun o' ho' hd => by
            obtain ⟨k, hk'⟩ := List.mem_iff_getElem?.1 ho'
            rw [List.getElem?_take] at hk'
            split at hk'
            · exact hex ⟨k, o', hk', hd⟩
            · cases hk')
          rw [henv]
          exact hI.2.2.2.2.1 t fun j o' hj hd => absurd ⟨j, o', hj, hd⟩ hex
      have hs2 := hstep a w hI.1 hfits
      unfold wpOp
      simp only [ho]
      by_cases hw : Region.wanted o (yielded l.toArray a.tmps) = true
      · rw [if_pos hw] at hs2
        simp only [hw, if_true]
        left
        unfold Oper.wp
        generalize (execOp a.eval o).run P w = r at *
        cases r with
        | ok nx w' =>
          cases nx <;> simp only [Tame] at hs2 <;> simp only [Oper.upon]
          case value v => exact hnext v w' hs2.1 hs2.2.1 hs2.2.2
          case skip => exact hnext undef w' hs2.1 hs2.2.1 hs2.2.2
          case enter f args =>
            obtain ⟨rfl, hc⟩ := hs2
            exact hc.mono fun e w'' ⟨v, he, h1, h2, h3⟩ => by subst he; exact hnext v w'' h1 h2 h3
        | halt x w' => simp only [Tame] at hs2
      · rw [if_neg hw] at hs2
        simp only [hw]
        exact hnext undef w hI.1 (hrefl i w) hs2
    rw [show f + 1 + g = (f + g) + 1 by omega]
    refine ⟨fun hr => ?_, hmem⟩
    obtain ⟨i, hi, hmin⟩ := least listed (by omega)
    have hil : i < l.length := by rw [← hs']; exact hi.1
    refine absurd (mem_ready.2 ⟨hi.2, l[i], by simp [hil], fun e he hb => ?_⟩ : i ∈ Region.ready md l.toArray listed) (by rw [hr]; simp)
    have hlt := (okB_spec hok).2.2.2 i l[i] (List.getElem?_eq_getElem hil) e he hb
    have hes : e.on < listed.size := by omega
    have := hmin e.on hlt
    simp [hes] at this ⊢
    exact this
/-- Number N on comes behind all the others, one behind the other. -/
def tailB (l : List Oper) (N : Nat) : Bool :=
  decide (N < l.length) && Region.sinkB .any l.toArray N && Region.chainB .any l.toArray N && Region.seqB .any l.toArray (l.length - N) N (Array.replicate N true ++ Array.replicate (l.length - N) false)
/-- **THE REGION, ITS TAIL AS A LIST.** -/
theorem wp_region_tail {id n : Nat} {l : List Oper} {Q : Exit → Act → World → Prop} {w : World} (N : Nat) (hm : P.follows .mixedOrders = true) (hok : okB .any l n = true) (hkey : keyB l = true) (htail : tailB l N = true) (hn : a0.tmps.size = n)
    (hrefl : ∀ k w, X k w w) (hC : C { w with drawn := w.drawn + 1 })
    (h : WalkT P l.toArray C X a0 0 (l.take N) (fun _ => none) [] fun E _ => ∀ (a : Act) (w' : World), C w' → a.tmps.size = n → a.defers = a0.defers → (∀ t, Fits a0 E a w' t) → wpList P l.toArray Q (l.drop N) a w') :
    (Code.region id l.toArray true).wp P Q a0 w := by
  unfold tailB at htail
  simp only [Bool.and_eq_true, decide_eq_true_eq] at htail
  obtain ⟨⟨⟨hN, hsink⟩, hchain⟩, hseq⟩ := htail
  have htl : (l.take N).length = N := by rw [List.length_take]; omega
  obtain ⟨Vs, hlen, hall, hK⟩ := walk_ex P l.toArray C X a0 0 (l.take N) _ _ h
  rw [htl] at hlen
  have htt : ∀ i, i < N → (l.take N).take i = l.take i := fun i hi => by rw [List.take_take]; congr 1; omega
  have hall' : ∀ (i : Nat) (o : Oper) (V : Ty), l[i]? = some o → Vs[i]? = some V → Keeps X i V ∧ StepT P l.toArray C X a0 i (envs (l.take i) (Vs.take i) fun _ => none) o V := fun i o V h1 h2 => by
    have hi : i < N := by have := (List.getElem?_eq_some_iff.1 h2).1; omega
    have := hall i o V (by rw [List.getElem?_take, if_pos hi]; exact h1) h2
    rw [htt i hi] at this
    rwa [Nat.zero_add] at this
  refine wp_region_any hm ?_
  have hsz : (Array.replicate l.toArray.size false).size = l.length := by simp
  have inv0 : HeadInv .any l.toArray N (Array.replicate l.toArray.size false) :=
    ⟨by simp, fun j oj _ hl => (by rw [getD_replicate_false] at hl; cases hl), fun t _ ht => getD_in (by simpa using ht) (getD_replicate_false _ _)⟩
  have hfa : ∀ (i : Nat), i < l.length → (Array.replicate l.toArray.size false).getD i true = false := fun i hi => getD_in (by simpa using hi) (getD_replicate_false _ _)
  have H := wpAny_head (P := P) (C := C) (X := X) (a0 := a0) (Vs := Vs) (n := n) (N := N) (g := l.length - N) (Q := Q) hok hkey hlen (by omega) (by omega) hsink hchain hseq hall' hrefl ?_ N (Array.replicate l.toArray.size false) a0 { w with drawn := w.drawn + 1 } inv0 (by simp; omega) ⟨hC, hn, rfl, fun i o V t ho hV ht hl => ?_, fun t _ => rfl, fun j o hj hl => ?_⟩
  · rwa [show N + (l.length - N) = l.toArray.size by simp; omega] at H
  · intro a w' hI
    have hall1 : ∀ j, j < N → (Array.replicate N true ++ Array.replicate (l.length - N) false).getD j true = true := fun j hj => by
      simp [Array.getElem?_append, hj]
    refine hK a w' hI.1 hI.2.1 hI.2.2.1 (fun t => ?_)
    unfold Fits
    by_cases hex : ∃ (j : Nat) (o' : Oper), (l.take N)[j]? = some o' ∧ o'.dst = some t
    · obtain ⟨j, o', hj, hd⟩ := hex
      have hjN : j < N := by have := (List.getElem?_eq_some_iff.1 hj).1; omega
      have hjl : l[j]? = some o' := by rw [List.getElem?_take, if_pos hjN] at hj; exact hj
      have hVj : Vs[j]? = some (Vs[j]'(by omega)) := List.getElem?_eq_getElem (by omega)
      rw [envs_some (V := Vs[j]'(by omega)) hd (l.take N) Vs (fun _ => none) j hj hVj (fun k o'' hjk hk' hd' => by
        have hk2 : l[k]? = some o'' := by
          rw [List.getElem?_take] at hk'
          split at hk'
          · exact hk'
          · cases hk'
        have := (okB_spec hok).2.1 j k o' o'' t hjl hk2 hd hd'
        omega)]
      exact hI.2.2.2.1 j o' _ t hjl hVj (key_dst hd) (hall1 j hjN)
    · rw [envs_none (t := t) (l.take N) Vs (fun _ => none) (fun o' ho' hd => by
        obtain ⟨k, hk'⟩ := List.mem_iff_getElem?.1 ho'
        exact hex ⟨k, o', hk', hd⟩)]
      refine hI.2.2.2.2.1 t fun j o' hj hd => ?_
      have hjN : ¬ j < N := fun hjN => hex ⟨j, o', by rw [List.getElem?_take, if_pos hjN]; exact hj, hd⟩
      have hj2 : j < l.length := (List.getElem?_eq_some_iff.1 hj).1
      have h3 : j - N < l.length - N := by omega
      simp [Array.getElem?_append, hjN, h3]
  · have hi : i < l.length := (List.getElem?_eq_some_iff.1 ho).1
    rw [hfa i hi] at hl; cases hl
  · have hi : j < l.length := (List.getElem?_eq_some_iff.1 hj).1
    rw [hfa j hi] at hl; cases hl
end
end Go.Proofs.Ytmimgpnogjgliaa.T3

