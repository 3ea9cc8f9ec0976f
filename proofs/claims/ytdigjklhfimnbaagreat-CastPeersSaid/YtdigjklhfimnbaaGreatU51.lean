/- Typed walks with a tail. No conditions. -/
import Derived.Test.YtdigjklhfimnbaaGreatRows
import Derived.Test.YtdigjklhfimnbaaGreatU01
import Derived.StillTail
namespace Go.Proofs.YtdigjklhfimnbaaGreat.T3
set_option maxRecDepth 100000
section
variable {P : Program} {ops : Array Oper} {C : World → Prop} {X : Nat → World → World → Prop} {a0 : Act}
theorem w_make {k : Nat} {o : Oper} {rest : List Oper} {E : Tmp → Option Ty} {F : List (Tmp × Ty)} {K : (Tmp → Option Ty) → List (Tmp × Ty) → Prop} {d : Tmp} (hd : o.dst = some d) (V : Ty) (hV : Keeps X k V) (G : Wanted ops a0 E o)
    (h : ∀ (ρ : Operand → Value) (w : World), C w → (∀ c, ρ (.const c) = c) → (∀ f, ρ (.func f) = .func (.func f) #[] #[]) → (∀ t ∈ o.looksAt ops, Fit E a0 ρ w t) →
      ∃ v w', (execOp ρ o).run P w = .ok (.value v) w' ∧ C w' ∧ X k w w' ∧ V v w')
    (hw : WalkT P ops C X a0 (k + 1) rest (push o V E) F K) : WalkT P ops C X a0 k (o :: rest) E F K :=
  ⟨V, hV, fun a w hC hf => by
    obtain ⟨v, w', h1, h2, h3, h4⟩ := h a.eval w hC (fun _ => rfl) (fun _ => rfl) hf
    rw [if_pos (G.on hf), h1]
    exact ⟨h2, h3, by unfold FactV; rw [hd]; exact h4⟩, by rwa [show pushF o V F = F by unfold pushF; rw [hd]]⟩
/-- A store: what is known of the slot that holds its address. -/
theorem w_store {k : Nat} {o : Oper} {rest : List Oper} {E : Tmp → Option Ty} {F : List (Tmp × Ty)} {K : (Tmp → Option Ty) → List (Tmp × Ty) → Prop} {p : Tmp} (hd : o.dst = none) (hp : keyOf o = some p) (V : Ty) (hV : Keeps X k V) (G : Wanted ops a0 E o)
    (h : ∀ (ρ : Operand → Value) (w : World), C w → (∀ c, ρ (.const c) = c) → (∀ t ∈ o.looksAt ops, Fit E a0 ρ w t) →
      ∃ w', (execOp ρ o).run P w = .ok .skip w' ∧ C w' ∧ X k w w' ∧ V (ρ (.tmp p)) w')
    (hw : WalkT P ops C X a0 (k + 1) rest E ((p, V) :: F) K) : WalkT P ops C X a0 k (o :: rest) E F K :=
  ⟨V, hV, fun a w hC hf => by
    obtain ⟨w', h1, h2, h3, h4⟩ := h a.eval w hC (fun _ => rfl) hf
    rw [if_pos (G.on hf), h1]
    exact ⟨h2, h3, by unfold FactV; rw [hd]; simp only [hp]; exact h4⟩, by
      rw [show pushF o V F = (p, V) :: F by unfold pushF; rw [hd]; simp only [hp], show push o V E = E by funext t; simp [push, hd]]
      exact hw⟩
end
end Go.Proofs.YtdigjklhfimnbaaGreat.T3
namespace Go.Proofs.YtdigjklhfimnbaaGreat.T3
set_option maxRecDepth 100000

section
variable {P : Program} {C : World → Prop} {X : Nat → World → World → Prop} {a0 : Act}

theorem listed_split {N g : Nat} {listed : Array Bool} (hs : listed.size = N + g) (ht : ∀ t, N ≤ t → t < N + g → listed.getD t true = false) : listed.toList.drop N = List.replicate g false := by
  refine List.ext_getElem (by simp [hs]) fun i h1 h2 => ?_
  have h3 : i < g := by simpa using h2
  have h4 := ht (N + i) (by omega) (by omega)
  have h5 : N + i < listed.size := by omega
  simp [h5] at h4
  simp [h4]
theorem count_split {N g : Nat} {listed : Array Bool} (hs : listed.size = N + g) (ht : ∀ t, N ≤ t → t < N + g → listed.getD t true = false) : listed.toList.count false = (listed.toList.take N).count false + g := by
  conv => lhs; rw [← List.take_append_drop N listed.toList]
  rw [List.count_append, listed_split hs ht, List.count_replicate_self]
theorem listed_full {N g : Nat} {listed : Array Bool} (hs : listed.size = N + g) (ht : ∀ t, N ≤ t → t < N + g → listed.getD t true = false) (h0 : (listed.toList.take N).count false = 0) : listed = Array.replicate N true ++ Array.replicate g false := by
  have h1 : listed.toList.take N = List.replicate N true := by
    refine List.ext_getElem (by simp [hs]) fun i h1 h2 => ?_
    have hm : (listed.toList.take N)[i] ∈ listed.toList.take N := List.getElem_mem h1
    have hn : (listed.toList.take N)[i] ≠ false := fun e => (List.count_eq_zero.1 h0) (e ▸ hm)
    rw [List.getElem_replicate]
    cases hb : (listed.toList.take N)[i] with
    | true => rfl
    | false => exact absurd hb hn
  apply Array.ext'
  rw [← List.take_append_drop N listed.toList, h1, listed_split hs ht]
  simp
theorem wpAny_head {md : Region.Mode} {l : List Oper} {Vs : List Ty} {n N g : Nat} {Q : Exit → Act → World → Prop} (hok : okB md l n = true) (hkey : keyB l = true) (hlen : Vs.length = N) (hNg : l.length = N + g) (hg : 0 < g)
    (hsink : Region.sinkB md l.toArray N = true) (hchain : Region.chainB md l.toArray N = true) (hseq : Region.seqB md l.toArray g N (Array.replicate N true ++ Array.replicate g false) = true)
    (hall : ∀ (i : Nat) (o : Oper) (V : Ty), l[i]? = some o → Vs[i]? = some V → Keeps X i V ∧ StepT P l.toArray C X a0 i (envs (l.take i) (Vs.take i) fun _ => none) o V)
    (hrefl : ∀ k w, X k w w)
    (hQ : ∀ (a : Act) (w : World), Inv C a0 md l Vs n (Array.replicate N true ++ Array.replicate g false) a w → wpList P l.toArray Q (l.drop N) a w) :
    ∀ (f : Nat) (listed : Array Bool) (a : Act) (w : World), HeadInv md l.toArray N listed → listed.toList.count false = f + g → Inv C a0 md l Vs n listed a w → wpAny P md l.toArray Q (f + g) listed a w := by
  have hk : ∀ (i : Nat) V, Vs[i]? = some V → Keeps X i V := fun i V hV => by
    have hi : i < l.length := by have := (List.getElem?_eq_some_iff.1 hV).1; omega
    exact (hall i l[i] V (List.getElem?_eq_getElem hi) hV).1
  have hsz : l.toArray.size = N + g := by simpa using hNg
  intro f
  induction f with
  | zero =>
    intro listed a w hH h0 hI
    have hs : listed.size = N + g := hH.size.trans hsz
    have ht : ∀ t, N ≤ t → t < N + g → listed.getD t true = false := fun t h1 h2 => hH.tail t h1 (by omega)
    have hc := count_split hs ht
    have hf := listed_full hs ht (by omega)
    subst hf
    have := wpAny_of_seq (md := md) (Q' := Q) (P := P) (l.drop N) N _ a w (ops := l.toArray) (fun j => by simp [List.getElem?_drop]) (by rw [show (l.drop N).length = g by simp; omega]; exact hseq) (hQ a w hI)
    rw [show (l.drop N).length = 0 + g by simp; omega] at this
    exact this
  | succ f ih =>
    intro listed a w hH hf hI
    have hs : listed.size = N + g := hH.size.trans hsz
    have hs' : listed.size = l.length := by omega
    have ht : ∀ t, N ≤ t → t < N + g → listed.getD t true = false := fun t h1 h2 => hH.tail t h1 (by omega)
    have hc := count_split hs ht
    obtain ⟨i0, hi0, hun0⟩ : ∃ i0, i0 < N ∧ listed.getD i0 true = false := by
      have hm : false ∈ listed.toList.take N := List.count_pos_iff.1 (by omega)
      obtain ⟨k, hk1, hk2⟩ := List.mem_iff_getElem.1 hm
      have hk3 : k < N := by simp at hk1; omega
      refine ⟨k, hk3, ?_⟩
      have hk4 : k < listed.size := by omega
      simp at hk2
      simp [hk4, hk2]
    have hhead : ∀ i ∈ Region.ready md l.toArray listed, i < N := fun i hi => by
      rcases Nat.lt_or_ge i N with h | h
      · exact h
      · exact absurd hi (tail_waits hsink hchain (by omega) hH _ i0 rfl hi0 hun0 i h)
    have hmem : ∀ i ∈ Region.ready md l.toArray listed, wpOp P l.toArray Q i (wpAny P md l.toArray Q (f + g) (listed.setIfInBounds i true)) a w := by
      intro i hi
      have hiN := hhead i hi
      obtain ⟨hun, o, ho, hafter⟩ := mem_ready.1 hi
      have ho' : l[i]? = some o := by simpa using ho
      obtain ⟨V, hV⟩ : ∃ V, Vs[i]? = some V := ⟨Vs[i]'(by omega), List.getElem?_eq_getElem (by omega)⟩
      obtain ⟨_, hstep⟩ := hall i o V ho' hV
      obtain ⟨k1, k2, k3, _⟩ := okB_spec hok
      have hcnt : (listed.setIfInBounds i true).toList.count false = f + g := by
        have := count_set listed.toList i (getD_get hun)
        rw [Array.toList_setIfInBounds]
        omega
      have hafter' : ∀ e ∈ o.after, Region.binds md e = true → listed.getD e.on true = true := fun e he hb => by
        have h1 := hafter e he hb
        have hon := (okB_spec hok).2.2.2 i o ho' e he hb
        have hjs : e.on < listed.size := by omega
        simp [hjs] at h1 ⊢
        exact h1
      have hnext : ∀ (v : Value) (w' : World), C w' → X i w w' → FactV V o a v w' → wpAny P md l.toArray Q (f + g) (listed.setIfInBounds i true) (a.put o.dst v) w' := fun v w' h1 h2 h3 =>
        ih _ _ _ (hH.set hi hiN) hcnt (inv_put hok hkey hk hs' hI ho' hun hafter' hV h1 h2 h3)
      have hfits : ∀ t ∈ o.looksAt l.toArray, Fits a0 (envs (l.take i) (Vs.take i) fun _ => none) a w t := by
        intro t ht
        unfold Fits
        by_cases hex : ∃ (j : Nat) (o' : Oper), l[j]? = some o' ∧ o'.dst = some t
        · obtain ⟨j, o', hj, hd⟩ := hex
          obtain ⟨hji, e, he, hb, hon⟩ := k3 i j o o' t ho' hj hd ht
          have hjl : j < Vs.length := by omega
          have hVj : Vs[j]? = some Vs[j] := List.getElem?_eq_getElem hjl
          have henv := envs_some (V := Vs[j]) hd (l.take i) (Vs.take i) (fun _ => none) j (by rw [List.getElem?_take, if_pos hji]; exact hj) (by rw [List.getElem?_take, if_pos hji]; exact hVj) (fun k o'' hjk hk' hd' => by
            have hk2 : l[k]? = some o'' := by
              rw [List.getElem?_take] at hk'
              split at hk'
              · exact hk'
              · cases hk'
            have := k2 j k o' o'' t hj hk2 hd hd'
            omega)
          rw [henv]
          have hl := hafter e he hb
          rw [hon] at hl
          have hl' : listed.getD j true = true := by
            have hjs : j < listed.size := by omega
            simp [hjs] at hl ⊢
            exact hl
          exact hI.2.2.2.1 j o' Vs[j] t hj hVj (key_dst hd) hl'
        · have henv := envs_none (t := t) (l.take i) (Vs.take i) (fun _ => none) (fun o' ho' hd => by
            obtain ⟨k, hk'⟩ := List.mem_iff_getElem?.1 ho'
            rw [List.getElem?_take] at hk'
            split at hk'
            · exact hex ⟨k, o', hk', hd⟩
            · cases hk')
          rw [henv]
          exact hI.2.2.2.2.1 t fun j o' hj hd => absurd ⟨j, o', hj, hd⟩ hex
      have hs2 := hstep a w hI.1 hfits
      unfold wpOp
      simp only [ho]
      by_cases hw : Region.wanted o (yielded l.toArray a.tmps) = true
      · rw [if_pos hw] at hs2
        simp only [hw, if_true]
        left
        unfold Oper.wp
        generalize (execOp a.eval o).run P w = r at *
        cases r with
        | ok nx w' =>
          cases nx <;> simp only [Tame] at hs2 <;> simp only [Oper.upon]
          case value v => exact hnext v w' hs2.1 hs2.2.1 hs2.2.2
          case skip => exact hnext undef w' hs2.1 hs2.2.1 hs2.2.2
          case enter f args =>
            obtain ⟨rfl, hc⟩ := hs2
            exact hc.mono fun e w'' ⟨v, he, h1, h2, h3⟩ => by subst he; exact hnext v w'' h1 h2 h3
        | halt x w' => simp only [Tame] at hs2
      · rw [if_neg hw] at hs2
        simp only [hw]
        exact hnext undef w hI.1 (hrefl i w) hs2
    rw [show f + 1 + g = (f + g) + 1 by omega]
    refine ⟨fun hr => ?_, hmem⟩
    obtain ⟨i, hi, hmin⟩ := least listed (by omega)
    have hil : i < l.length := by rw [← hs']; exact hi.1
    refine absurd (mem_ready.2 ⟨hi.2, l[i], by simp [hil], fun e he hb => ?_⟩ : i ∈ Region.ready md l.toArray listed) (by rw [hr]; simp)
    have hlt := (okB_spec hok).2.2.2 i l[i] (List.getElem?_eq_getElem hil) e he hb
    have hes : e.on < listed.size := by omega
    have := hmin e.on hlt
    simp [hes] at this ⊢
    exact this
/-- Number N on comes behind all the others, one behind the other. -/
def tailB (l : List Oper) (N : Nat) : Bool :=
  decide (N < l.length) && Region.sinkB .any l.toArray N && Region.chainB .any l.toArray N && Region.seqB .any l.toArray (l.length - N) N (Array.replicate N true ++ Array.replicate (l.length - N) false)
/-- **THE REGION, ITS TAIL AS A LIST.** -/
theorem wp_region_tail {id n : Nat} {l : List Oper} {Q : Exit → Act → World → Prop} {w : World} (N : Nat) (hm : P.follows .mixedOrders = true) (hok : okB .any l n = true) (hkey : keyB l = true) (htail : tailB l N = true) (hn : a0.tmps.size = n)
    (hrefl : ∀ k w, X k w w) (hC : C { w with drawn := w.drawn + 1 })
    (h : WalkT P l.toArray C X a0 0 (l.take N) (fun _ => none) [] fun E _ => ∀ (a : Act) (w' : World), C w' → a.tmps.size = n → a.defers = a0.defers → (∀ t, Fits a0 E a w' t) → wpList P l.toArray Q (l.drop N) a w') :
    (Code.region id l.toArray true).wp P Q a0 w := by
  unfold tailB at htail
  simp only [Bool.and_eq_true, decide_eq_true_eq] at htail
  obtain ⟨⟨⟨hN, hsink⟩, hchain⟩, hseq⟩ := htail
  have htl : (l.take N).length = N := by rw [List.length_take]; omega
  obtain ⟨Vs, hlen, hall, hK⟩ := walk_ex P l.toArray C X a0 0 (l.take N) _ _ h
  rw [htl] at hlen
  have htt : ∀ i, i < N → (l.take N).take i = l.take i := fun i hi => by rw [List.take_take]; congr 1; omega
  have hall' : ∀ (i : Nat) (o : Oper) (V : Ty), l[i]? = some o → Vs[i]? = some V → Keeps X i V ∧ StepT P l.toArray C X a0 i (envs (l.take i) (Vs.take i) fun _ => none) o V := fun i o V h1 h2 => by
    have hi : i < N := by have := (List.getElem?_eq_some_iff.1 h2).1; omega
    have := hall i o V (by rw [List.getElem?_take, if_pos hi]; exact h1) h2
    rw [htt i hi] at this
    rwa [Nat.zero_add] at this
  refine wp_region_any hm ?_
  have hsz : (Array.replicate l.toArray.size false).size = l.length := by simp
  have inv0 : HeadInv .any l.toArray N (Array.replicate l.toArray.size false) :=
    ⟨by simp, fun j oj _ hl => (by rw [getD_replicate_false] at hl; cases hl), fun t _ ht => getD_in (by simpa using ht) (getD_replicate_false _ _)⟩
  have hfa : ∀ (i : Nat), i < l.length → (Array.replicate l.toArray.size false).getD i true = false := fun i hi => getD_in (by simpa using hi) (getD_replicate_false _ _)
  have H := wpAny_head (P := P) (C := C) (X := X) (a0 := a0) (Vs := Vs) (n := n) (N := N) (g := l.length - N) (Q := Q) hok hkey hlen (by omega) (by omega) hsink hchain hseq hall' hrefl ?_ N (Array.replicate l.toArray.size false) a0 { w with drawn := w.drawn + 1 } inv0 (by simp; omega) ⟨hC, hn, rfl, fun i o V t ho hV ht hl => ?_, fun t _ => rfl, fun j o hj hl => ?_⟩
  · rwa [show N + (l.length - N) = l.toArray.size by simp; omega] at H
  · intro a w' hI
    have hall1 : ∀ j, j < N → (Array.replicate N true ++ Array.replicate (l.length - N) false).getD j true = true := fun j hj => by
      simp [Array.getElem?_append, hj]
    refine hK a w' hI.1 hI.2.1 hI.2.2.1 (fun t => ?_)
    unfold Fits
    by_cases hex : ∃ (j : Nat) (o' : Oper), (l.take N)[j]? = some o' ∧ o'.dst = some t
    · obtain ⟨j, o', hj, hd⟩ := hex
      have hjN : j < N := by have := (List.getElem?_eq_some_iff.1 hj).1; omega
      have hjl : l[j]? = some o' := by rw [List.getElem?_take, if_pos hjN] at hj; exact hj
      have hVj : Vs[j]? = some (Vs[j]'(by omega)) := List.getElem?_eq_getElem (by omega)
      rw [envs_some (V := Vs[j]'(by omega)) hd (l.take N) Vs (fun _ => none) j hj hVj (fun k o'' hjk hk' hd' => by
        have hk2 : l[k]? = some o'' := by
          rw [List.getElem?_take] at hk'
          split at hk'
          · exact hk'
          · cases hk'
        have := (okB_spec hok).2.1 j k o' o'' t hjl hk2 hd hd'
        omega)]
      exact hI.2.2.2.1 j o' _ t hjl hVj (key_dst hd) (hall1 j hjN)
    · rw [envs_none (t := t) (l.take N) Vs (fun _ => none) (fun o' ho' hd => by
        obtain ⟨k, hk'⟩ := List.mem_iff_getElem?.1 ho'
        exact hex ⟨k, o', hk', hd⟩)]
      refine hI.2.2.2.2.1 t fun j o' hj hd => ?_
      have hjN : ¬ j < N := fun hjN => hex ⟨j, o', by rw [List.getElem?_take, if_pos hjN]; exact hj, hd⟩
      have hj2 : j < l.length := (List.getElem?_eq_some_iff.1 hj).1
      have h3 : j - N < l.length - N := by omega
      simp [Array.getElem?_append, hjN, h3]
  · have hi : i < l.length := (List.getElem?_eq_some_iff.1 ho).1
    rw [hfa i hi] at hl; cases hl
  · have hi : j < l.length := (List.getElem?_eq_some_iff.1 hj).1
    rw [hfa j hi] at hl; cases hl
end
end Go.Proofs.YtdigjklhfimnbaaGreat.T3
namespace Go.Proofs.YtdigjklhfimnbaaGreat.T3
set_option maxRecDepth 100000

section
variable {P : Program} {C : World → Prop} {X : Nat → World → World → Prop} {a0 : Act}
/-- Names bind, of the operations ahead of number N. -/
def okT (md : Region.Mode) (l : List Oper) (n N : Nat) : Bool :=
  (List.range l.length).all fun i => match l[i]? with
    | none => true
    | some o =>
      (match o.dst with | some d => decide (d < n) | none => true) && (o.after.all fun e => !Region.binds md e || decide (e.on < i)) &&
      (List.range l.length).all fun j => match l[j]? with
        | none => true
        | some o' => match o'.dst with
          | none => true
          | some t => (decide (i = j) || !(o.dst == some t)) && (!(decide (i < N) && decide (j < N)) || !(o.looksAt l.toArray).contains t || (decide (j < i) && o.after.any fun e => Region.binds md e && e.on == j))
theorem okT_spec {md : Region.Mode} {l : List Oper} {n N : Nat} (h : okT md l n N = true) :
    (∀ (i : Nat) (o : Oper) (d : Tmp), l[i]? = some o → o.dst = some d → d < n) ∧
    (∀ (i j : Nat) (o o' : Oper) (t : Tmp), l[i]? = some o → l[j]? = some o' → o.dst = some t → o'.dst = some t → i = j) ∧
    (∀ (i j : Nat) (o o' : Oper) (t : Tmp), i < N → j < N → l[i]? = some o → l[j]? = some o' → o'.dst = some t → t ∈ o.looksAt l.toArray → j < i ∧ ∃ e ∈ o.after, Region.binds md e = true ∧ e.on = j) ∧
    (∀ (i : Nat) (o : Oper), l[i]? = some o → ∀ e ∈ o.after, Region.binds md e = true → e.on < i) := by
  unfold okT at h
  rw [List.all_eq_true] at h
  have lt : ∀ {i : Nat} {o : Oper}, l[i]? = some o → i < l.length := fun h => (List.getElem?_eq_some_iff.1 h).1
  refine ⟨fun i o d hi hd => ?_, fun i j o o' t hi hj h1 h2 => ?_, fun i j o o' t hiN hjN hi hj h2 h3 => ?_, fun i o hi e he hb => ?_⟩
  · have := h i (List.mem_range.2 (lt hi))
    simp only [hi, hd, Bool.and_eq_true, decide_eq_true_eq] at this
    exact this.1.1
  · have := h i (List.mem_range.2 (lt hi))
    simp only [hi, Bool.and_eq_true] at this
    have := (List.all_eq_true.1 this.2) j (List.mem_range.2 (lt hj))
    simp only [hj, h2, h1, Bool.and_eq_true, Bool.or_eq_true, decide_eq_true_eq] at this
    rcases this.1 with h | h
    · exact h
    · simp at h
  · have := h i (List.mem_range.2 (lt hi))
    simp only [hi, Bool.and_eq_true] at this
    have := (List.all_eq_true.1 this.2) j (List.mem_range.2 (lt hj))
    simp only [hj, h2, Bool.and_eq_true, Bool.or_eq_true, decide_eq_true_eq] at this
    rcases this.2 with (h | h) | ⟨h, hh⟩
    · have h' : N ≤ i ∨ N ≤ j := by simpa using h
      omega
    · simp [h3] at h
    · refine ⟨h, ?_⟩
      obtain ⟨e, he, hb⟩ := Array.any_eq_true'.1 hh
      simp only [Bool.and_eq_true, beq_iff_eq] at hb
      exact ⟨e, he, hb.1, hb.2⟩
  · have := h i (List.mem_range.2 (lt hi))
    simp only [hi, Bool.and_eq_true] at this
    have := (Array.all_eq_true'.1 this.1.2) e he
    simpa [hb] using this
theorem inv_putT {md : Region.Mode} {l : List Oper} {Vs : List Ty} {n N : Nat} (hok : okT md l n N = true) (hkey : keyB l = true) (hk : ∀ (i : Nat) V, Vs[i]? = some V → Keeps X i V) {listed : Array Bool} (hls : listed.size = l.length) (htl : ∀ t, N ≤ t → t < l.length → listed.getD t true = false) {a : Act} {w w' : World} (h : Inv C a0 md l Vs n listed a w)
    {i : Nat} (hiN : i < N) {o : Oper} {V : Ty} {v : Value} (ho : l[i]? = some o) (hun : listed.getD i true = false) (haf : ∀ e ∈ o.after, Region.binds md e = true → listed.getD e.on true = true) (hV : Vs[i]? = some V) (hC : C w') (hX : X i w w') (hv : FactV V o a v w') : Inv C a0 md l Vs n (listed.setIfInBounds i true) (a.put o.dst v) w' := by
  obtain ⟨h1, h2, h3, h4, h5, h6⟩ := h
  obtain ⟨k1, k2, k3, _⟩ := okT_spec hok
  have hil : i < l.length := (List.getElem?_eq_some_iff.1 ho).1
  refine ⟨hC, by cases o.dst <;> simp [Act.put, h2], by cases o.dst <;> simp [Act.put, h3], fun j o' V' t hj hV' ht hl => ?_, fun t ht => ?_, fun j o' hj hl e he hb => ?_⟩
  · by_cases hij : i = j
    · subst hij
      rw [ho] at hj; cases hj
      rw [hV] at hV'; cases hV'
      unfold FactV at hv
      cases hd : o.dst with
      | some d =>
        rw [hd] at hv
        rw [key_dst hd] at ht
        cases ht
        rw [eval_put_same (by rw [h2]; exact k1 i o _ ho hd)]
        exact hv
      | none =>
        simp only [hd, ht] at hv
        exact hv
    · have hl' : listed.getD j true = true := by rwa [getD_set_ne true hij] at hl
      have hne : ∀ d, o.dst = some d → d ≠ t := fun d hd hx => by
        subst hx
        cases hd' : o'.dst with
        | some d' =>
          rw [key_dst hd'] at ht
          cases ht
          exact hij (k2 i j o o' d ho hj hd hd')
        | none =>
          have hjN : j < N := by
            have hjl := (List.getElem?_eq_some_iff.1 hj).1
            rcases Nat.lt_or_ge j N with h | h
            · exact h
            · have := htl j h hjl
              rw [hl'] at this; cases this
          obtain ⟨_, e, he, hb, hon⟩ := k3 j i o' o d hjN hiN hj ho hd (keyB_spec hkey hj hd' ht)
          have := h6 j o' hj hl' e he hb
          rw [hon, hun] at this
          cases this
      rw [Act.eval_put (fun d hd hx => hne d hd (by cases hx; rfl))]
      exact hk j V' hV' i hij _ _ _ (h4 j o' V' t hj hV' ht hl') hX
  · rw [Act.eval_put (fun d hd hx => by
      cases hx
      have := ht i o ho hd
      simp [hls, hil] at this)]
    refine h5 t fun j o' hj hd => ?_
    by_cases hij : i = j
    · subst hij
      have := ht i o' hj hd
      simp [hls, hil] at this
    · have := ht j o' hj hd
      rwa [getD_set_ne true hij] at this
  · have hset : ∀ x, listed.getD x true = true → (listed.setIfInBounds i true).getD x true = true := fun x hx => by
      by_cases hix : i = x
      · subst hix; simp [hls, hil]
      · rw [getD_set_ne true hix]; exact hx
    by_cases hij : i = j
    · subst hij
      rw [ho] at hj; cases hj
      exact hset _ (haf e he hb)
    · rw [getD_set_ne true hij] at hl
      exact hset _ (h6 j o' hj hl e he hb)
theorem wpAny_headT {md : Region.Mode} {l : List Oper} {Vs : List Ty} {n N g : Nat} {Q : Exit → Act → World → Prop} (hok : okT md l n N = true) (hkey : keyB l = true) (hlen : Vs.length = N) (hNg : l.length = N + g) (hg : 0 < g)
    (hsink : Region.sinkB md l.toArray N = true) (hchain : Region.chainB md l.toArray N = true) (hseq : Region.seqB md l.toArray g N (Array.replicate N true ++ Array.replicate g false) = true)
    (hall : ∀ (i : Nat) (o : Oper) (V : Ty), l[i]? = some o → Vs[i]? = some V → Keeps X i V ∧ StepT P l.toArray C X a0 i (envs (l.take i) (Vs.take i) fun _ => none) o V)
    (hrefl : ∀ k w, X k w w)
    (hQ : ∀ (a : Act) (w : World), Inv C a0 md l Vs n (Array.replicate N true ++ Array.replicate g false) a w → wpList P l.toArray Q (l.drop N) a w) :
    ∀ (f : Nat) (listed : Array Bool) (a : Act) (w : World), HeadInv md l.toArray N listed → listed.toList.count false = f + g → Inv C a0 md l Vs n listed a w → wpAny P md l.toArray Q (f + g) listed a w := by
  have hk : ∀ (i : Nat) V, Vs[i]? = some V → Keeps X i V := fun i V hV => by
    have hi : i < l.length := by have := (List.getElem?_eq_some_iff.1 hV).1; omega
    exact (hall i l[i] V (List.getElem?_eq_getElem hi) hV).1
  have hsz : l.toArray.size = N + g := by simpa using hNg
  intro f
  induction f with
  | zero =>
    intro listed a w hH h0 hI
    have hs : listed.size = N + g := hH.size.trans hsz
    have ht : ∀ t, N ≤ t → t < N + g → listed.getD t true = false := fun t h1 h2 => hH.tail t h1 (by omega)
    have hc := count_split hs ht
    have hf := listed_full hs ht (by omega)
    subst hf
    have := wpAny_of_seq (md := md) (Q' := Q) (P := P) (l.drop N) N _ a w (ops := l.toArray) (fun j => by simp [List.getElem?_drop]) (by rw [show (l.drop N).length = g by simp; omega]; exact hseq) (hQ a w hI)
    rw [show (l.drop N).length = 0 + g by simp; omega] at this
    exact this
  | succ f ih =>
    intro listed a w hH hf hI
    have hs : listed.size = N + g := hH.size.trans hsz
    have hs' : listed.size = l.length := by omega
    have ht : ∀ t, N ≤ t → t < N + g → listed.getD t true = false := fun t h1 h2 => hH.tail t h1 (by omega)
    have hc := count_split hs ht
    obtain ⟨i0, hi0, hun0⟩ : ∃ i0, i0 < N ∧ listed.getD i0 true = false := by
      have hm : false ∈ listed.toList.take N := List.count_pos_iff.1 (by omega)
      obtain ⟨k, hk1, hk2⟩ := List.mem_iff_getElem.1 hm
      have hk3 : k < N := by simp at hk1; omega
      refine ⟨k, hk3, ?_⟩
      have hk4 : k < listed.size := by omega
      simp at hk2
      simp [hk4, hk2]
    have hhead : ∀ i ∈ Region.ready md l.toArray listed, i < N := fun i hi => by
      rcases Nat.lt_or_ge i N with h | h
      · exact h
      · exact absurd hi (tail_waits hsink hchain (by omega) hH _ i0 rfl hi0 hun0 i h)
    have hmem : ∀ i ∈ Region.ready md l.toArray listed, wpOp P l.toArray Q i (wpAny P md l.toArray Q (f + g) (listed.setIfInBounds i true)) a w := by
      intro i hi
      have hiN := hhead i hi
      obtain ⟨hun, o, ho, hafter⟩ := mem_ready.1 hi
      have ho' : l[i]? = some o := by simpa using ho
      obtain ⟨V, hV⟩ : ∃ V, Vs[i]? = some V := ⟨Vs[i]'(by omega), List.getElem?_eq_getElem (by omega)⟩
      obtain ⟨_, hstep⟩ := hall i o V ho' hV
      obtain ⟨k1, k2, k3, _⟩ := okT_spec hok
      have hcnt : (listed.setIfInBounds i true).toList.count false = f + g := by
        have := count_set listed.toList i (getD_get hun)
        rw [Array.toList_setIfInBounds]
        omega
      have hafter' : ∀ e ∈ o.after, Region.binds md e = true → listed.getD e.on true = true := fun e he hb => by
        have h1 := hafter e he hb
        have hon := (okT_spec hok).2.2.2 i o ho' e he hb
        have hjs : e.on < listed.size := by omega
        simp [hjs] at h1 ⊢
        exact h1
      have hnext : ∀ (v : Value) (w' : World), C w' → X i w w' → FactV V o a v w' → wpAny P md l.toArray Q (f + g) (listed.setIfInBounds i true) (a.put o.dst v) w' := fun v w' h1 h2 h3 =>
        ih _ _ _ (hH.set hi hiN) hcnt (inv_putT hok hkey hk hs' (fun t h1 h2 => ht t h1 (by omega)) hI hiN ho' hun hafter' hV h1 h2 h3)
      have hfits : ∀ t ∈ o.looksAt l.toArray, Fits a0 (envs (l.take i) (Vs.take i) fun _ => none) a w t := by
        intro t htm
        unfold Fits
        by_cases hex : ∃ (j : Nat) (o' : Oper), l[j]? = some o' ∧ o'.dst = some t
        · obtain ⟨j, o', hj, hd⟩ := hex
          by_cases hjN' : ¬ j < N
          · have henv := envs_none (t := t) (l.take i) (Vs.take i) (fun _ => none) (fun o2 ho2 hd2 => by
              obtain ⟨k, hk'⟩ := List.mem_iff_getElem?.1 ho2
              rw [List.getElem?_take] at hk'
              split at hk'
              · have := k2 j k o' o2 t hj hk' hd hd2
                omega
              · cases hk')
            rw [henv]
            refine hI.2.2.2.2.1 t fun j2 o2 hj2 hd2 => ?_
            have e2 := k2 j j2 o' o2 t hj hj2 hd hd2
            subst e2
            exact ht j (by omega) (by have := (List.getElem?_eq_some_iff.1 hj).1; omega)
          have hjN : j < N := by omega
          obtain ⟨hji, e, he, hb, hon⟩ := k3 i j o o' t hiN hjN ho' hj hd htm
          have hjl : j < Vs.length := by omega
          have hVj : Vs[j]? = some Vs[j] := List.getElem?_eq_getElem hjl
          have henv := envs_some (V := Vs[j]) hd (l.take i) (Vs.take i) (fun _ => none) j (by rw [List.getElem?_take, if_pos hji]; exact hj) (by rw [List.getElem?_take, if_pos hji]; exact hVj) (fun k o'' hjk hk' hd' => by
            have hk2 : l[k]? = some o'' := by
              rw [List.getElem?_take] at hk'
              split at hk'
              · exact hk'
              · cases hk'
            have := k2 j k o' o'' t hj hk2 hd hd'
            omega)
          rw [henv]
          have hl := hafter e he hb
          rw [hon] at hl
          have hl' : listed.getD j true = true := by
            have hjs : j < listed.size := by omega
            simp [hjs] at hl ⊢
            exact hl
          exact hI.2.2.2.1 j o' Vs[j] t hj hVj (key_dst hd) hl'
        · have henv := envs_none (t := t) (l.take i) (Vs.take i) (fun _ => none) (fun o' ho' hd => by
            obtain ⟨k, hk'⟩ := List.mem_iff_getElem?.1 ho'
            rw [List.getElem?_take] at hk'
            split at hk'
            · exact hex ⟨k, o', hk', hd⟩
            · cases hk')
          rw [henv]
          exact hI.2.2.2.2.1 t fun j o' hj hd => absurd ⟨j, o', hj, hd⟩ hex
      have hs2 := hstep a w hI.1 hfits
      unfold wpOp
      simp only [ho]
      by_cases hw : Region.wanted o (yielded l.toArray a.tmps) = true
      · rw [if_pos hw] at hs2
        simp only [hw, if_true]
        left
        unfold Oper.wp
        generalize (execOp a.eval o).run P w = r at *
        cases r with
        | ok nx w' =>
          cases nx <;> simp only [Tame] at hs2 <;> simp only [Oper.upon]
          case value v => exact hnext v w' hs2.1 hs2.2.1 hs2.2.2
          case skip => exact hnext undef w' hs2.1 hs2.2.1 hs2.2.2
          case enter f args =>
            obtain ⟨rfl, hc⟩ := hs2
            exact hc.mono fun e w'' ⟨v, he, h1, h2, h3⟩ => by subst he; exact hnext v w'' h1 h2 h3
        | halt x w' => simp only [Tame] at hs2
      · rw [if_neg hw] at hs2
        simp only [hw]
        exact hnext undef w hI.1 (hrefl i w) hs2
    rw [show f + 1 + g = (f + g) + 1 by omega]
    refine ⟨fun hr => ?_, hmem⟩
    obtain ⟨i, hi, hmin⟩ := least listed (by omega)
    have hil : i < l.length := by rw [← hs']; exact hi.1
    refine absurd (mem_ready.2 ⟨hi.2, l[i], by simp [hil], fun e he hb => ?_⟩ : i ∈ Region.ready md l.toArray listed) (by rw [hr]; simp)
    have hlt := (okT_spec hok).2.2.2 i l[i] (List.getElem?_eq_getElem hil) e he hb
    have hes : e.on < listed.size := by omega
    have := hmin e.on hlt
    simp [hes] at this ⊢
    exact this
/-- **THE REGION, ITS TAIL AS A LIST, WHICH MAY WRITE WHAT THE HEAD READS.** -/
theorem wp_region_tailT {id n : Nat} {l : List Oper} {Q : Exit → Act → World → Prop} {w : World} (N : Nat) (hm : P.follows .mixedOrders = true) (hok : okT .any l n N = true) (hkey : keyB l = true) (htail : tailB l N = true) (hn : a0.tmps.size = n)
    (hrefl : ∀ k w, X k w w) (hC : C { w with drawn := w.drawn + 1 })
    (h : WalkT P l.toArray C X a0 0 (l.take N) (fun _ => none) [] fun E _ => ∀ (a : Act) (w' : World), C w' → a.tmps.size = n → a.defers = a0.defers → (∀ t, Fits a0 E a w' t) → wpList P l.toArray Q (l.drop N) a w') :
    (Code.region id l.toArray true).wp P Q a0 w := by
  unfold tailB at htail
  simp only [Bool.and_eq_true, decide_eq_true_eq] at htail
  obtain ⟨⟨⟨hN, hsink⟩, hchain⟩, hseq⟩ := htail
  have htl : (l.take N).length = N := by rw [List.length_take]; omega
  obtain ⟨Vs, hlen, hall, hK⟩ := walk_ex P l.toArray C X a0 0 (l.take N) _ _ h
  rw [htl] at hlen
  have htt : ∀ i, i < N → (l.take N).take i = l.take i := fun i hi => by rw [List.take_take]; congr 1; omega
  have hall' : ∀ (i : Nat) (o : Oper) (V : Ty), l[i]? = some o → Vs[i]? = some V → Keeps X i V ∧ StepT P l.toArray C X a0 i (envs (l.take i) (Vs.take i) fun _ => none) o V := fun i o V h1 h2 => by
    have hi : i < N := by have := (List.getElem?_eq_some_iff.1 h2).1; omega
    have := hall i o V (by rw [List.getElem?_take, if_pos hi]; exact h1) h2
    rw [htt i hi] at this
    rwa [Nat.zero_add] at this
  refine wp_region_any hm ?_
  have hsz : (Array.replicate l.toArray.size false).size = l.length := by simp
  have inv0 : HeadInv .any l.toArray N (Array.replicate l.toArray.size false) :=
    ⟨by simp, fun j oj _ hl => (by rw [getD_replicate_false] at hl; cases hl), fun t _ ht => getD_in (by simpa using ht) (getD_replicate_false _ _)⟩
  have hfa : ∀ (i : Nat), i < l.length → (Array.replicate l.toArray.size false).getD i true = false := fun i hi => getD_in (by simpa using hi) (getD_replicate_false _ _)
  have H := wpAny_headT (P := P) (C := C) (X := X) (a0 := a0) (Vs := Vs) (n := n) (N := N) (g := l.length - N) (Q := Q) hok hkey hlen (by omega) (by omega) hsink hchain hseq hall' hrefl ?_ N (Array.replicate l.toArray.size false) a0 { w with drawn := w.drawn + 1 } inv0 (by simp; omega) ⟨hC, hn, rfl, fun i o V t ho hV ht hl => ?_, fun t _ => rfl, fun j o hj hl => ?_⟩
  · rwa [show N + (l.length - N) = l.toArray.size by simp; omega] at H
  · intro a w' hI
    have hall1 : ∀ j, j < N → (Array.replicate N true ++ Array.replicate (l.length - N) false).getD j true = true := fun j hj => by
      simp [Array.getElem?_append, hj]
    refine hK a w' hI.1 hI.2.1 hI.2.2.1 (fun t => ?_)
    unfold Fits
    by_cases hex : ∃ (j : Nat) (o' : Oper), (l.take N)[j]? = some o' ∧ o'.dst = some t
    · obtain ⟨j, o', hj, hd⟩ := hex
      have hjN : j < N := by have := (List.getElem?_eq_some_iff.1 hj).1; omega
      have hjl : l[j]? = some o' := by rw [List.getElem?_take, if_pos hjN] at hj; exact hj
      have hVj : Vs[j]? = some (Vs[j]'(by omega)) := List.getElem?_eq_getElem (by omega)
      rw [envs_some (V := Vs[j]'(by omega)) hd (l.take N) Vs (fun _ => none) j hj hVj (fun k o'' hjk hk' hd' => by
        have hk2 : l[k]? = some o'' := by
          rw [List.getElem?_take] at hk'
          split at hk'
          · exact hk'
          · cases hk'
        have := (okT_spec hok).2.1 j k o' o'' t hjl hk2 hd hd'
        omega)]
      exact hI.2.2.2.1 j o' _ t hjl hVj (key_dst hd) (hall1 j hjN)
    · rw [envs_none (t := t) (l.take N) Vs (fun _ => none) (fun o' ho' hd => by
        obtain ⟨k, hk'⟩ := List.mem_iff_getElem?.1 ho'
        exact hex ⟨k, o', hk', hd⟩)]
      refine hI.2.2.2.2.1 t fun j o' hj hd => ?_
      have hjN : ¬ j < N := fun hjN => hex ⟨j, o', by rw [List.getElem?_take, if_pos hjN]; exact hj, hd⟩
      have hj2 : j < l.length := (List.getElem?_eq_some_iff.1 hj).1
      have h3 : j - N < l.length - N := by omega
      simp [Array.getElem?_append, hjN, h3]
  · have hi : i < l.length := (List.getElem?_eq_some_iff.1 ho).1
    rw [hfa i hi] at hl; cases hl
  · have hi : j < l.length := (List.getElem?_eq_some_iff.1 hj).1
    rw [hfa j hi] at hl; cases hl
end
end Go.Proofs.YtdigjklhfimnbaaGreat.T3
