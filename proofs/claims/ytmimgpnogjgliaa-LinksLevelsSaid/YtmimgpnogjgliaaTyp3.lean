/- A region that draws its order, by what is known of each slot, with a store in it: what it has stored is known of the slot that holds its address. Over any program. No conditions beyond those of the theorems. -/
import Derived.Test.YtmimgpnogjgliaaTyped
namespace Go.Proofs.Ytmimgpnogjgliaa.T3
set_option maxRecDepth 100000

section
variable (P : Program) (ops : Array Oper) (C : World → Prop) (X : Nat → World → World → Prop) (a0 : Act)

/-- The slot that an operation's fact is on: the one that it writes; of a store, the one that holds the address. -/
def keyOf (o : Oper) : Option Tmp :=
  match o.dst with
  | some d => some d
  | none => match o.op with
    | .store _ (.tmp p) _ => some p
    | _ => none
def FactV (V : Ty) (o : Oper) (a : Act) (v : Value) (w : World) : Prop :=
  match o.dst with
  | some _ => V v w
  | none => match keyOf o with
    | some p => V (a.eval (.tmp p)) w
    | none => True
def Tame (k : Nat) (V : Ty) (o : Oper) (a : Act) (w : World) : Result Next → Prop
  | .ok (.value v) w' => C w' ∧ X k w w' ∧ FactV V o a v w'
  | .ok .skip w' => C w' ∧ X k w w' ∧ FactV V o a undef w'
  | .ok (.enter f args) w' => w' = w ∧ Calls P f args w (fun e w'' => ∃ v, e = .returned v ∧ C w'' ∧ X k w w'' ∧ FactV V o a v w'')
  | _ => False
def StepT (k : Nat) (E : Tmp → Option Ty) (o : Oper) (V : Ty) : Prop :=
  ∀ (a : Act) (w : World), C w → (∀ t ∈ o.looksAt ops, Fits a0 E a w t) →
    if Region.wanted o (yielded ops a.tmps) then Tame P C X k V o a w ((execOp a.eval o).run P w) else FactV V o a undef w
def Keeps (k : Nat) (V : Ty) : Prop := ∀ j, j ≠ k → ∀ v w w', V v w → X j w w' → V v w'
def pushF (o : Oper) (V : Ty) (F : List (Tmp × Ty)) : List (Tmp × Ty) :=
  match o.dst with
  | some _ => F
  | none => match keyOf o with
    | some p => (p, V) :: F
    | none => F
def WalkT : Nat → List Oper → (Tmp → Option Ty) → List (Tmp × Ty) → ((Tmp → Option Ty) → List (Tmp × Ty) → Prop) → Prop
  | _, [], E, F, K => K E F
  | k, o :: rest, E, F, K => ∃ V, Keeps X k V ∧ StepT P ops C X a0 k E o V ∧ WalkT (k + 1) rest (push o V E) (pushF o V F) K
def facts : List Oper → List Ty → List (Tmp × Ty) → List (Tmp × Ty)
  | o :: l, V :: Vs, F => facts l Vs (pushF o V F)
  | _, _, F => F
theorem mem_facts : ∀ (l : List Oper) (Vs : List Ty) (F : List (Tmp × Ty)) (x : Tmp × Ty), x ∈ facts l Vs F → x ∈ F ∨ ∃ (i : Nat) (o : Oper), l[i]? = some o ∧ Vs[i]? = some x.2 ∧ keyOf o = some x.1
  | [], _, _, x, h => .inl (by simpa [facts] using h)
  | _ :: _, [], _, x, h => .inl (by simpa [facts] using h)
  | o :: l, V :: Vs, F, x, h => by
    rw [facts] at h
    rcases mem_facts l Vs _ x h with h | ⟨i, o', h1, h2, h3⟩
    · unfold pushF at h
      split at h
      · exact .inl h
      · split at h
        · rename_i p hp
          rcases List.mem_cons.1 h with rfl | h
          · exact .inr ⟨0, o, by simp, by simp, hp⟩
          · exact .inl h
        · exact .inl h
    · exact .inr ⟨i + 1, o', by simpa using h1, by simpa using h2, h3⟩
theorem walk_ex {K : (Tmp → Option Ty) → List (Tmp × Ty) → Prop} : ∀ (k : Nat) (l : List Oper) (E : Tmp → Option Ty) (F : List (Tmp × Ty)), WalkT P ops C X a0 k l E F K →
    ∃ Vs : List Ty, Vs.length = l.length ∧ (∀ i o V, l[i]? = some o → Vs[i]? = some V → Keeps X (k + i) V ∧ StepT P ops C X a0 (k + i) (envs (l.take i) (Vs.take i) E) o V) ∧ K (envs l Vs E) (facts l Vs F)
  | k, [], E, F, h => ⟨[], rfl, fun i o V h1 => by simp at h1, by simpa [envs, facts, WalkT] using h⟩
  | k, o :: l, E, F, h => by
    obtain ⟨V, hk, hs, hw⟩ := h
    obtain ⟨Vs, hl, ha, hK⟩ := walk_ex (k + 1) l _ _ hw
    refine ⟨V :: Vs, by simp [hl], fun i o' V' h1 h2 => ?_, by rw [envs, facts]; exact hK⟩
    cases i with
    | zero =>
      simp at h1 h2
      subst h1 h2
      exact ⟨hk, by simpa [envs] using hs⟩
    | succ i =>
      have := ha i o' V' (by simpa using h1) (by simpa using h2)
      rw [List.take_succ_cons, List.take_succ_cons, envs]
      rw [show k + (i + 1) = k + 1 + i by omega]
      exact this
/-- Of a store, the slot of its address is one that it looks at. -/
def keyB (l : List Oper) : Bool := l.all fun o => match o.dst with
  | some _ => true
  | none => match keyOf o with
    | some p => (o.looksAt l.toArray).contains p
    | none => true
theorem keyB_spec {l : List Oper} (h : keyB l = true) {j : Nat} {o : Oper} {t : Tmp} (hj : l[j]? = some o) (hd : o.dst = none) (hk : keyOf o = some t) : t ∈ o.looksAt l.toArray := by
  have := List.all_eq_true.1 h o (List.mem_of_getElem? hj)
  simp only [hd, hk] at this
  simpa using this
/-- What holds while the operations of 'listed' have come up. -/
def Inv (md : Region.Mode) (l : List Oper) (Vs : List Ty) (n : Nat) (listed : Array Bool) (a : Act) (w : World) : Prop :=
  C w ∧ a.tmps.size = n ∧ a.defers = a0.defers ∧
  (∀ (i : Nat) (o : Oper) (V : Ty) (t : Tmp), l[i]? = some o → Vs[i]? = some V → keyOf o = some t → listed.getD i true = true → V (a.eval (.tmp t)) w) ∧
  (∀ t, (∀ (i : Nat) (o : Oper), l[i]? = some o → o.dst = some t → listed.getD i true = false) → a.eval (.tmp t) = a0.eval (.tmp t)) ∧
  (∀ (j : Nat) (o : Oper), l[j]? = some o → listed.getD j true = true → ∀ e ∈ o.after, Region.binds md e = true → listed.getD e.on true = true)
variable {P ops C X a0}
theorem key_dst {o : Oper} {t : Tmp} (h : o.dst = some t) : keyOf o = some t := by unfold keyOf; rw [h]
theorem inv_put {md : Region.Mode} {l : List Oper} {Vs : List Ty} {n : Nat} (hok : okB md l n = true) (hkey : keyB l = true) (hk : ∀ (i : Nat) V, Vs[i]? = some V → Keeps X i V) {listed : Array Bool} (hls : listed.size = l.length) {a : Act} {w w' : World} (h : Inv C a0 md l Vs n listed a w)
    {i : Nat} {o : Oper} {V : Ty} {v : Value} (ho : l[i]? = some o) (hun : listed.getD i true = false) (haf : ∀ e ∈ o.after, Region.binds md e = true → listed.getD e.on true = true) (hV : Vs[i]? = some V) (hC : C w') (hX : X i w w') (hv : FactV V o a v w') : Inv C a0 md l Vs n (listed.setIfInBounds i true) (a.put o.dst v) w' := by
  obtain ⟨h1, h2, h3, h4, h5, h6⟩ := h
  obtain ⟨k1, k2, k3, _⟩ := okB_spec hok
  have hil : i < l.length := (List.getElem?_eq_some_iff.1 ho).1
  refine ⟨hC, by cases o.dst <;> simp [Act.put, h2], by cases o.dst <;> simp [Act.put, h3], fun j o' V' t hj hV' ht hl => ?_, fun t ht => ?_, fun j o' hj hl e he hb => ?_⟩
  · by_cases hij : i = j
    · subst hij
      rw [ho] at hj; cases hj
      rw [hV] at hV'; cases hV'
      unfold FactV at hv
      cases hd : o.dst with
      | some d =>
        rw [hd] at hv
        rw [key_dst hd] at ht
        cases ht
        rw [eval_put_same (by rw [h2]; exact k1 i o _ ho hd)]
        exact hv
      | none =>
        simp only [hd, ht] at hv
        exact hv
    · have hl' : listed.getD j true = true := by rwa [getD_set_ne true hij] at hl
      have hne : ∀ d, o.dst = some d → d ≠ t := fun d hd hx => by
        subst hx
        cases hd' : o'.dst with
        | some d' =>
          rw [key_dst hd'] at ht
          cases ht
          exact hij (k2 i j o o' d ho hj hd hd')
        | none =>
          obtain ⟨_, e, he, hb, hon⟩ := k3 j i o' o d hj ho hd (keyB_spec hkey hj hd' ht)
          have := h6 j o' hj hl' e he hb
          rw [hon, hun] at this
          cases this
      rw [Act.eval_put (fun d hd hx => hne d hd (by cases hx; rfl))]
      exact hk j V' hV' i hij _ _ _ (h4 j o' V' t hj hV' ht hl') hX
  · rw [Act.eval_put (fun d hd hx => by
      cases hx
      have := ht i o ho hd
      simp [hls, hil] at this)]
    refine h5 t fun j o' hj hd => ?_
    by_cases hij : i = j
    · subst hij
      have := ht i o' hj hd
      simp [hls, hil] at this
    · have := ht j o' hj hd
      rwa [getD_set_ne true hij] at this
  · have hset : ∀ x, listed.getD x true = true → (listed.setIfInBounds i true).getD x true = true := fun x hx => by
      by_cases hix : i = x
      · subst hix; simp [hls, hil]
      · rw [getD_set_ne true hix]; exact hx
    by_cases hij : i = j
    · subst hij
      rw [ho] at hj; cases hj
      exact hset _ (haf e he hb)
    · rw [getD_set_ne true hij] at hl
      exact hset _ (h6 j o' hj hl e he hb)
theorem wpAny_typed {md : Region.Mode} {l : List Oper} {Vs : List Ty} {n : Nat} {Q : Exit → Act → World → Prop} (hok : okB md l n = true) (hkey : keyB l = true) (hlen : Vs.length = l.length) (hrefl : ∀ k w, X k w w)
    (hall : ∀ (i : Nat) (o : Oper) (V : Ty), l[i]? = some o → Vs[i]? = some V → Keeps X i V ∧ StepT P l.toArray C X a0 i (envs (l.take i) (Vs.take i) fun _ => none) o V)
    (hQ : ∀ (listed : Array Bool) (a : Act) (w : World), listed.toList.count false = 0 → listed.size = l.length → Inv C a0 md l Vs n listed a w → Q .normal a w) :
    ∀ (fuel : Nat) (listed : Array Bool) (a : Act) (w : World), listed.size = l.length → listed.toList.count false = fuel → Inv C a0 md l Vs n listed a w → wpAny P md l.toArray Q fuel listed a w := by
  have hk : ∀ (i : Nat) V, Vs[i]? = some V → Keeps X i V := fun i V hV => by
    have hi : i < l.length := by have := (List.getElem?_eq_some_iff.1 hV).1; omega
    exact (hall i l[i] V (List.getElem?_eq_getElem hi) hV).1
  have hnone : ∀ (listed : Array Bool), listed.toList.count false = 0 → Region.ready md l.toArray listed = [] := fun listed h0 => by
    rw [List.eq_nil_iff_forall_not_mem]
    intro j hj
    have := getD_get (mem_ready.1 hj).1
    have hm : false ∈ listed.toList := List.mem_of_getElem? this
    have := List.count_pos_iff.2 hm
    omega
  intro fuel
  induction fuel with
  | zero => intro listed a w hs h0 hI; exact ⟨hnone listed h0, hQ listed a w h0 hs hI⟩
  | succ fuel ih =>
    intro listed a w hs hf hI
    have hmem : ∀ i ∈ Region.ready md l.toArray listed, wpOp P l.toArray Q i (wpAny P md l.toArray Q fuel (listed.setIfInBounds i true)) a w := by
      intro i hi
      obtain ⟨hun, o, ho, hafter⟩ := mem_ready.1 hi
      have ho' : l[i]? = some o := by simpa using ho
      have hil : i < l.length := (List.getElem?_eq_some_iff.1 ho').1
      obtain ⟨V, hV⟩ : ∃ V, Vs[i]? = some V := ⟨Vs[i]'(by omega), List.getElem?_eq_getElem (by omega)⟩
      obtain ⟨_, hstep⟩ := hall i o V ho' hV
      obtain ⟨k1, k2, k3, _⟩ := okB_spec hok
      have hcnt : (listed.setIfInBounds i true).toList.count false = fuel := by
        have := count_set listed.toList i (getD_get hun)
        rw [Array.toList_setIfInBounds]
        omega
      have hafter' : ∀ e ∈ o.after, Region.binds md e = true → listed.getD e.on true = true := fun e he hb => by
        have h1 := hafter e he hb
        have hon := (okB_spec hok).2.2.2 i o ho' e he hb
        have hjs : e.on < listed.size := by rw [hs]; omega
        simp [hjs] at h1 ⊢
        exact h1
      have hnext : ∀ (v : Value) (w' : World), C w' → X i w w' → FactV V o a v w' → wpAny P md l.toArray Q fuel (listed.setIfInBounds i true) (a.put o.dst v) w' := fun v w' h1 h2 h3 =>
        ih _ _ _ (by simpa using hs) hcnt (inv_put hok hkey hk hs hI ho' hun hafter' hV h1 h2 h3)
      have hfits : ∀ t ∈ o.looksAt l.toArray, Fits a0 (envs (l.take i) (Vs.take i) fun _ => none) a w t := by
        intro t ht
        unfold Fits
        by_cases hex : ∃ (j : Nat) (o' : Oper), l[j]? = some o' ∧ o'.dst = some t
        · obtain ⟨j, o', hj, hd⟩ := hex
          obtain ⟨hji, e, he, hb, hon⟩ := k3 i j o o' t ho' hj hd ht
          have hjl : j < Vs.length := by omega
          have hVj : Vs[j]? = some Vs[j] := List.getElem?_eq_getElem hjl
          have henv := envs_some (V := Vs[j]) hd (l.take i) (Vs.take i) (fun _ => none) j (by rw [List.getElem?_take, if_pos hji]; exact hj) (by rw [List.getElem?_take, if_pos hji]; exact hVj) (fun k o'' hjk hk' hd' => by
            have hk2 : l[k]? = some o'' := by
              rw [List.getElem?_take] at hk'
              split at hk'
              · exact hk'
              · cases hk'
            have := k2 j k o' o'' t hj hk2 hd hd'
            omega)
          rw [henv]
          have hl := hafter e he hb
          rw [hon] at hl
          have hl' : listed.getD j true = true := by
            have hjs : j < listed.size := by rw [hs]; omega
            simp [hjs] at hl ⊢
            exact hl
          exact hI.2.2.2.1 j o' Vs[j] t hj hVj (key_dst hd) hl'
        · have henv := envs_none (t := t) (l.take i) (Vs.take i) (fun _ => none) (fun o' ho' hd => by
            obtain ⟨k, hk'⟩ := List.mem_iff_getElem?.1 ho'
            rw [List.getElem?_take] at hk'
            split at hk'
            · exact hex ⟨k, o', hk', hd⟩
            · cases hk')
          rw [henv]
          exact hI.2.2.2.2.1 t fun j o' hj hd => absurd ⟨j, o', hj, hd⟩ hex
      have hs2 := hstep a w hI.1 hfits
      unfold wpOp
      simp only [ho]
      by_cases hw : Region.wanted o (yielded l.toArray a.tmps) = true
      · rw [if_pos hw] at hs2
        simp only [hw, if_true]
        left
        unfold Oper.wp
        generalize (execOp a.eval o).run P w = r at *
        cases r with
        | ok nx w' =>
          cases nx <;> simp only [Tame] at hs2 <;> simp only [Oper.upon]
          case value v => exact hnext v w' hs2.1 hs2.2.1 hs2.2.2
          case skip => exact hnext undef w' hs2.1 hs2.2.1 hs2.2.2
          case enter f args =>
            obtain ⟨rfl, hc⟩ := hs2
            exact hc.mono fun e w'' ⟨v, he, h1, h2, h3⟩ => by subst he; exact hnext v w'' h1 h2 h3
        | halt x w' => simp only [Tame] at hs2
      · rw [if_neg hw] at hs2
        simp only [hw]
        exact hnext undef w hI.1 (hrefl i w) hs2
    refine ⟨fun hr => ?_, hmem⟩
    obtain ⟨i, hi, hmin⟩ := least listed (by omega)
    have hil : i < l.length := by rw [← hs]; exact hi.1
    refine absurd (mem_ready.2 ⟨hi.2, l[i], by simp [hil], fun e he hb => ?_⟩ : i ∈ Region.ready md l.toArray listed) (by rw [hr]; simp)
    have hlt := (okB_spec hok).2.2.2 i l[i] (List.getElem?_eq_getElem hil) e he hb
    have hes : e.on < listed.size := by omega
    have := hmin e.on hlt
    simp [hes] at this ⊢
    exact this
/-- **THE REGION.** -/
theorem wp_region_typed {id n : Nat} {l : List Oper} {Q : Exit → Act → World → Prop} {w : World} (hm : P.follows .mixedOrders = true) (hok : okB .any l n = true) (hkey : keyB l = true) (hn : a0.tmps.size = n)
    (hrefl : ∀ k w, X k w w) (hC : C { w with drawn := w.drawn + 1 })
    (h : WalkT P l.toArray C X a0 0 l (fun _ => none) [] fun E F => ∀ (a : Act) (w' : World), C w' → a.tmps.size = n → a.defers = a0.defers → (∀ t, Fits a0 E a w' t) → (∀ x ∈ F, x.2 (a.eval (.tmp x.1)) w') → Q .normal a w') :
    (Code.region id l.toArray true).wp P Q a0 w := by
  obtain ⟨Vs, hlen, hall, hK⟩ := walk_ex P l.toArray C X a0 0 l _ _ h
  refine wp_region_any hm ?_
  have hsz : (Array.replicate l.toArray.size false).size = l.length := by simp
  have hall' : ∀ (i : Nat) (o : Oper) (V : Ty), l[i]? = some o → Vs[i]? = some V → Keeps X i V ∧ StepT P l.toArray C X a0 i (envs (l.take i) (Vs.take i) fun _ => none) o V := fun i o V h1 h2 => by
    have := hall i o V h1 h2
    rwa [Nat.zero_add] at this
  refine wpAny_typed (Vs := Vs) (n := n) hok hkey hlen hrefl hall' ?_ _ _ _ _ hsz (by simp) ⟨hC, hn, rfl, fun i o V t ho hV ht hl => ?_, fun t _ => rfl, fun j o hj hl => ?_⟩
  · intro listed a w' h0 hs hI
    have hall1 : ∀ j, listed.getD j true = true := fun j => by
      cases hb : listed.getD j true with
      | true => rfl
      | false =>
        have hm : false ∈ listed.toList := List.mem_of_getElem? (getD_get hb)
        have := List.count_pos_iff.2 hm
        omega
    refine hK a w' hI.1 hI.2.1 hI.2.2.1 (fun t => ?_) (fun x hx => by
      rcases mem_facts l Vs [] x hx with h | ⟨i, o, h1, h2, h3⟩
      · cases h
      · exact hI.2.2.2.1 i o x.2 x.1 h1 h2 h3 (hall1 i))
    unfold Fits
    by_cases hex : ∃ (j : Nat) (o' : Oper), l[j]? = some o' ∧ o'.dst = some t
    · obtain ⟨j, o', hj, hd⟩ := hex
      have hjl : j < Vs.length := by have := (List.getElem?_eq_some_iff.1 hj).1; omega
      have hVj : Vs[j]? = some Vs[j] := List.getElem?_eq_getElem hjl
      rw [envs_some (V := Vs[j]) hd l Vs (fun _ => none) j hj hVj (fun k o'' hjk hk' hd' => by
        have := (okB_spec hok).2.1 j k o' o'' t hj hk' hd hd'
        omega)]
      exact hI.2.2.2.1 j o' Vs[j] t hj hVj (key_dst hd) (hall1 j)
    · rw [envs_none (t := t) l Vs (fun _ => none) (fun o' ho' hd => by
        obtain ⟨k, hk'⟩ := List.mem_iff_getElem?.1 ho'
        exact hex ⟨k, o', hk', hd⟩)]
      exact hI.2.2.2.2.1 t fun j o' hj hd => absurd ⟨j, o', hj, hd⟩ hex
  · have hi : i < l.length := (List.getElem?_eq_some_iff.1 ho).1
    simp [hi] at hl
  · have hi : j < l.length := (List.getElem?_eq_some_iff.1 hj).1
    simp [hi] at hl
theorem w_is {k : Nat} {o : Oper} {rest : List Oper} {E : Tmp → Option Ty} {F : List (Tmp × Ty)} {K : (Tmp → Option Ty) → List (Tmp × Ty) → Prop} (hrefl : ∀ k w, X k w w) {d : Tmp} (hd : o.dst = some d) (c : Value) (G : Wanted ops a0 E o)
    (h : ∀ (ρ : Operand → Value) (w : World), C w → (∀ c, ρ (.const c) = c) → (∀ f, ρ (.func f) = .func (.func f) #[] #[]) → (∀ t ∈ o.looksAt ops, Fit E a0 ρ w t) → (execOp ρ o).run P w = .ok (.value c) w)
    (hw : WalkT P ops C X a0 (k + 1) rest (push o (Is c) E) F K) : WalkT P ops C X a0 k (o :: rest) E F K :=
  ⟨Is c, fun _ _ _ _ _ h _ => h, fun a w hC hf => by
    rw [if_pos (G.on hf), h a.eval w hC (fun _ => rfl) (fun _ => rfl) hf]
    refine ⟨hC, hrefl k w, ?_⟩
    unfold FactV
    rw [hd]
    exact (rfl : c = c), by rwa [show pushF o (Is c) F = F by unfold pushF; rw [hd]]⟩
theorem w_call {k : Nat} {o : Oper} {rest : List Oper} {E : Tmp → Option Ty} {F : List (Tmp × Ty)} {K : (Tmp → Option Ty) → List (Tmp × Ty) → Prop} {d : Tmp} (hd : o.dst = some d) (V : Ty) (hV : Keeps X k V) (f : FuncId) (G : Wanted ops a0 E o)
    (h : ∀ (ρ : Operand → Value) (w : World), C w → (∀ c, ρ (.const c) = c) → (∀ f, ρ (.func f) = .func (.func f) #[] #[]) → (∀ t ∈ o.looksAt ops, Fit E a0 ρ w t) →
      ∃ args, (execOp ρ o).run P w = .ok (.enter f args) w ∧ Calls P f args w (fun e w' => ∃ v, e = .returned v ∧ C w' ∧ X k w w' ∧ V v w'))
    (hw : WalkT P ops C X a0 (k + 1) rest (push o V E) F K) : WalkT P ops C X a0 k (o :: rest) E F K :=
  ⟨V, hV, fun a w hC hf => by
    obtain ⟨args, h1, h2⟩ := h a.eval w hC (fun _ => rfl) (fun _ => rfl) hf
    rw [if_pos (G.on hf), h1]
    exact ⟨rfl, h2.mono fun e w' ⟨v, e1, e2, e3, e4⟩ => ⟨v, e1, e2, e3, by unfold FactV; rw [hd]; exact e4⟩⟩, by rwa [show pushF o V F = F by unfold pushF; rw [hd]]⟩
theorem w_make {k : Nat} {o : Oper} {rest : List Oper} {E : Tmp → Option Ty} {F : List (Tmp × Ty)} {K : (Tmp → Option Ty) → List (Tmp × Ty) → Prop} {d : Tmp} (hd : o.dst = some d) (V : Ty) (hV : Keeps X k V) (G : Wanted ops a0 E o)
    (h : ∀ (ρ : Operand → Value) (w : World), C w → (∀ c, ρ (.const c) = c) → (∀ f, ρ (.func f) = .func (.func f) #[] #[]) → (∀ t ∈ o.looksAt ops, Fit E a0 ρ w t) →
      ∃ v w', (execOp ρ o).run P w = .ok (.value v) w' ∧ C w' ∧ X k w w' ∧ V v w')
    (hw : WalkT P ops C X a0 (k + 1) rest (push o V E) F K) : WalkT P ops C X a0 k (o :: rest) E F K :=
  ⟨V, hV, fun a w hC hf => by
    obtain ⟨v, w', h1, h2, h3, h4⟩ := h a.eval w hC (fun _ => rfl) (fun _ => rfl) hf
    rw [if_pos (G.on hf), h1]
    exact ⟨h2, h3, by unfold FactV; rw [hd]; exact h4⟩, by rwa [show pushF o V F = F by unfold pushF; rw [hd]]⟩
/-- A store: what is known of the slot that holds its address. -/
theorem w_store {k : Nat} {o : Oper} {rest : List Oper} {E : Tmp → Option Ty} {F : List (Tmp × Ty)} {K : (Tmp → Option Ty) → List (Tmp × Ty) → Prop} {p : Tmp} (hd : o.dst = none) (hp : keyOf o = some p) (V : Ty) (hV : Keeps X k V) (G : Wanted ops a0 E o)
    (h : ∀ (ρ : Operand → Value) (w : World), C w → (∀ c, ρ (.const c) = c) → (∀ t ∈ o.looksAt ops, Fit E a0 ρ w t) →
      ∃ w', (execOp ρ o).run P w = .ok .skip w' ∧ C w' ∧ X k w w' ∧ V (ρ (.tmp p)) w')
    (hw : WalkT P ops C X a0 (k + 1) rest E ((p, V) :: F) K) : WalkT P ops C X a0 k (o :: rest) E F K :=
  ⟨V, hV, fun a w hC hf => by
    obtain ⟨w', h1, h2, h3, h4⟩ := h a.eval w hC (fun _ => rfl) hf
    rw [if_pos (G.on hf), h1]
    exact ⟨h2, h3, by unfold FactV; rw [hd]; simp only [hp]; exact h4⟩, by
      rw [show pushF o V F = (p, V) :: F by unfold pushF; rw [hd]; simp only [hp], show push o V E = E by funext t; simp [push, hd]]
      exact hw⟩
end
end Go.Proofs.Ytmimgpnogjgliaa.T3

