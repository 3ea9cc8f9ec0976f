/- A region that draws its order, by what is known of each slot: an operation is shown once, in whatever frame and world fit what it looks at; then every order ends in a frame and world that fit. Over any program. No conditions beyond those of the theorems. -/
import Derived.Orders
import Derived.Calls
import Derived.Below
namespace Go.Proofs.Ytmimgpnogjgliaa
set_option maxRecDepth 100000

/-- What is known of a value in a world. -/
def Ty := Value → World → Prop
section
variable (P : Program) (ops : Array Oper) (C : World → Prop) (X : World → World → Prop) (a0 : Act)

/-- A slot's value fits what is known: of a slot that the region writes, its type; of another one, what it held at first. -/
def Fits (E : Tmp → Option Ty) (a : Act) (w : World) (t : Tmp) : Prop :=
  match E t with
  | some V => V (a.eval (.tmp t)) w
  | none => a.eval (.tmp t) = a0.eval (.tmp t)
def Tame (V : Ty) (w : World) : Result Next → Prop
  | .ok (.value v) w' => C w' ∧ X w w' ∧ V v w'
  | .ok .skip w' => C w' ∧ X w w' ∧ V undef w'
  | .ok (.enter f args) w' => w' = w ∧ Calls P f args w (fun e w'' => ∃ v, e = .returned v ∧ C w'' ∧ X w w'' ∧ V v w'')
  | _ => False
def StepT (E : Tmp → Option Ty) (o : Oper) (V : Ty) : Prop :=
  ∀ (a : Act) (w : World), C w → (∀ t ∈ o.looksAt ops, Fits a0 E a w t) →
    if Region.wanted o (yielded ops a.tmps) then Tame P C X V w ((execOp a.eval o).run P w) else V undef w
def Keeps (V : Ty) : Prop := ∀ v w w', V v w → X w w' → V v w'
def push (o : Oper) (V : Ty) (E : Tmp → Option Ty) : Tmp → Option Ty := fun t => if o.dst = some t then some V else E t
def WalkT : List Oper → (Tmp → Option Ty) → ((Tmp → Option Ty) → Prop) → Prop
  | [], E, K => K E
  | o :: rest, E, K => ∃ V, Keeps X V ∧ StepT P ops C X a0 E o V ∧ WalkT rest (push o V E) K
def envs : List Oper → List Ty → (Tmp → Option Ty) → (Tmp → Option Ty)
  | o :: l, V :: Vs, E => envs l Vs (push o V E)
  | _, _, E => E
theorem envs_none {t : Tmp} : ∀ (l : List Oper) (Vs : List Ty) (E : Tmp → Option Ty), (∀ o ∈ l, o.dst ≠ some t) → envs l Vs E t = E t
  | [], _, _, _ => by simp [envs]
  | o :: l, [], _, _ => by simp [envs]
  | o :: l, V :: Vs, E, h => by
    rw [envs, envs_none l Vs _ (fun o' h' => h o' (List.mem_cons_of_mem _ h')), push, if_neg (h o List.mem_cons_self)]
theorem envs_some {t : Tmp} {o : Oper} {V : Ty} (ht : o.dst = some t) : ∀ (l : List Oper) (Vs : List Ty) (E : Tmp → Option Ty) (j : Nat),
    l[j]? = some o → Vs[j]? = some V → (∀ k o', j < k → l[k]? = some o' → o'.dst ≠ some t) → envs l Vs E t = some V
  | [], _, _, j, h, _, _ => by simp at h
  | _ :: _, [], _, j, _, h, _ => by simp at h
  | o1 :: l, V1 :: Vs, E, 0, h1, h2, h3 => by
    simp at h1 h2
    subst h1 h2
    rw [envs, envs_none l Vs _ (fun o' h' => by
      obtain ⟨k, hk⟩ := List.mem_iff_getElem?.1 h'
      exact h3 (k + 1) o' (by omega) (by simpa using hk)), push, if_pos ht]
  | o1 :: l, V1 :: Vs, E, j + 1, h1, h2, h3 => by
    rw [envs]
    exact envs_some ht l Vs _ j (by simpa using h1) (by simpa using h2) (fun k o' hk ho => h3 (k + 1) o' (by omega) (by simpa using ho))
theorem walk_ex {K : (Tmp → Option Ty) → Prop} : ∀ (l : List Oper) (E : Tmp → Option Ty), WalkT P ops C X a0 l E K →
    ∃ Vs : List Ty, Vs.length = l.length ∧ (∀ i o V, l[i]? = some o → Vs[i]? = some V → Keeps X V ∧ StepT P ops C X a0 (envs (l.take i) (Vs.take i) E) o V) ∧ K (envs l Vs E)
  | [], E, h => ⟨[], rfl, fun i o V h1 => by simp at h1, by simpa [envs, WalkT] using h⟩
  | o :: l, E, h => by
    obtain ⟨V, hk, hs, hw⟩ := h
    obtain ⟨Vs, hl, ha, hK⟩ := walk_ex l _ hw
    refine ⟨V :: Vs, by simp [hl], fun i o' V' h1 h2 => ?_, by rw [envs]; exact hK⟩
    cases i with
    | zero =>
      simp at h1 h2
      subst h1 h2
      exact ⟨hk, by simpa [envs] using hs⟩
    | succ i =>
      have := ha i o' V' (by simpa using h1) (by simpa using h2)
      rw [List.take_succ_cons, List.take_succ_cons, envs]
      exact this
/-- Each slot that the region writes is written once, and read behind what writes it alone. -/
def okB (md : Region.Mode) (l : List Oper) (n : Nat) : Bool :=
  (List.range l.length).all fun i => match l[i]? with
    | none => true
    | some o =>
      (match o.dst with | some d => decide (d < n) | none => true) && (o.after.all fun e => !Region.binds md e || decide (e.on < i)) &&
      (List.range l.length).all fun j => match l[j]? with
        | none => true
        | some o' => match o'.dst with
          | none => true
          | some t => (decide (i = j) || !(o.dst == some t)) && (!(o.looksAt l.toArray).contains t || (decide (j < i) && o.after.any fun e => Region.binds md e && e.on == j))
theorem okB_spec {md : Region.Mode} {l : List Oper} {n : Nat} (h : okB md l n = true) :
    (∀ (i : Nat) (o : Oper) (d : Tmp), l[i]? = some o → o.dst = some d → d < n) ∧
    (∀ (i j : Nat) (o o' : Oper) (t : Tmp), l[i]? = some o → l[j]? = some o' → o.dst = some t → o'.dst = some t → i = j) ∧
    (∀ (i j : Nat) (o o' : Oper) (t : Tmp), l[i]? = some o → l[j]? = some o' → o'.dst = some t → t ∈ o.looksAt l.toArray → j < i ∧ ∃ e ∈ o.after, Region.binds md e = true ∧ e.on = j) ∧
    (∀ (i : Nat) (o : Oper), l[i]? = some o → ∀ e ∈ o.after, Region.binds md e = true → e.on < i) := by
  unfold okB at h
  rw [List.all_eq_true] at h
  have lt : ∀ {i : Nat} {o : Oper}, l[i]? = some o → i < l.length := fun h => (List.getElem?_eq_some_iff.1 h).1
  refine ⟨fun i o d hi hd => ?_, fun i j o o' t hi hj h1 h2 => ?_, fun i j o o' t hi hj h2 h3 => ?_, fun i o hi e he hb => ?_⟩
  · have := h i (List.mem_range.2 (lt hi))
    simp only [hi, hd, Bool.and_eq_true, decide_eq_true_eq] at this
    exact this.1.1
  · have := h i (List.mem_range.2 (lt hi))
    simp only [hi, Bool.and_eq_true] at this
    have := (List.all_eq_true.1 this.2) j (List.mem_range.2 (lt hj))
    simp only [hj, h2, h1, Bool.and_eq_true, Bool.or_eq_true, decide_eq_true_eq] at this
    rcases this.1 with h | h
    · exact h
    · simp at h
  · have := h i (List.mem_range.2 (lt hi))
    simp only [hi, Bool.and_eq_true] at this
    have := (List.all_eq_true.1 this.2) j (List.mem_range.2 (lt hj))
    simp only [hj, h2, Bool.and_eq_true, Bool.or_eq_true, decide_eq_true_eq] at this
    rcases this.2 with h | ⟨h, hh⟩
    · simp [h3] at h
    · refine ⟨h, ?_⟩
      obtain ⟨e, he, hb⟩ := Array.any_eq_true'.1 hh
      simp only [Bool.and_eq_true, beq_iff_eq] at hb
      exact ⟨e, he, hb.1, hb.2⟩
  · have := h i (List.mem_range.2 (lt hi))
    simp only [hi, Bool.and_eq_true] at this
    have := (Array.all_eq_true'.1 this.1.2) e he
    simpa [hb] using this
/-- What holds while the operations of 'listed' have come up. -/
def Inv (l : List Oper) (Vs : List Ty) (n : Nat) (listed : Array Bool) (a : Act) (w : World) : Prop :=
  C w ∧ a.tmps.size = n ∧ a.defers = a0.defers ∧
  (∀ (i : Nat) (o : Oper) (V : Ty) (t : Tmp), l[i]? = some o → Vs[i]? = some V → o.dst = some t → listed.getD i true = true → V (a.eval (.tmp t)) w) ∧
  (∀ t, (∀ (i : Nat) (o : Oper), l[i]? = some o → o.dst = some t → listed.getD i true = false) → a.eval (.tmp t) = a0.eval (.tmp t))
theorem eval_put_same {a : Act} {d : Tmp} {v : Value} (h : d < a.tmps.size) : (a.put (some d) v).eval (.tmp d) = v := by
  simp [Act.eval, Act.put, h]
variable {P ops C X a0}
theorem inv_put {md : Region.Mode} {l : List Oper} {Vs : List Ty} {n : Nat} (hok : okB md l n = true) (hk : ∀ (i : Nat) V, Vs[i]? = some V → Keeps X V) {listed : Array Bool} (hls : listed.size = l.length) {a : Act} {w w' : World} (h : Inv C a0 l Vs n listed a w)
    {i : Nat} {o : Oper} {V : Ty} {v : Value} (ho : l[i]? = some o) (hV : Vs[i]? = some V) (hC : C w') (hX : X w w') (hv : V v w') : Inv C a0 l Vs n (listed.setIfInBounds i true) (a.put o.dst v) w' := by
  obtain ⟨h1, h2, h3, h4, h5⟩ := h
  obtain ⟨k1, k2, _, _⟩ := okB_spec hok
  have hil : i < l.length := (List.getElem?_eq_some_iff.1 ho).1
  refine ⟨hC, by cases o.dst <;> simp [Act.put, h2], by cases o.dst <;> simp [Act.put, h3], fun j o' V' t hj hV' ht hl => ?_, fun t ht => ?_⟩
  · by_cases hij : i = j
    · subst hij
      rw [ho] at hj; cases hj
      rw [hV] at hV'; cases hV'
      rw [ht, eval_put_same (by rw [h2]; exact k1 i o t ho ht)]
      exact hv
    · rw [Act.eval_put (fun d hd hx => hij (k2 i j o o' t ho hj (by cases hx; exact hd) ht))]
      rw [getD_set_ne true hij] at hl
      exact hk j V' hV' _ _ _ (h4 j o' V' t hj hV' ht hl) hX
  · rw [Act.eval_put (fun d hd hx => by
      cases hx
      have := ht i o ho hd
      simp [hls, hil] at this)]
    refine h5 t fun j o' hj hd => ?_
    by_cases hij : i = j
    · subst hij
      have := ht i o' hj hd
      simp [hls, hil] at this
    · have := ht j o' hj hd
      rwa [getD_set_ne true hij] at this
theorem count_set : ∀ (l : List Bool) (i : Nat), l[i]? = some false → (l.set i true).count false + 1 = l.count false
  | [], i, h => by simp at h
  | b :: l, 0, h => by simp at h; subst h; simp
  | b :: l, i + 1, h => by
    have := count_set l i (by simpa using h)
    rw [List.set_cons_succ, List.count_cons, List.count_cons]
    omega
theorem getD_get {listed : Array Bool} {i : Nat} (h : listed.getD i true = false) : listed.toList[i]? = some false := by
  rcases Nat.lt_or_ge i listed.size with h' | h'
  · simp [h'] at h
    simp [h', h]
  · simp [Array.getElem?_eq_none h'] at h
theorem least (listed : Array Bool) (h : 0 < listed.toList.count false) : ∃ i, (i < listed.size ∧ listed.getD i true = false) ∧ ∀ j, j < i → listed.getD j true = true := by
  have hm : false ∈ listed.toList := List.count_pos_iff.1 h
  obtain ⟨k, hk⟩ := List.mem_iff_getElem?.1 hm
  have hkl : k < listed.size := by have := (List.getElem?_eq_some_iff.1 hk).1; simpa using this
  have hk' : listed.getD k true = false := by
    have : listed[k]? = some false := by simpa using hk
    simp [this]
  have key : ∀ n, (∃ i, i ≤ n ∧ listed.getD i true = false) → ∃ i, listed.getD i true = false ∧ ∀ j, j < i → listed.getD j true = true := by
    intro n
    induction n with
    | zero => rintro ⟨i, hi, h⟩; obtain rfl : i = 0 := by omega
              exact ⟨0, h, fun j hj => by omega⟩
    | succ n ih =>
      rintro ⟨i, hi, h⟩
      by_cases hex : ∃ i, i ≤ n ∧ listed.getD i true = false
      · exact ih hex
      · refine ⟨i, h, fun j hj => ?_⟩
        cases hb : listed.getD j true with
        | true => rfl
        | false => exact absurd ⟨j, by omega, hb⟩ hex
  obtain ⟨i, hi, hmin⟩ := key k ⟨k, Nat.le_refl _, hk'⟩
  refine ⟨i, ⟨?_, hi⟩, hmin⟩
  rcases Nat.lt_or_ge i listed.size with h' | h'
  · exact h'
  · simp [Array.getElem?_eq_none h'] at hi
theorem wpAny_typed {md : Region.Mode} {l : List Oper} {Vs : List Ty} {n : Nat} {Q : Exit → Act → World → Prop} (hok : okB md l n = true) (hlen : Vs.length = l.length) (hrefl : ∀ w, X w w)
    (hall : ∀ (i : Nat) (o : Oper) (V : Ty), l[i]? = some o → Vs[i]? = some V → Keeps X V ∧ StepT P l.toArray C X a0 (envs (l.take i) (Vs.take i) fun _ => none) o V)
    (hQ : ∀ (listed : Array Bool) (a : Act) (w : World), listed.toList.count false = 0 → listed.size = l.length → Inv C a0 l Vs n listed a w → Q .normal a w) :
    ∀ (fuel : Nat) (listed : Array Bool) (a : Act) (w : World), listed.size = l.length → listed.toList.count false = fuel → Inv C a0 l Vs n listed a w → wpAny P md l.toArray Q fuel listed a w := by
  have hk : ∀ (i : Nat) V, Vs[i]? = some V → Keeps X V := fun i V hV => by
    have hi : i < l.length := by have := (List.getElem?_eq_some_iff.1 hV).1; omega
    exact (hall i l[i] V (List.getElem?_eq_getElem hi) hV).1
  have hnone : ∀ (listed : Array Bool), listed.toList.count false = 0 → Region.ready md l.toArray listed = [] := fun listed h0 => by
    rw [List.eq_nil_iff_forall_not_mem]
    intro j hj
    have := getD_get (mem_ready.1 hj).1
    have hm : false ∈ listed.toList := List.mem_of_getElem? this
    have := List.count_pos_iff.2 hm
    omega
  intro fuel
  induction fuel with
  | zero => intro listed a w hs h0 hI; exact ⟨hnone listed h0, hQ listed a w h0 hs hI⟩
  | succ fuel ih =>
    intro listed a w hs hf hI
    have hmem : ∀ i ∈ Region.ready md l.toArray listed, wpOp P l.toArray Q i (wpAny P md l.toArray Q fuel (listed.setIfInBounds i true)) a w := by
      intro i hi
      obtain ⟨hun, o, ho, hafter⟩ := mem_ready.1 hi
      have ho' : l[i]? = some o := by simpa using ho
      have hil : i < l.length := (List.getElem?_eq_some_iff.1 ho').1
      obtain ⟨V, hV⟩ : ∃ V, Vs[i]? = some V := ⟨Vs[i]'(by omega), List.getElem?_eq_getElem (by omega)⟩
      obtain ⟨_, hstep⟩ := hall i o V ho' hV
      obtain ⟨k1, k2, k3, _⟩ := okB_spec hok
      have hcnt : (listed.setIfInBounds i true).toList.count false = fuel := by
        have := count_set listed.toList i (getD_get hun)
        rw [Array.toList_setIfInBounds]
        omega
      have hnext : ∀ (v : Value) (w' : World), C w' → X w w' → V v w' → wpAny P md l.toArray Q fuel (listed.setIfInBounds i true) (a.put o.dst v) w' := fun v w' h1 h2 h3 =>
        ih _ _ _ (by simpa using hs) hcnt (inv_put hok hk hs hI ho' hV h1 h2 h3)
      have hfits : ∀ t ∈ o.looksAt l.toArray, Fits a0 (envs (l.take i) (Vs.take i) fun _ => none) a w t := by
        intro t ht
        unfold Fits
        by_cases hex : ∃ (j : Nat) (o' : Oper), l[j]? = some o' ∧ o'.dst = some t
        · obtain ⟨j, o', hj, hd⟩ := hex
          obtain ⟨hji, e, he, hb, hon⟩ := k3 i j o o' t ho' hj hd ht
          have hjl : j < Vs.length := by omega
          have hVj : Vs[j]? = some Vs[j] := List.getElem?_eq_getElem hjl
          have henv := envs_some (V := Vs[j]) hd (l.take i) (Vs.take i) (fun _ => none) j (by rw [List.getElem?_take, if_pos hji]; exact hj) (by rw [List.getElem?_take, if_pos hji]; exact hVj) (fun k o'' hjk hk' hd' => by
            have hk2 : l[k]? = some o'' := by
              rw [List.getElem?_take] at hk'
              split at hk'
              · exact hk'
              · cases hk'
            have := k2 j k o' o'' t hj hk2 hd hd'
            omega)
          rw [henv]
          have hl := hafter e he hb
          rw [hon] at hl
          have hl' : listed.getD j true = true := by
            have hjs : j < listed.size := by rw [hs]; omega
            simp [hjs] at hl ⊢
            exact hl
          exact hI.2.2.2.1 j o' Vs[j] t hj hVj hd hl'
        · have henv := envs_none (t := t) (l.take i) (Vs.take i) (fun _ => none) (fun o' ho' hd => by
            obtain ⟨k, hk'⟩ := List.mem_iff_getElem?.1 ho'
            rw [List.getElem?_take] at hk'
            split at hk'
            · exact hex ⟨k, o', hk', hd⟩
            · cases hk')
          rw [henv]
          exact hI.2.2.2.2 t fun j o' hj hd => absurd ⟨j, o', hj, hd⟩ hex
      have hs2 := hstep a w hI.1 hfits
      unfold wpOp
      simp only [ho]
      by_cases hw : Region.wanted o (yielded l.toArray a.tmps) = true
      · rw [if_pos hw] at hs2
        simp only [hw, if_true]
        left
        unfold Oper.wp
        generalize (execOp a.eval o).run P w = r at *
        cases r with
        | ok nx w' =>
          cases nx <;> simp only [Tame] at hs2 <;> simp only [Oper.upon]
          case value v => exact hnext v w' hs2.1 hs2.2.1 hs2.2.2
          case skip => exact hnext undef w' hs2.1 hs2.2.1 hs2.2.2
          case enter f args =>
            obtain ⟨rfl, hc⟩ := hs2
            exact hc.mono fun e w'' ⟨v, he, h1, h2, h3⟩ => by subst he; exact hnext v w'' h1 h2 h3
        | halt x w' => simp only [Tame] at hs2
      · rw [if_neg hw] at hs2
        simp only [hw]
        exact hnext undef w hI.1 (hrefl w) hs2
    refine ⟨fun hr => ?_, hmem⟩
    obtain ⟨i, hi, hmin⟩ := least listed (by omega)
    have hil : i < l.length := by rw [← hs]; exact hi.1
    refine absurd (mem_ready.2 ⟨hi.2, l[i], by simp [hil], fun e he hb => ?_⟩ : i ∈ Region.ready md l.toArray listed) (by rw [hr]; simp)
    have hlt := (okB_spec hok).2.2.2 i l[i] (List.getElem?_eq_getElem hil) e he hb
    have hes : e.on < listed.size := by omega
    have := hmin e.on hlt
    simp [hes] at this ⊢
    exact this
/-- **THE REGION.** -/
theorem wp_region_typed {id n : Nat} {l : List Oper} {Q : Exit → Act → World → Prop} {w : World} (hm : P.follows .mixedOrders = true) (hok : okB .any l n = true) (hn : a0.tmps.size = n)
    (hrefl : ∀ w, X w w) (hC : C { w with drawn := w.drawn + 1 })
    (h : WalkT P l.toArray C X a0 l (fun _ => none) fun E => ∀ (a : Act) (w' : World), C w' → a.tmps.size = n → a.defers = a0.defers → (∀ t, Fits a0 E a w' t) → Q .normal a w') :
    (Code.region id l.toArray true).wp P Q a0 w := by
  obtain ⟨Vs, hlen, hall, hK⟩ := walk_ex P l.toArray C X a0 l _ h
  refine wp_region_any hm ?_
  have hsz : (Array.replicate l.toArray.size false).size = l.length := by simp
  refine wpAny_typed (Vs := Vs) (n := n) hok hlen hrefl hall ?_ _ _ _ _ hsz (by simp) ⟨hC, hn, rfl, fun i o V t ho hV ht hl => ?_, fun t _ => rfl⟩
  · intro listed a w' h0 hs hI
    have hall1 : ∀ j, listed.getD j true = true := fun j => by
      cases hb : listed.getD j true with
      | true => rfl
      | false =>
        have hm : false ∈ listed.toList := List.mem_of_getElem? (getD_get hb)
        have := List.count_pos_iff.2 hm
        omega
    refine hK a w' hI.1 hI.2.1 hI.2.2.1 fun t => ?_
    unfold Fits
    by_cases hex : ∃ (j : Nat) (o' : Oper), l[j]? = some o' ∧ o'.dst = some t
    · obtain ⟨j, o', hj, hd⟩ := hex
      have hjl : j < Vs.length := by have := (List.getElem?_eq_some_iff.1 hj).1; omega
      have hVj : Vs[j]? = some Vs[j] := List.getElem?_eq_getElem hjl
      rw [envs_some (V := Vs[j]) hd l Vs (fun _ => none) j hj hVj (fun k o'' hjk hk' hd' => by
        have := (okB_spec hok).2.1 j k o' o'' t hj hk' hd hd'
        omega)]
      exact hI.2.2.2.1 j o' Vs[j] t hj hVj hd (hall1 j)
    · rw [envs_none (t := t) l Vs (fun _ => none) (fun o' ho' hd => by
        obtain ⟨k, hk'⟩ := List.mem_iff_getElem?.1 ho'
        exact hex ⟨k, o', hk', hd⟩)]
      exact hI.2.2.2.2 t fun j o' hj hd => absurd ⟨j, o', hj, hd⟩ hex
  · have hi : i < l.length := (List.getElem?_eq_some_iff.1 ho).1
    simp [hi] at hl
def Is (c : Value) : Ty := fun v _ => v = c
def Fit (E : Tmp → Option Ty) (a0 : Act) (ρ : Operand → Value) (w : World) (t : Tmp) : Prop :=
  match E t with
  | some V => V (ρ (.tmp t)) w
  | none => ρ (.tmp t) = a0.eval (.tmp t)
/-- Nothing guards it, or what guards it yields just that. -/
def Known (E : Tmp → Option Ty) (a0 : Act) (d : Tmp) (c : Value) : Prop := ∀ (a : Act) (w : World), Fits a0 E a w d → a.eval (.tmp d) = c
theorem known_is {E : Tmp → Option Ty} {d : Tmp} {c : Value} (h : E d = some (Is c)) : Known E a0 d c := fun a w hf => by
  unfold Fits at hf; rw [h] at hf; exact hf
def Wanted (ops : Array Oper) (a0 : Act) (E : Tmp → Option Ty) (o : Oper) : Prop :=
  o.guard = none ∨ ∃ g d want, o.guard = some (g, want) ∧ (ops[g]?).bind (·.dst) = some d ∧ Known E a0 d (.bool want)
theorem Wanted.on {E : Tmp → Option Ty} {o : Oper} (h : Wanted ops a0 E o) {a : Act} {w : World} (hf : ∀ t ∈ o.looksAt ops, Fits a0 E a w t) : Region.wanted o (yielded ops a.tmps) = true := by
  rcases h with h | ⟨g, d, want, h1, h2, h3⟩
  · simp [Region.wanted, h]
  · have hv := h3 a w (hf d (by simp [Oper.looksAt, h1, h2]))
    have hy : yielded ops a.tmps g = some want := by
      unfold yielded
      rw [h2]
      simp only [Act.eval] at hv
      rcases Nat.lt_or_ge d a.tmps.size with h | h
      · simp [h] at hv
        simp [h, hv]
      · simp [Array.getElem?_eq_none h, undef] at hv
    simp [Region.wanted, h1, hy]
theorem w_is {o : Oper} {rest : List Oper} {E : Tmp → Option Ty} {K : (Tmp → Option Ty) → Prop} (hrefl : ∀ w, X w w) (c : Value) (G : Wanted ops a0 E o)
    (h : ∀ (ρ : Operand → Value) (w : World), C w → (∀ c, ρ (.const c) = c) → (∀ f, ρ (.func f) = .func (.func f) #[] #[]) → (∀ t ∈ o.looksAt ops, Fit E a0 ρ w t) → (execOp ρ o).run P w = .ok (.value c) w)
    (hw : WalkT P ops C X a0 rest (push o (Is c) E) K) : WalkT P ops C X a0 (o :: rest) E K :=
  ⟨Is c, fun _ _ _ h _ => h, fun a w hC hf => by
    rw [if_pos (G.on hf), h a.eval w hC (fun _ => rfl) (fun _ => rfl) hf]
    exact ⟨hC, hrefl w, rfl⟩, hw⟩
/-- A copy: what is known of the one is known of the other. -/
theorem w_copy {o : Oper} {rest : List Oper} {E : Tmp → Option Ty} {K : (Tmp → Option Ty) → Prop} (hrefl : ∀ w, X w w) (x : Operand) (hop : o.op = .move x ∨ o.op = .assign x) (c : Value) (G : Wanted ops a0 E o)
    (h : ∀ (ρ : Operand → Value) (w : World), (∀ c, ρ (.const c) = c) → (∀ t ∈ o.looksAt ops, Fit E a0 ρ w t) → ρ x = c)
    (hw : WalkT P ops C X a0 rest (push o (Is c) E) K) : WalkT P ops C X a0 (o :: rest) E K :=
  w_is hrefl c G (fun ρ w _ hc _ hf => by
    have hx := h ρ w hc hf
    rcases hop with hop | hop <;> (simp only [execOp, hop, hx]; rfl)) hw
/-- A call. -/
theorem w_call {o : Oper} {rest : List Oper} {E : Tmp → Option Ty} {K : (Tmp → Option Ty) → Prop} (V : Ty) (hV : Keeps X V) (f : FuncId) (G : Wanted ops a0 E o)
    (h : ∀ (ρ : Operand → Value) (w : World), C w → (∀ c, ρ (.const c) = c) → (∀ f, ρ (.func f) = .func (.func f) #[] #[]) → (∀ t ∈ o.looksAt ops, Fit E a0 ρ w t) →
      ∃ args, (execOp ρ o).run P w = .ok (.enter f args) w ∧ Calls P f args w (fun e w' => ∃ v, e = .returned v ∧ C w' ∧ X w w' ∧ V v w'))
    (hw : WalkT P ops C X a0 rest (push o V E) K) : WalkT P ops C X a0 (o :: rest) E K :=
  ⟨V, hV, fun a w hC hf => by
    obtain ⟨args, h1, h2⟩ := h a.eval w hC (fun _ => rfl) (fun _ => rfl) hf
    rw [if_pos (G.on hf), h1]
    exact ⟨rfl, h2⟩, hw⟩
/-- An operation that makes memory. -/
theorem w_make {o : Oper} {rest : List Oper} {E : Tmp → Option Ty} {K : (Tmp → Option Ty) → Prop} (V : Ty) (hV : Keeps X V) (G : Wanted ops a0 E o)
    (h : ∀ (ρ : Operand → Value) (w : World), C w → (∀ c, ρ (.const c) = c) → (∀ f, ρ (.func f) = .func (.func f) #[] #[]) → (∀ t ∈ o.looksAt ops, Fit E a0 ρ w t) →
      ∃ v w', (execOp ρ o).run P w = .ok (.value v) w' ∧ C w' ∧ X w w' ∧ V v w')
    (hw : WalkT P ops C X a0 rest (push o V E) K) : WalkT P ops C X a0 (o :: rest) E K :=
  ⟨V, hV, fun a w hC hf => by
    obtain ⟨v, w', h1, h2⟩ := h a.eval w hC (fun _ => rfl) (fun _ => rfl) hf
    rw [if_pos (G.on hf), h1]
    exact h2, hw⟩
/-- A copy of what is known by its type alone. -/
theorem w_copyT {o : Oper} {rest : List Oper} {E : Tmp → Option Ty} {K : (Tmp → Option Ty) → Prop} (hrefl : ∀ w, X w w) (V : Ty) (hV : Keeps X V) (x : Tmp) (hop : o.op = .move (.tmp x) ∨ o.op = .assign (.tmp x)) (G : Wanted ops a0 E o)
    (hx : E x = some V) (hm : x ∈ o.looksAt ops) (hw : WalkT P ops C X a0 rest (push o V E) K) : WalkT P ops C X a0 (o :: rest) E K :=
  w_make V hV G (fun ρ w hC _ _ hf => by
    have h := hf x hm
    unfold Fit at h
    rw [hx] at h
    exact ⟨ρ (.tmp x), w, by rcases hop with hop | hop <;> (simp only [execOp, hop]; rfl), hC, hrefl w, h⟩) hw
/-- What its guard shuts out. -/
theorem w_skip {o : Oper} {rest : List Oper} {E : Tmp → Option Ty} {K : (Tmp → Option Ty) → Prop} {g : Nat} {d : Tmp} {want : Bool} (h1 : o.guard = some (g, want)) (h2 : (ops[g]?).bind (·.dst) = some d) (h3 : Known E a0 d (.bool (!want)))
    (hw : WalkT P ops C X a0 rest (push o (Is undef) E) K) : WalkT P ops C X a0 (o :: rest) E K :=
  ⟨Is undef, fun _ _ _ h _ => h, fun a w hC hf => by
    have hv := h3 a w (hf d (by simp [Oper.looksAt, h1, h2]))
    have hy : yielded ops a.tmps g = some (!want) := by
      unfold yielded
      rw [h2]
      simp only [Act.eval] at hv
      rcases Nat.lt_or_ge d a.tmps.size with h | h
      · simp [h] at hv
        simp [h, hv]
      · simp [Array.getElem?_eq_none h, undef] at hv
    rw [if_neg (by simp [Region.wanted, h1, hy])]
    rfl, hw⟩
end
open RowKit in
/-- Contracts as such a walk asks for them. -/
theorem tc_same {P : Program} {f : FuncId} {args : Array Value} {W w : World} {v : Value} (hC : Below W.heap.size W w) (h : Calls P f args w fun e w' => e = .returned v ∧ w = w') :
    Calls P f args w fun e w' => ∃ u, e = .returned u ∧ Below W.heap.size W w' ∧ Below w.heap.size w w' ∧ Is v u w' :=
  h.mono fun _ _ ⟨he, hb⟩ => ⟨_, he, hb ▸ hC, hb ▸ Below.refl _ _, rfl⟩
open RowKit in
theorem tc_below {P : Program} {f : FuncId} {args : Array Value} {W w : World} {v : Value} (hC : Below W.heap.size W w) (h : Calls P f args w fun e w' => e = .returned v ∧ Below w.heap.size w w') :
    Calls P f args w fun e w' => ∃ u, e = .returned u ∧ Below W.heap.size W w' ∧ Below w.heap.size w w' ∧ Is v u w' :=
  h.mono fun _ _ ⟨he, hb⟩ => ⟨_, he, hC.trans (hb.mono hC.size), hb, rfl⟩
open RowKit in
theorem tc_some {P : Program} {f : FuncId} {args : Array Value} {W w : World} {V : Ty} (hC : Below W.heap.size W w) (h : Calls P f args w fun e w' => ∃ r, e = .returned r ∧ V r w' ∧ Below w.heap.size w w') :
    Calls P f args w fun e w' => ∃ u, e = .returned u ∧ Below W.heap.size W w' ∧ Below w.heap.size w w' ∧ V u w' :=
  h.mono fun _ _ ⟨r, he, hv, hb⟩ => ⟨r, he, hC.trans (hb.mono hC.size), hb, hv⟩
/-- A frame by its slots. -/
theorem frame_eq {a : Act} {n : Nat} (h : a.tmps.size = n) : a = { a with tmps := ((List.range n).map fun i => a.eval (.tmp i)).toArray } := by
  obtain ⟨tmps, defers⟩ := a
  simp only [Act.mk.injEq, and_true] at *
  apply Array.ext
  · simpa using h
  · intro i h1 h2
    simp [Act.eval, h1]
end Go.Proofs.Ytmimgpnogjgliaa

