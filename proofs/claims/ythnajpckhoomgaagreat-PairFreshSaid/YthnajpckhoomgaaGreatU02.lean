/- Texts Base, Read, Typed, Typ3, Frm, Beq, Ofm, Oeq of this proof, in one. No conditions but on lengths. -/
import Derived.Test.YthnajpckhoomgaaGreatRows
import Derived.Test.YthnajpckhoomgaaGreatU01
import Derived.ArgAppend
import Derived.Below
import Derived.BigQuiet
import Derived.Calls
import Derived.ChangeArms
import Derived.ChangeOld
import Derived.Deep.Cut
import Derived.Deep.QuietTactic
import Derived.Deep.RegionLaw
import Derived.Deep.Slices
import Derived.Laws.AppendOwnNone
import Derived.Laws.BytesArg
import Derived.Laws.OwnMore
import Derived.Laws.StructEq
import Derived.Lib.Hide
import Derived.Lib.QuietBelow
import Derived.LoopTactic
import Derived.Maps.AppendAt
import Derived.OpenShut
import Derived.Orders
import Derived.Outline
import Derived.ProofKit
import Derived.ShutString
import Derived.StillTail
import Derived.WalkKit
import Derived.WalkSpells
import Derived.WideShapes
namespace Go.Proofs.YthnajpckhoomgaaGreat
set_option maxRecDepth 100000
open Go.RowKit

/-- A value that is a slice of bytes whose elements read as xs. -/
def Bs (w : World) (v : Value) (xs : List Int) : Prop :=
  (∀ x ∈ xs, 0 ≤ x ∧ x < 256) ∧ xs.length ≤ 9223372036854775807 ∧
  ((∃ a cap, v = .slice a 0 cap ∧ (a = none → cap = 0) ∧ xs = []) ∨
   ∃ b off cap, v = .slice (some ⟨b, off, none⟩) xs.length cap ∧ xs.length ≤ cap ∧ ∀ i, i < xs.length → w.cell? ⟨b, off + i, none⟩ = some (.int .u8 (xs.getD i 0)))
def stepS (p : Int × Int) (x : Int) : Int × Int := ((p.1 + x) % 251, (p.2 + (p.1 + x) % 251) % 251)
def sumP (xs : List Int) : Int × Int := xs.foldl stepS (1, 0)
def sumN (xs : List Int) : Int := 256 * (sumP xs).2 + (sumP xs).1
theorem sumP_bd (xs : List Int) : 0 ≤ (sumP xs).1 ∧ (sumP xs).1 < 251 ∧ 0 ≤ (sumP xs).2 ∧ (sumP xs).2 < 251 := by
  have key : ∀ (l : List Int) (p : Int × Int), (0 ≤ p.1 ∧ p.1 < 251 ∧ 0 ≤ p.2 ∧ p.2 < 251) →
      0 ≤ (l.foldl stepS p).1 ∧ (l.foldl stepS p).1 < 251 ∧ 0 ≤ (l.foldl stepS p).2 ∧ (l.foldl stepS p).2 < 251 := by
    intro l
    induction l with
    | nil => intro p h; exact h
    | cons x l ih => intro p h; exact ih _ ⟨by simp only [stepS]; omega, by simp only [stepS]; omega, by simp only [stepS]; omega, by simp only [stepS]; omega⟩
  exact key xs (1, 0) ⟨by decide, by decide, by decide, by decide⟩
theorem sumP_snoc (xs : List Int) (k : Nat) (h : k < xs.length) : sumP (xs.take (k + 1)) = stepS (sumP (xs.take k)) (xs.getD k 0) := by
  unfold sumP
  rw [List.take_succ_eq_append_getElem h, List.foldl_append]
  simp [List.getD, h]
theorem Bs_at {w : World} {xs : List Int} {b off : Nat} (hx : ∀ x ∈ xs, 0 ≤ x ∧ x < 256) (hc : ∀ i, i < xs.length → w.cell? ⟨b, off + i, none⟩ = some (.int .u8 (xs.getD i 0))) (k : Nat) (h : k < xs.length) :
    ∃ c : Int, Hid (xs.getD k 0 = c) ∧ 0 ≤ c ∧ c < 256 ∧ w.cell? ⟨b, off + k, none⟩ = some (.int .u8 c) := by
  have e : xs.getD k 0 = xs[k] := by simp [List.getD, h]
  have := hx xs[k] (List.getElem_mem h)
  exact ⟨xs[k], e, this.1, this.2, by rw [hc k h, e]⟩
set_option maxHeartbeats 400000 in
theorem sum_any (v : Value) (xs : List Int) (w : World) (hv : Bs w v xs) :
    Calls Tryz.prog 85 #[v] w fun e w' => e = .returned (.int .i64 (sumN xs)) ∧ w = w' := by
  obtain ⟨hx, hl, ⟨a, cap, rfl, -, rfl⟩ | ⟨b, off, cap, rfl, hcap, hc⟩⟩ := hv
  · go_enter Tryz.func85, Tryz.ntmps85
    go_wp2
    go_loop [3, 4, 6, 9] (fun p q _ i => p = .int .i64 1 ∧ q = .int .i64 0 ∧ i = .int .i64 0) (fun _ _ _ _ => 0)
    case atStart => exact ⟨rfl, rfl, rfl⟩
    case round =>
      obtain ⟨rfl, rfl, rfl⟩ := hrel
      go_wp2
      go_ret
      exact ⟨rfl, rfl⟩
  · go_enter Tryz.func85, Tryz.ntmps85
    go_wp2
    go_loop [3, 4, 6, 9] (fun p q _ i => ∃ k : Nat, k ≤ xs.length ∧ i = .int .i64 k ∧ p = .int .i64 (sumP (xs.take k)).1 ∧ q = .int .i64 (sumP (xs.take k)).2) (fun _ _ _ i => xs.length - (intOf i).toNat)
    case atStart => exact ⟨0, Nat.zero_le _, rfl, rfl, rfl⟩
    case round =>
      obtain ⟨k, hk, rfl, rfl, rfl⟩ := hrel
      obtain ⟨h1, h2, h3, h4⟩ := sumP_bd (xs.take k)
      by_cases hlt : k < xs.length
      · obtain ⟨c, hg, b1, b2, hck⟩ := Bs_at hx hc k hlt
        have hs := Lib.hid (sumP_snoc xs k hlt)
        clear hx hc
        go_wp2
        go_round
        case rel => exact ⟨k + 1, by omega, by go_num, by rw [hs.out, hg.out]; rfl, by rw [hs.out, hg.out]; rfl⟩
        case measure => simp [intOf]; omega
      · obtain rfl : k = xs.length := by omega
        rw [List.take_length] at h1 h2 h3 h4
        go_wp2
        go_ret
        exact ⟨rfl, rfl⟩
end Go.Proofs.YthnajpckhoomgaaGreat
namespace Go.Proofs.YthnajpckhoomgaaGreat
set_option maxRecDepth 100000
open Go.RowKit

/-- 256 to the n. -/
def pow256 : Nat → Int
  | 0 => 1
  | n + 1 => 256 * pow256 n
theorem pow256_pos (n : Nat) : 1 ≤ pow256 n := by
  induction n with
  | zero => decide
  | succ n ih => simp only [pow256]; omega
theorem pow256_le {n m : Nat} (h : n ≤ m) : pow256 n ≤ pow256 m := by
  induction m with
  | zero => obtain rfl : n = 0 := by omega
            exact Int.le_refl _
  | succ m ih =>
    rcases Nat.lt_or_ge m n with h' | h'
    · obtain rfl : n = m + 1 := by omega
      exact Int.le_refl _
    · have := ih h'; have := pow256_pos m; simp only [pow256]; omega
theorem pow256_seven : pow256 7 = 72057594037927936 := by decide
theorem pow256_small {n : Nat} (h : n ≤ 7) : pow256 n ≤ 72057594037927936 := by
  have := pow256_le h; rw [pow256_seven] at this; exact this
/-- Bytes as a number, the highest first. -/
def be (xs : List Int) : Int := xs.foldl (fun a x => 256 * a + x) 0
end Go.Proofs.YthnajpckhoomgaaGreat
namespace Go.Proofs.YthnajpckhoomgaaGreat
set_option maxRecDepth 100000

/-- What is known of a value in a world. -/
def Ty := Value → World → Prop
section
variable (P : Program) (ops : Array Oper) (C : World → Prop) (X : World → World → Prop) (a0 : Act)

/-- A slot's value fits what is known: of a slot that the region writes, its type; of another one, what it held at first. -/
def Fits (E : Tmp → Option Ty) (a : Act) (w : World) (t : Tmp) : Prop :=
  match E t with
  | some V => V (a.eval (.tmp t)) w
  | none => a.eval (.tmp t) = a0.eval (.tmp t)
def Tame (V : Ty) (w : World) : Result Next → Prop
  | .ok (.value v) w' => C w' ∧ X w w' ∧ V v w'
  | .ok .skip w' => C w' ∧ X w w' ∧ V undef w'
  | .ok (.enter f args) w' => w' = w ∧ Calls P f args w (fun e w'' => ∃ v, e = .returned v ∧ C w'' ∧ X w w'' ∧ V v w'')
  | _ => False
def StepT (E : Tmp → Option Ty) (o : Oper) (V : Ty) : Prop :=
  ∀ (a : Act) (w : World), C w → (∀ t ∈ o.looksAt ops, Fits a0 E a w t) →
    if Region.wanted o (yielded ops a.tmps) then Tame P C X V w ((execOp a.eval o).run P w) else V undef w
def Keeps (V : Ty) : Prop := ∀ v w w', V v w → X w w' → V v w'
def push (o : Oper) (V : Ty) (E : Tmp → Option Ty) : Tmp → Option Ty := fun t => if o.dst = some t then some V else E t
def WalkT : List Oper → (Tmp → Option Ty) → ((Tmp → Option Ty) → Prop) → Prop
  | [], E, K => K E
  | o :: rest, E, K => ∃ V, Keeps X V ∧ StepT P ops C X a0 E o V ∧ WalkT rest (push o V E) K
def envs : List Oper → List Ty → (Tmp → Option Ty) → (Tmp → Option Ty)
  | o :: l, V :: Vs, E => envs l Vs (push o V E)
  | _, _, E => E
theorem envs_none {t : Tmp} : ∀ (l : List Oper) (Vs : List Ty) (E : Tmp → Option Ty), (∀ o ∈ l, o.dst ≠ some t) → envs l Vs E t = E t
  | [], _, _, _ => by simp [envs]
  | o :: l, [], _, _ => by simp [envs]
  | o :: l, V :: Vs, E, h => by
    rw [envs, envs_none l Vs _ (fun o' h' => h o' (List.mem_cons_of_mem _ h')), push, if_neg (h o List.mem_cons_self)]
theorem envs_some {t : Tmp} {o : Oper} {V : Ty} (ht : o.dst = some t) : ∀ (l : List Oper) (Vs : List Ty) (E : Tmp → Option Ty) (j : Nat),
    l[j]? = some o → Vs[j]? = some V → (∀ k o', j < k → l[k]? = some o' → o'.dst ≠ some t) → envs l Vs E t = some V
  | [], _, _, j, h, _, _ => by simp at h
  | _ :: _, [], _, j, _, h, _ => by simp at h
  | o1 :: l, V1 :: Vs, E, 0, h1, h2, h3 => by
    simp at h1 h2
    subst h1 h2
    rw [envs, envs_none l Vs _ (fun o' h' => by
      obtain ⟨k, hk⟩ := List.mem_iff_getElem?.1 h'
      exact h3 (k + 1) o' (by omega) (by simpa using hk)), push, if_pos ht]
  | o1 :: l, V1 :: Vs, E, j + 1, h1, h2, h3 => by
    rw [envs]
    exact envs_some ht l Vs _ j (by simpa using h1) (by simpa using h2) (fun k o' hk ho => h3 (k + 1) o' (by omega) (by simpa using ho))
theorem walk_ex {K : (Tmp → Option Ty) → Prop} : ∀ (l : List Oper) (E : Tmp → Option Ty), WalkT P ops C X a0 l E K →
    ∃ Vs : List Ty, Vs.length = l.length ∧ (∀ i o V, l[i]? = some o → Vs[i]? = some V → Keeps X V ∧ StepT P ops C X a0 (envs (l.take i) (Vs.take i) E) o V) ∧ K (envs l Vs E)
  | [], E, h => ⟨[], rfl, fun i o V h1 => by simp at h1, by simpa [envs, WalkT] using h⟩
  | o :: l, E, h => by
    obtain ⟨V, hk, hs, hw⟩ := h
    obtain ⟨Vs, hl, ha, hK⟩ := walk_ex l _ hw
    refine ⟨V :: Vs, by simp [hl], fun i o' V' h1 h2 => ?_, by rw [envs]; exact hK⟩
    cases i with
    | zero =>
      simp at h1 h2
      subst h1 h2
      exact ⟨hk, by simpa [envs] using hs⟩
    | succ i =>
      have := ha i o' V' (by simpa using h1) (by simpa using h2)
      rw [List.take_succ_cons, List.take_succ_cons, envs]
      exact this
/-- Each slot that the region writes is written once, and read behind what writes it alone. -/
def okB (md : Region.Mode) (l : List Oper) (n : Nat) : Bool :=
  (List.range l.length).all fun i => match l[i]? with
    | none => true
    | some o =>
      (match o.dst with | some d => decide (d < n) | none => true) && (o.after.all fun e => !Region.binds md e || decide (e.on < i)) &&
      (List.range l.length).all fun j => match l[j]? with
        | none => true
        | some o' => match o'.dst with
          | none => true
          | some t => (decide (i = j) || !(o.dst == some t)) && (!(o.looksAt l.toArray).contains t || (decide (j < i) && o.after.any fun e => Region.binds md e && e.on == j))
theorem okB_spec {md : Region.Mode} {l : List Oper} {n : Nat} (h : okB md l n = true) :
    (∀ (i : Nat) (o : Oper) (d : Tmp), l[i]? = some o → o.dst = some d → d < n) ∧
    (∀ (i j : Nat) (o o' : Oper) (t : Tmp), l[i]? = some o → l[j]? = some o' → o.dst = some t → o'.dst = some t → i = j) ∧
    (∀ (i j : Nat) (o o' : Oper) (t : Tmp), l[i]? = some o → l[j]? = some o' → o'.dst = some t → t ∈ o.looksAt l.toArray → j < i ∧ ∃ e ∈ o.after, Region.binds md e = true ∧ e.on = j) ∧
    (∀ (i : Nat) (o : Oper), l[i]? = some o → ∀ e ∈ o.after, Region.binds md e = true → e.on < i) := by
  unfold okB at h
  rw [List.all_eq_true] at h
  have lt : ∀ {i : Nat} {o : Oper}, l[i]? = some o → i < l.length := fun h => (List.getElem?_eq_some_iff.1 h).1
  refine ⟨fun i o d hi hd => ?_, fun i j o o' t hi hj h1 h2 => ?_, fun i j o o' t hi hj h2 h3 => ?_, fun i o hi e he hb => ?_⟩
  · have := h i (List.mem_range.2 (lt hi))
    simp only [hi, hd, Bool.and_eq_true, decide_eq_true_eq] at this
    exact this.1.1
  · have := h i (List.mem_range.2 (lt hi))
    simp only [hi, Bool.and_eq_true] at this
    have := (List.all_eq_true.1 this.2) j (List.mem_range.2 (lt hj))
    simp only [hj, h2, h1, Bool.and_eq_true, Bool.or_eq_true, decide_eq_true_eq] at this
    rcases this.1 with h | h
    · exact h
    · simp at h
  · have := h i (List.mem_range.2 (lt hi))
    simp only [hi, Bool.and_eq_true] at this
    have := (List.all_eq_true.1 this.2) j (List.mem_range.2 (lt hj))
    simp only [hj, h2, Bool.and_eq_true, Bool.or_eq_true, decide_eq_true_eq] at this
    rcases this.2 with h | ⟨h, hh⟩
    · simp [h3] at h
    · refine ⟨h, ?_⟩
      obtain ⟨e, he, hb⟩ := Array.any_eq_true'.1 hh
      simp only [Bool.and_eq_true, beq_iff_eq] at hb
      exact ⟨e, he, hb.1, hb.2⟩
  · have := h i (List.mem_range.2 (lt hi))
    simp only [hi, Bool.and_eq_true] at this
    have := (Array.all_eq_true'.1 this.1.2) e he
    simpa [hb] using this
/-- What holds while the operations of 'listed' have come up. -/
def Inv (l : List Oper) (Vs : List Ty) (n : Nat) (listed : Array Bool) (a : Act) (w : World) : Prop :=
  C w ∧ a.tmps.size = n ∧ a.defers = a0.defers ∧
  (∀ (i : Nat) (o : Oper) (V : Ty) (t : Tmp), l[i]? = some o → Vs[i]? = some V → o.dst = some t → listed.getD i true = true → V (a.eval (.tmp t)) w) ∧
  (∀ t, (∀ (i : Nat) (o : Oper), l[i]? = some o → o.dst = some t → listed.getD i true = false) → a.eval (.tmp t) = a0.eval (.tmp t))
theorem eval_put_same {a : Act} {d : Tmp} {v : Value} (h : d < a.tmps.size) : (a.put (some d) v).eval (.tmp d) = v := by
  simp [Act.eval, Act.put, h]
variable {P ops C X a0}
theorem inv_put {md : Region.Mode} {l : List Oper} {Vs : List Ty} {n : Nat} (hok : okB md l n = true) (hk : ∀ (i : Nat) V, Vs[i]? = some V → Keeps X V) {listed : Array Bool} (hls : listed.size = l.length) {a : Act} {w w' : World} (h : Inv C a0 l Vs n listed a w)
    {i : Nat} {o : Oper} {V : Ty} {v : Value} (ho : l[i]? = some o) (hV : Vs[i]? = some V) (hC : C w') (hX : X w w') (hv : V v w') : Inv C a0 l Vs n (listed.setIfInBounds i true) (a.put o.dst v) w' := by
  obtain ⟨h1, h2, h3, h4, h5⟩ := h
  obtain ⟨k1, k2, _, _⟩ := okB_spec hok
  have hil : i < l.length := (List.getElem?_eq_some_iff.1 ho).1
  refine ⟨hC, by cases o.dst <;> simp [Act.put, h2], by cases o.dst <;> simp [Act.put, h3], fun j o' V' t hj hV' ht hl => ?_, fun t ht => ?_⟩
  · by_cases hij : i = j
    · subst hij
      rw [ho] at hj; cases hj
      rw [hV] at hV'; cases hV'
      rw [ht, eval_put_same (by rw [h2]; exact k1 i o t ho ht)]
      exact hv
    · rw [Act.eval_put (fun d hd hx => hij (k2 i j o o' t ho hj (by cases hx; exact hd) ht))]
      rw [getD_set_ne true hij] at hl
      exact hk j V' hV' _ _ _ (h4 j o' V' t hj hV' ht hl) hX
  · rw [Act.eval_put (fun d hd hx => by
      cases hx
      have := ht i o ho hd
      simp [hls, hil] at this)]
    refine h5 t fun j o' hj hd => ?_
    by_cases hij : i = j
    · subst hij
      have := ht i o' hj hd
      simp [hls, hil] at this
    · have := ht j o' hj hd
      rwa [getD_set_ne true hij] at this
theorem count_set : ∀ (l : List Bool) (i : Nat), l[i]? = some false → (l.set i true).count false + 1 = l.count false
  | [], i, h => by simp at h
  | b :: l, 0, h => by simp at h; subst h; simp
  | b :: l, i + 1, h => by
    have := count_set l i (by simpa using h)
    rw [List.set_cons_succ, List.count_cons, List.count_cons]
    omega
theorem getD_get {listed : Array Bool} {i : Nat} (h : listed.getD i true = false) : listed.toList[i]? = some false := by
  rcases Nat.lt_or_ge i listed.size with h' | h'
  · simp [h'] at h
    simp [h', h]
  · simp [Array.getElem?_eq_none h'] at h
theorem least (listed : Array Bool) (h : 0 < listed.toList.count false) : ∃ i, (i < listed.size ∧ listed.getD i true = false) ∧ ∀ j, j < i → listed.getD j true = true := by
  have hm : false ∈ listed.toList := List.count_pos_iff.1 h
  obtain ⟨k, hk⟩ := List.mem_iff_getElem?.1 hm
  have hkl : k < listed.size := by have := (List.getElem?_eq_some_iff.1 hk).1; simpa using this
  have hk' : listed.getD k true = false := by
    have : listed[k]? = some false := by simpa using hk
    simp [this]
  have key : ∀ n, (∃ i, i ≤ n ∧ listed.getD i true = false) → ∃ i, listed.getD i true = false ∧ ∀ j, j < i → listed.getD j true = true := by
    intro n
    induction n with
    | zero => rintro ⟨i, hi, h⟩; obtain rfl : i = 0 := by omega
              exact ⟨0, h, fun j hj => by omega⟩
    | succ n ih =>
      rintro ⟨i, hi, h⟩
      by_cases hex : ∃ i, i ≤ n ∧ listed.getD i true = false
      · exact ih hex
      · refine ⟨i, h, fun j hj => ?_⟩
        cases hb : listed.getD j true with
        | true => rfl
        | false => exact absurd ⟨j, by omega, hb⟩ hex
  obtain ⟨i, hi, hmin⟩ := key k ⟨k, Nat.le_refl _, hk'⟩
  refine ⟨i, ⟨?_, hi⟩, hmin⟩
  rcases Nat.lt_or_ge i listed.size with h' | h'
  · exact h'
  · simp [Array.getElem?_eq_none h'] at hi
theorem wpAny_typed {md : Region.Mode} {l : List Oper} {Vs : List Ty} {n : Nat} {Q : Exit → Act → World → Prop} (hok : okB md l n = true) (hlen : Vs.length = l.length) (hrefl : ∀ w, X w w)
    (hall : ∀ (i : Nat) (o : Oper) (V : Ty), l[i]? = some o → Vs[i]? = some V → Keeps X V ∧ StepT P l.toArray C X a0 (envs (l.take i) (Vs.take i) fun _ => none) o V)
    (hQ : ∀ (listed : Array Bool) (a : Act) (w : World), listed.toList.count false = 0 → listed.size = l.length → Inv C a0 l Vs n listed a w → Q .normal a w) :
    ∀ (fuel : Nat) (listed : Array Bool) (a : Act) (w : World), listed.size = l.length → listed.toList.count false = fuel → Inv C a0 l Vs n listed a w → wpAny P md l.toArray Q fuel listed a w := by
  have hk : ∀ (i : Nat) V, Vs[i]? = some V → Keeps X V := fun i V hV => by
    have hi : i < l.length := by have := (List.getElem?_eq_some_iff.1 hV).1; omega
    exact (hall i l[i] V (List.getElem?_eq_getElem hi) hV).1
  have hnone : ∀ (listed : Array Bool), listed.toList.count false = 0 → Region.ready md l.toArray listed = [] := fun listed h0 => by
    rw [List.eq_nil_iff_forall_not_mem]
    intro j hj
    have := getD_get (mem_ready.1 hj).1
    have hm : false ∈ listed.toList := List.mem_of_getElem? this
    have := List.count_pos_iff.2 hm
    omega
  intro fuel
  induction fuel with
  | zero => intro listed a w hs h0 hI; exact ⟨hnone listed h0, hQ listed a w h0 hs hI⟩
  | succ fuel ih =>
    intro listed a w hs hf hI
    have hmem : ∀ i ∈ Region.ready md l.toArray listed, wpOp P l.toArray Q i (wpAny P md l.toArray Q fuel (listed.setIfInBounds i true)) a w := by
      intro i hi
      obtain ⟨hun, o, ho, hafter⟩ := mem_ready.1 hi
      have ho' : l[i]? = some o := by simpa using ho
      have hil : i < l.length := (List.getElem?_eq_some_iff.1 ho').1
      obtain ⟨V, hV⟩ : ∃ V, Vs[i]? = some V := ⟨Vs[i]'(by omega), List.getElem?_eq_getElem (by omega)⟩
      obtain ⟨_, hstep⟩ := hall i o V ho' hV
      obtain ⟨k1, k2, k3, _⟩ := okB_spec hok
      have hcnt : (listed.setIfInBounds i true).toList.count false = fuel := by
        have := count_set listed.toList i (getD_get hun)
        rw [Array.toList_setIfInBounds]
        omega
      have hnext : ∀ (v : Value) (w' : World), C w' → X w w' → V v w' → wpAny P md l.toArray Q fuel (listed.setIfInBounds i true) (a.put o.dst v) w' := fun v w' h1 h2 h3 =>
        ih _ _ _ (by simpa using hs) hcnt (inv_put hok hk hs hI ho' hV h1 h2 h3)
      have hfits : ∀ t ∈ o.looksAt l.toArray, Fits a0 (envs (l.take i) (Vs.take i) fun _ => none) a w t := by
        intro t ht
        unfold Fits
        by_cases hex : ∃ (j : Nat) (o' : Oper), l[j]? = some o' ∧ o'.dst = some t
        · obtain ⟨j, o', hj, hd⟩ := hex
          obtain ⟨hji, e, he, hb, hon⟩ := k3 i j o o' t ho' hj hd ht
          have hjl : j < Vs.length := by omega
          have hVj : Vs[j]? = some Vs[j] := List.getElem?_eq_getElem hjl
          have henv := envs_some (V := Vs[j]) hd (l.take i) (Vs.take i) (fun _ => none) j (by rw [List.getElem?_take, if_pos hji]; exact hj) (by rw [List.getElem?_take, if_pos hji]; exact hVj) (fun k o'' hjk hk' hd' => by
            have hk2 : l[k]? = some o'' := by
              rw [List.getElem?_take] at hk'
              split at hk'
              · exact hk'
              · cases hk'
            have := k2 j k o' o'' t hj hk2 hd hd'
            omega)
          rw [henv]
          have hl := hafter e he hb
          rw [hon] at hl
          have hl' : listed.getD j true = true := by
            have hjs : j < listed.size := by rw [hs]; omega
            simp [hjs] at hl ⊢
            exact hl
          exact hI.2.2.2.1 j o' Vs[j] t hj hVj hd hl'
        · have henv := envs_none (t := t) (l.take i) (Vs.take i) (fun _ => none) (fun o' ho' hd => by
            obtain ⟨k, hk'⟩ := List.mem_iff_getElem?.1 ho'
            rw [List.getElem?_take] at hk'
            split at hk'
            · exact hex ⟨k, o', hk', hd⟩
            · cases hk')
          rw [henv]
          exact hI.2.2.2.2 t fun j o' hj hd => absurd ⟨j, o', hj, hd⟩ hex
      have hs2 := hstep a w hI.1 hfits
      unfold wpOp
      simp only [ho]
      by_cases hw : Region.wanted o (yielded l.toArray a.tmps) = true
      · rw [if_pos hw] at hs2
        simp only [hw, if_true]
        left
        unfold Oper.wp
        generalize (execOp a.eval o).run P w = r at *
        cases r with
        | ok nx w' =>
          cases nx <;> simp only [Tame] at hs2 <;> simp only [Oper.upon]
          case value v => exact hnext v w' hs2.1 hs2.2.1 hs2.2.2
          case skip => exact hnext undef w' hs2.1 hs2.2.1 hs2.2.2
          case enter f args =>
            obtain ⟨rfl, hc⟩ := hs2
            exact hc.mono fun e w'' ⟨v, he, h1, h2, h3⟩ => by subst he; exact hnext v w'' h1 h2 h3
        | halt x w' => simp only [Tame] at hs2
      · rw [if_neg hw] at hs2
        simp only [hw]
        exact hnext undef w hI.1 (hrefl w) hs2
    refine ⟨fun hr => ?_, hmem⟩
    obtain ⟨i, hi, hmin⟩ := least listed (by omega)
    have hil : i < l.length := by rw [← hs]; exact hi.1
    refine absurd (mem_ready.2 ⟨hi.2, l[i], by simp [hil], fun e he hb => ?_⟩ : i ∈ Region.ready md l.toArray listed) (by rw [hr]; simp)
    have hlt := (okB_spec hok).2.2.2 i l[i] (List.getElem?_eq_getElem hil) e he hb
    have hes : e.on < listed.size := by omega
    have := hmin e.on hlt
    simp [hes] at this ⊢
    exact this
/-- **THE REGION.** -/
theorem wp_region_typed {id n : Nat} {l : List Oper} {Q : Exit → Act → World → Prop} {w : World} (hm : P.follows .mixedOrders = true) (hok : okB .any l n = true) (hn : a0.tmps.size = n)
    (hrefl : ∀ w, X w w) (hC : C { w with drawn := w.drawn + 1 })
    (h : WalkT P l.toArray C X a0 l (fun _ => none) fun E => ∀ (a : Act) (w' : World), C w' → a.tmps.size = n → a.defers = a0.defers → (∀ t, Fits a0 E a w' t) → Q .normal a w') :
    (Code.region id l.toArray true).wp P Q a0 w := by
  obtain ⟨Vs, hlen, hall, hK⟩ := walk_ex P l.toArray C X a0 l _ h
  refine wp_region_any hm ?_
  have hsz : (Array.replicate l.toArray.size false).size = l.length := by simp
  refine wpAny_typed (Vs := Vs) (n := n) hok hlen hrefl hall ?_ _ _ _ _ hsz (by simp) ⟨hC, hn, rfl, fun i o V t ho hV ht hl => ?_, fun t _ => rfl⟩
  · intro listed a w' h0 hs hI
    have hall1 : ∀ j, listed.getD j true = true := fun j => by
      cases hb : listed.getD j true with
      | true => rfl
      | false =>
        have hm : false ∈ listed.toList := List.mem_of_getElem? (getD_get hb)
        have := List.count_pos_iff.2 hm
        omega
    refine hK a w' hI.1 hI.2.1 hI.2.2.1 fun t => ?_
    unfold Fits
    by_cases hex : ∃ (j : Nat) (o' : Oper), l[j]? = some o' ∧ o'.dst = some t
    · obtain ⟨j, o', hj, hd⟩ := hex
      have hjl : j < Vs.length := by have := (List.getElem?_eq_some_iff.1 hj).1; omega
      have hVj : Vs[j]? = some Vs[j] := List.getElem?_eq_getElem hjl
      rw [envs_some (V := Vs[j]) hd l Vs (fun _ => none) j hj hVj (fun k o'' hjk hk' hd' => by
        have := (okB_spec hok).2.1 j k o' o'' t hj hk' hd hd'
        omega)]
      exact hI.2.2.2.1 j o' Vs[j] t hj hVj hd (hall1 j)
    · rw [envs_none (t := t) l Vs (fun _ => none) (fun o' ho' hd => by
        obtain ⟨k, hk'⟩ := List.mem_iff_getElem?.1 ho'
        exact hex ⟨k, o', hk', hd⟩)]
      exact hI.2.2.2.2 t fun j o' hj hd => absurd ⟨j, o', hj, hd⟩ hex
  · have hi : i < l.length := (List.getElem?_eq_some_iff.1 ho).1
    simp [hi] at hl
def Is (c : Value) : Ty := fun v _ => v = c
def Fit (E : Tmp → Option Ty) (a0 : Act) (ρ : Operand → Value) (w : World) (t : Tmp) : Prop :=
  match E t with
  | some V => V (ρ (.tmp t)) w
  | none => ρ (.tmp t) = a0.eval (.tmp t)
/-- Nothing guards it, or what guards it yields just that. -/
def Known (E : Tmp → Option Ty) (a0 : Act) (d : Tmp) (c : Value) : Prop := ∀ (a : Act) (w : World), Fits a0 E a w d → a.eval (.tmp d) = c
theorem known_is {E : Tmp → Option Ty} {d : Tmp} {c : Value} (h : E d = some (Is c)) : Known E a0 d c := fun a w hf => by
  unfold Fits at hf; rw [h] at hf; exact hf
def Wanted (ops : Array Oper) (a0 : Act) (E : Tmp → Option Ty) (o : Oper) : Prop :=
  o.guard = none ∨ ∃ g d want, o.guard = some (g, want) ∧ (ops[g]?).bind (·.dst) = some d ∧ Known E a0 d (.bool want)
theorem Wanted.on {E : Tmp → Option Ty} {o : Oper} (h : Wanted ops a0 E o) {a : Act} {w : World} (hf : ∀ t ∈ o.looksAt ops, Fits a0 E a w t) : Region.wanted o (yielded ops a.tmps) = true := by
  rcases h with h | ⟨g, d, want, h1, h2, h3⟩
  · simp [Region.wanted, h]
  · have hv := h3 a w (hf d (by simp [Oper.looksAt, h1, h2]))
    have hy : yielded ops a.tmps g = some want := by
      unfold yielded
      rw [h2]
      simp only [Act.eval] at hv
      rcases Nat.lt_or_ge d a.tmps.size with h | h
      · simp [h] at hv
        simp [h, hv]
      · simp [Array.getElem?_eq_none h, undef] at hv
    simp [Region.wanted, h1, hy]
theorem w_is {o : Oper} {rest : List Oper} {E : Tmp → Option Ty} {K : (Tmp → Option Ty) → Prop} (hrefl : ∀ w, X w w) (c : Value) (G : Wanted ops a0 E o)
    (h : ∀ (ρ : Operand → Value) (w : World), C w → (∀ c, ρ (.const c) = c) → (∀ f, ρ (.func f) = .func (.func f) #[] #[]) → (∀ t ∈ o.looksAt ops, Fit E a0 ρ w t) → (execOp ρ o).run P w = .ok (.value c) w)
    (hw : WalkT P ops C X a0 rest (push o (Is c) E) K) : WalkT P ops C X a0 (o :: rest) E K :=
  ⟨Is c, fun _ _ _ h _ => h, fun a w hC hf => by
    rw [if_pos (G.on hf), h a.eval w hC (fun _ => rfl) (fun _ => rfl) hf]
    exact ⟨hC, hrefl w, rfl⟩, hw⟩
/-- A call. -/
theorem w_call {o : Oper} {rest : List Oper} {E : Tmp → Option Ty} {K : (Tmp → Option Ty) → Prop} (V : Ty) (hV : Keeps X V) (f : FuncId) (G : Wanted ops a0 E o)
    (h : ∀ (ρ : Operand → Value) (w : World), C w → (∀ c, ρ (.const c) = c) → (∀ f, ρ (.func f) = .func (.func f) #[] #[]) → (∀ t ∈ o.looksAt ops, Fit E a0 ρ w t) →
      ∃ args, (execOp ρ o).run P w = .ok (.enter f args) w ∧ Calls P f args w (fun e w' => ∃ v, e = .returned v ∧ C w' ∧ X w w' ∧ V v w'))
    (hw : WalkT P ops C X a0 rest (push o V E) K) : WalkT P ops C X a0 (o :: rest) E K :=
  ⟨V, hV, fun a w hC hf => by
    obtain ⟨args, h1, h2⟩ := h a.eval w hC (fun _ => rfl) (fun _ => rfl) hf
    rw [if_pos (G.on hf), h1]
    exact ⟨rfl, h2⟩, hw⟩
/-- What its guard shuts out. -/
theorem w_skip {o : Oper} {rest : List Oper} {E : Tmp → Option Ty} {K : (Tmp → Option Ty) → Prop} {g : Nat} {d : Tmp} {want : Bool} (h1 : o.guard = some (g, want)) (h2 : (ops[g]?).bind (·.dst) = some d) (h3 : Known E a0 d (.bool (!want)))
    (hw : WalkT P ops C X a0 rest (push o (Is undef) E) K) : WalkT P ops C X a0 (o :: rest) E K :=
  ⟨Is undef, fun _ _ _ h _ => h, fun a w hC hf => by
    have hv := h3 a w (hf d (by simp [Oper.looksAt, h1, h2]))
    have hy : yielded ops a.tmps g = some (!want) := by
      unfold yielded
      rw [h2]
      simp only [Act.eval] at hv
      rcases Nat.lt_or_ge d a.tmps.size with h | h
      · simp [h] at hv
        simp [h, hv]
      · simp [Array.getElem?_eq_none h, undef] at hv
    rw [if_neg (by simp [Region.wanted, h1, hy])]
    rfl, hw⟩
end
open RowKit in
/-- Contracts as such a walk asks for them. -/
theorem tc_same {P : Program} {f : FuncId} {args : Array Value} {W w : World} {v : Value} (hC : Below W.heap.size W w) (h : Calls P f args w fun e w' => e = .returned v ∧ w = w') :
    Calls P f args w fun e w' => ∃ u, e = .returned u ∧ Below W.heap.size W w' ∧ Below w.heap.size w w' ∧ Is v u w' :=
  h.mono fun _ _ ⟨he, hb⟩ => ⟨_, he, hb ▸ hC, hb ▸ Below.refl _ _, rfl⟩
open RowKit in
theorem tc_below {P : Program} {f : FuncId} {args : Array Value} {W w : World} {v : Value} (hC : Below W.heap.size W w) (h : Calls P f args w fun e w' => e = .returned v ∧ Below w.heap.size w w') :
    Calls P f args w fun e w' => ∃ u, e = .returned u ∧ Below W.heap.size W w' ∧ Below w.heap.size w w' ∧ Is v u w' :=
  h.mono fun _ _ ⟨he, hb⟩ => ⟨_, he, hC.trans (hb.mono hC.size), hb, rfl⟩
open RowKit in
/-- A frame by its slots. -/
theorem frame_eq {a : Act} {n : Nat} (h : a.tmps.size = n) : a = { a with tmps := ((List.range n).map fun i => a.eval (.tmp i)).toArray } := by
  obtain ⟨tmps, defers⟩ := a
  simp only [Act.mk.injEq, and_true] at *
  apply Array.ext
  · simpa using h
  · intro i h1 h2
    simp [Act.eval, h1]
end Go.Proofs.YthnajpckhoomgaaGreat
namespace Go.Proofs.YthnajpckhoomgaaGreat.T3
set_option maxRecDepth 100000

section
variable (P : Program) (ops : Array Oper) (C : World → Prop) (X : Nat → World → World → Prop) (a0 : Act)

/-- The slot that an operation's fact is on: the one that it writes; of a store, the one that holds the address. -/
def keyOf (o : Oper) : Option Tmp :=
  match o.dst with
  | some d => some d
  | none => match o.op with
    | .store _ (.tmp p) _ => some p
    | _ => none
def FactV (V : Ty) (o : Oper) (a : Act) (v : Value) (w : World) : Prop :=
  match o.dst with
  | some _ => V v w
  | none => match keyOf o with
    | some p => V (a.eval (.tmp p)) w
    | none => True
def Tame (k : Nat) (V : Ty) (o : Oper) (a : Act) (w : World) : Result Next → Prop
  | .ok (.value v) w' => C w' ∧ X k w w' ∧ FactV V o a v w'
  | .ok .skip w' => C w' ∧ X k w w' ∧ FactV V o a undef w'
  | .ok (.enter f args) w' => w' = w ∧ Calls P f args w (fun e w'' => ∃ v, e = .returned v ∧ C w'' ∧ X k w w'' ∧ FactV V o a v w'')
  | _ => False
def StepT (k : Nat) (E : Tmp → Option Ty) (o : Oper) (V : Ty) : Prop :=
  ∀ (a : Act) (w : World), C w → (∀ t ∈ o.looksAt ops, Fits a0 E a w t) →
    if Region.wanted o (yielded ops a.tmps) then Tame P C X k V o a w ((execOp a.eval o).run P w) else FactV V o a undef w
def Keeps (k : Nat) (V : Ty) : Prop := ∀ j, j ≠ k → ∀ v w w', V v w → X j w w' → V v w'
def pushF (o : Oper) (V : Ty) (F : List (Tmp × Ty)) : List (Tmp × Ty) :=
  match o.dst with
  | some _ => F
  | none => match keyOf o with
    | some p => (p, V) :: F
    | none => F
def WalkT : Nat → List Oper → (Tmp → Option Ty) → List (Tmp × Ty) → ((Tmp → Option Ty) → List (Tmp × Ty) → Prop) → Prop
  | _, [], E, F, K => K E F
  | k, o :: rest, E, F, K => ∃ V, Keeps X k V ∧ StepT P ops C X a0 k E o V ∧ WalkT (k + 1) rest (push o V E) (pushF o V F) K
def facts : List Oper → List Ty → List (Tmp × Ty) → List (Tmp × Ty)
  | o :: l, V :: Vs, F => facts l Vs (pushF o V F)
  | _, _, F => F
theorem mem_facts : ∀ (l : List Oper) (Vs : List Ty) (F : List (Tmp × Ty)) (x : Tmp × Ty), x ∈ facts l Vs F → x ∈ F ∨ ∃ (i : Nat) (o : Oper), l[i]? = some o ∧ Vs[i]? = some x.2 ∧ keyOf o = some x.1
  | [], _, _, x, h => .inl (by simpa [facts] using h)
  | _ :: _, [], _, x, h => .inl (by simpa [facts] using h)
  | o :: l, V :: Vs, F, x, h => by
    rw [facts] at h
    rcases mem_facts l Vs _ x h with h | ⟨i, o', h1, h2, h3⟩
    · unfold pushF at h
      split at h
      · exact .inl h
      · split at h
        · rename_i p hp
          rcases List.mem_cons.1 h with rfl | h
          · exact .inr ⟨0, o, by simp, by simp, hp⟩
          · exact .inl h
        · exact .inl h
    · exact .inr ⟨i + 1, o', by simpa using h1, by simpa using h2, h3⟩
theorem walk_ex {K : (Tmp → Option Ty) → List (Tmp × Ty) → Prop} : ∀ (k : Nat) (l : List Oper) (E : Tmp → Option Ty) (F : List (Tmp × Ty)), WalkT P ops C X a0 k l E F K →
    ∃ Vs : List Ty, Vs.length = l.length ∧ (∀ i o V, l[i]? = some o → Vs[i]? = some V → Keeps X (k + i) V ∧ StepT P ops C X a0 (k + i) (envs (l.take i) (Vs.take i) E) o V) ∧ K (envs l Vs E) (facts l Vs F)
  | k, [], E, F, h => ⟨[], rfl, fun i o V h1 => by simp at h1, by simpa [envs, facts, WalkT] using h⟩
  | k, o :: l, E, F, h => by
    obtain ⟨V, hk, hs, hw⟩ := h
    obtain ⟨Vs, hl, ha, hK⟩ := walk_ex (k + 1) l _ _ hw
    refine ⟨V :: Vs, by simp [hl], fun i o' V' h1 h2 => ?_, by rw [envs, facts]; exact hK⟩
    cases i with
    | zero =>
      simp at h1 h2
      subst h1 h2
      exact ⟨hk, by simpa [envs] using hs⟩
    | succ i =>
      have := ha i o' V' (by simpa using h1) (by simpa using h2)
      rw [List.take_succ_cons, List.take_succ_cons, envs]
      rw [show k + (i + 1) = k + 1 + i by omega]
      exact this
/-- Of a store, the slot of its address is one that it looks at. -/
def keyB (l : List Oper) : Bool := l.all fun o => match o.dst with
  | some _ => true
  | none => match keyOf o with
    | some p => (o.looksAt l.toArray).contains p
    | none => true
theorem keyB_spec {l : List Oper} (h : keyB l = true) {j : Nat} {o : Oper} {t : Tmp} (hj : l[j]? = some o) (hd : o.dst = none) (hk : keyOf o = some t) : t ∈ o.looksAt l.toArray := by
  have := List.all_eq_true.1 h o (List.mem_of_getElem? hj)
  simp only [hd, hk] at this
  simpa using this
/-- What holds while the operations of 'listed' have come up. -/
def Inv (md : Region.Mode) (l : List Oper) (Vs : List Ty) (n : Nat) (listed : Array Bool) (a : Act) (w : World) : Prop :=
  C w ∧ a.tmps.size = n ∧ a.defers = a0.defers ∧
  (∀ (i : Nat) (o : Oper) (V : Ty) (t : Tmp), l[i]? = some o → Vs[i]? = some V → keyOf o = some t → listed.getD i true = true → V (a.eval (.tmp t)) w) ∧
  (∀ t, (∀ (i : Nat) (o : Oper), l[i]? = some o → o.dst = some t → listed.getD i true = false) → a.eval (.tmp t) = a0.eval (.tmp t)) ∧
  (∀ (j : Nat) (o : Oper), l[j]? = some o → listed.getD j true = true → ∀ e ∈ o.after, Region.binds md e = true → listed.getD e.on true = true)
variable {P ops C X a0}
theorem key_dst {o : Oper} {t : Tmp} (h : o.dst = some t) : keyOf o = some t := by unfold keyOf; rw [h]
theorem inv_put {md : Region.Mode} {l : List Oper} {Vs : List Ty} {n : Nat} (hok : okB md l n = true) (hkey : keyB l = true) (hk : ∀ (i : Nat) V, Vs[i]? = some V → Keeps X i V) {listed : Array Bool} (hls : listed.size = l.length) {a : Act} {w w' : World} (h : Inv C a0 md l Vs n listed a w)
    {i : Nat} {o : Oper} {V : Ty} {v : Value} (ho : l[i]? = some o) (hun : listed.getD i true = false) (haf : ∀ e ∈ o.after, Region.binds md e = true → listed.getD e.on true = true) (hV : Vs[i]? = some V) (hC : C w') (hX : X i w w') (hv : FactV V o a v w') : Inv C a0 md l Vs n (listed.setIfInBounds i true) (a.put o.dst v) w' := by
  obtain ⟨h1, h2, h3, h4, h5, h6⟩ := h
  obtain ⟨k1, k2, k3, _⟩ := okB_spec hok
  have hil : i < l.length := (List.getElem?_eq_some_iff.1 ho).1
  refine ⟨hC, by cases o.dst <;> simp [Act.put, h2], by cases o.dst <;> simp [Act.put, h3], fun j o' V' t hj hV' ht hl => ?_, fun t ht => ?_, fun j o' hj hl e he hb => ?_⟩
  · by_cases hij : i = j
    · subst hij
      rw [ho] at hj; cases hj
      rw [hV] at hV'; cases hV'
      unfold FactV at hv
      cases hd : o.dst with
      | some d =>
        rw [hd] at hv
        rw [key_dst hd] at ht
        cases ht
        rw [eval_put_same (by rw [h2]; exact k1 i o _ ho hd)]
        exact hv
      | none =>
        simp only [hd, ht] at hv
        exact hv
    · have hl' : listed.getD j true = true := by rwa [getD_set_ne true hij] at hl
      have hne : ∀ d, o.dst = some d → d ≠ t := fun d hd hx => by
        subst hx
        cases hd' : o'.dst with
        | some d' =>
          rw [key_dst hd'] at ht
          cases ht
          exact hij (k2 i j o o' d ho hj hd hd')
        | none =>
          obtain ⟨_, e, he, hb, hon⟩ := k3 j i o' o d hj ho hd (keyB_spec hkey hj hd' ht)
          have := h6 j o' hj hl' e he hb
          rw [hon, hun] at this
          cases this
      rw [Act.eval_put (fun d hd hx => hne d hd (by cases hx; rfl))]
      exact hk j V' hV' i hij _ _ _ (h4 j o' V' t hj hV' ht hl') hX
  · rw [Act.eval_put (fun d hd hx => by
      cases hx
      have := ht i o ho hd
      simp [hls, hil] at this)]
    refine h5 t fun j o' hj hd => ?_
    by_cases hij : i = j
    · subst hij
      have := ht i o' hj hd
      simp [hls, hil] at this
    · have := ht j o' hj hd
      rwa [getD_set_ne true hij] at this
  · have hset : ∀ x, listed.getD x true = true → (listed.setIfInBounds i true).getD x true = true := fun x hx => by
      by_cases hix : i = x
      · subst hix; simp [hls, hil]
      · rw [getD_set_ne true hix]; exact hx
    by_cases hij : i = j
    · subst hij
      rw [ho] at hj; cases hj
      exact hset _ (haf e he hb)
    · rw [getD_set_ne true hij] at hl
      exact hset _ (h6 j o' hj hl e he hb)
theorem wpAny_typed {md : Region.Mode} {l : List Oper} {Vs : List Ty} {n : Nat} {Q : Exit → Act → World → Prop} (hok : okB md l n = true) (hkey : keyB l = true) (hlen : Vs.length = l.length) (hrefl : ∀ k w, X k w w)
    (hall : ∀ (i : Nat) (o : Oper) (V : Ty), l[i]? = some o → Vs[i]? = some V → Keeps X i V ∧ StepT P l.toArray C X a0 i (envs (l.take i) (Vs.take i) fun _ => none) o V)
    (hQ : ∀ (listed : Array Bool) (a : Act) (w : World), listed.toList.count false = 0 → listed.size = l.length → Inv C a0 md l Vs n listed a w → Q .normal a w) :
    ∀ (fuel : Nat) (listed : Array Bool) (a : Act) (w : World), listed.size = l.length → listed.toList.count false = fuel → Inv C a0 md l Vs n listed a w → wpAny P md l.toArray Q fuel listed a w := by
  have hk : ∀ (i : Nat) V, Vs[i]? = some V → Keeps X i V := fun i V hV => by
    have hi : i < l.length := by have := (List.getElem?_eq_some_iff.1 hV).1; omega
    exact (hall i l[i] V (List.getElem?_eq_getElem hi) hV).1
  have hnone : ∀ (listed : Array Bool), listed.toList.count false = 0 → Region.ready md l.toArray listed = [] := fun listed h0 => by
    rw [List.eq_nil_iff_forall_not_mem]
    intro j hj
    have := getD_get (mem_ready.1 hj).1
    have hm : false ∈ listed.toList := List.mem_of_getElem? this
    have := List.count_pos_iff.2 hm
    omega
  intro fuel
  induction fuel with
  | zero => intro listed a w hs h0 hI; exact ⟨hnone listed h0, hQ listed a w h0 hs hI⟩
  | succ fuel ih =>
    intro listed a w hs hf hI
    have hmem : ∀ i ∈ Region.ready md l.toArray listed, wpOp P l.toArray Q i (wpAny P md l.toArray Q fuel (listed.setIfInBounds i true)) a w := by
      intro i hi
      obtain ⟨hun, o, ho, hafter⟩ := mem_ready.1 hi
      have ho' : l[i]? = some o := by simpa using ho
      have hil : i < l.length := (List.getElem?_eq_some_iff.1 ho').1
      obtain ⟨V, hV⟩ : ∃ V, Vs[i]? = some V := ⟨Vs[i]'(by omega), List.getElem?_eq_getElem (by omega)⟩
      obtain ⟨_, hstep⟩ := hall i o V ho' hV
      obtain ⟨k1, k2, k3, _⟩ := okB_spec hok
      have hcnt : (listed.setIfInBounds i true).toList.count false = fuel := by
        have := count_set listed.toList i (getD_get hun)
        rw [Array.toList_setIfInBounds]
        omega
      have hafter' : ∀ e ∈ o.after, Region.binds md e = true → listed.getD e.on true = true := fun e he hb => by
        have h1 := hafter e he hb
        have hon := (okB_spec hok).2.2.2 i o ho' e he hb
        have hjs : e.on < listed.size := by rw [hs]; omega
        simp [hjs] at h1 ⊢
        exact h1
      have hnext : ∀ (v : Value) (w' : World), C w' → X i w w' → FactV V o a v w' → wpAny P md l.toArray Q fuel (listed.setIfInBounds i true) (a.put o.dst v) w' := fun v w' h1 h2 h3 =>
        ih _ _ _ (by simpa using hs) hcnt (inv_put hok hkey hk hs hI ho' hun hafter' hV h1 h2 h3)
      have hfits : ∀ t ∈ o.looksAt l.toArray, Fits a0 (envs (l.take i) (Vs.take i) fun _ => none) a w t := by
        intro t ht
        unfold Fits
        by_cases hex : ∃ (j : Nat) (o' : Oper), l[j]? = some o' ∧ o'.dst = some t
        · obtain ⟨j, o', hj, hd⟩ := hex
          obtain ⟨hji, e, he, hb, hon⟩ := k3 i j o o' t ho' hj hd ht
          have hjl : j < Vs.length := by omega
          have hVj : Vs[j]? = some Vs[j] := List.getElem?_eq_getElem hjl
          have henv := envs_some (V := Vs[j]) hd (l.take i) (Vs.take i) (fun _ => none) j (by rw [List.getElem?_take, if_pos hji]; exact hj) (by rw [List.getElem?_take, if_pos hji]; exact hVj) (fun k o'' hjk hk' hd' => by
            have hk2 : l[k]? = some o'' := by
              rw [List.getElem?_take] at hk'
              split at hk'
              · exact hk'
              · cases hk'
            have := k2 j k o' o'' t hj hk2 hd hd'
            omega)
          rw [henv]
          have hl := hafter e he hb
          rw [hon] at hl
          have hl' : listed.getD j true = true := by
            have hjs : j < listed.size := by rw [hs]; omega
            simp [hjs] at hl ⊢
            exact hl
          exact hI.2.2.2.1 j o' Vs[j] t hj hVj (key_dst hd) hl'
        · have henv := envs_none (t := t) (l.take i) (Vs.take i) (fun _ => none) (fun o' ho' hd => by
            obtain ⟨k, hk'⟩ := List.mem_iff_getElem?.1 ho'
            rw [List.getElem?_take] at hk'
            split at hk'
            · exact hex ⟨k, o', hk', hd⟩
            · cases hk')
          rw [henv]
          exact hI.2.2.2.2.1 t fun j o' hj hd => absurd ⟨j, o', hj, hd⟩ hex
      have hs2 := hstep a w hI.1 hfits
      unfold wpOp
      simp only [ho]
      by_cases hw : Region.wanted o (yielded l.toArray a.tmps) = true
      · rw [if_pos hw] at hs2
        simp only [hw, if_true]
        left
        unfold Oper.wp
        generalize (execOp a.eval o).run P w = r at *
        cases r with
        | ok nx w' =>
          cases nx <;> simp only [Tame] at hs2 <;> simp only [Oper.upon]
          case value v => exact hnext v w' hs2.1 hs2.2.1 hs2.2.2
          case skip => exact hnext undef w' hs2.1 hs2.2.1 hs2.2.2
          case enter f args =>
            obtain ⟨rfl, hc⟩ := hs2
            exact hc.mono fun e w'' ⟨v, he, h1, h2, h3⟩ => by subst he; exact hnext v w'' h1 h2 h3
        | halt x w' => simp only [Tame] at hs2
      · rw [if_neg hw] at hs2
        simp only [hw]
        exact hnext undef w hI.1 (hrefl i w) hs2
    refine ⟨fun hr => ?_, hmem⟩
    obtain ⟨i, hi, hmin⟩ := least listed (by omega)
    have hil : i < l.length := by rw [← hs]; exact hi.1
    refine absurd (mem_ready.2 ⟨hi.2, l[i], by simp [hil], fun e he hb => ?_⟩ : i ∈ Region.ready md l.toArray listed) (by rw [hr]; simp)
    have hlt := (okB_spec hok).2.2.2 i l[i] (List.getElem?_eq_getElem hil) e he hb
    have hes : e.on < listed.size := by omega
    have := hmin e.on hlt
    simp [hes] at this ⊢
    exact this
/-- **THE REGION.** -/
theorem wp_region_typed {id n : Nat} {l : List Oper} {Q : Exit → Act → World → Prop} {w : World} (hm : P.follows .mixedOrders = true) (hok : okB .any l n = true) (hkey : keyB l = true) (hn : a0.tmps.size = n)
    (hrefl : ∀ k w, X k w w) (hC : C { w with drawn := w.drawn + 1 })
    (h : WalkT P l.toArray C X a0 0 l (fun _ => none) [] fun E F => ∀ (a : Act) (w' : World), C w' → a.tmps.size = n → a.defers = a0.defers → (∀ t, Fits a0 E a w' t) → (∀ x ∈ F, x.2 (a.eval (.tmp x.1)) w') → Q .normal a w') :
    (Code.region id l.toArray true).wp P Q a0 w := by
  obtain ⟨Vs, hlen, hall, hK⟩ := walk_ex P l.toArray C X a0 0 l _ _ h
  refine wp_region_any hm ?_
  have hsz : (Array.replicate l.toArray.size false).size = l.length := by simp
  have hall' : ∀ (i : Nat) (o : Oper) (V : Ty), l[i]? = some o → Vs[i]? = some V → Keeps X i V ∧ StepT P l.toArray C X a0 i (envs (l.take i) (Vs.take i) fun _ => none) o V := fun i o V h1 h2 => by
    have := hall i o V h1 h2
    rwa [Nat.zero_add] at this
  refine wpAny_typed (Vs := Vs) (n := n) hok hkey hlen hrefl hall' ?_ _ _ _ _ hsz (by simp) ⟨hC, hn, rfl, fun i o V t ho hV ht hl => ?_, fun t _ => rfl, fun j o hj hl => ?_⟩
  · intro listed a w' h0 hs hI
    have hall1 : ∀ j, listed.getD j true = true := fun j => by
      cases hb : listed.getD j true with
      | true => rfl
      | false =>
        have hm : false ∈ listed.toList := List.mem_of_getElem? (getD_get hb)
        have := List.count_pos_iff.2 hm
        omega
    refine hK a w' hI.1 hI.2.1 hI.2.2.1 (fun t => ?_) (fun x hx => by
      rcases mem_facts l Vs [] x hx with h | ⟨i, o, h1, h2, h3⟩
      · cases h
      · exact hI.2.2.2.1 i o x.2 x.1 h1 h2 h3 (hall1 i))
    unfold Fits
    by_cases hex : ∃ (j : Nat) (o' : Oper), l[j]? = some o' ∧ o'.dst = some t
    · obtain ⟨j, o', hj, hd⟩ := hex
      have hjl : j < Vs.length := by have := (List.getElem?_eq_some_iff.1 hj).1; omega
      have hVj : Vs[j]? = some Vs[j] := List.getElem?_eq_getElem hjl
      rw [envs_some (V := Vs[j]) hd l Vs (fun _ => none) j hj hVj (fun k o'' hjk hk' hd' => by
        have := (okB_spec hok).2.1 j k o' o'' t hj hk' hd hd'
        omega)]
      exact hI.2.2.2.1 j o' Vs[j] t hj hVj (key_dst hd) (hall1 j)
    · rw [envs_none (t := t) l Vs (fun _ => none) (fun o' ho' hd => by
        obtain ⟨k, hk'⟩ := List.mem_iff_getElem?.1 ho'
        exact hex ⟨k, o', hk', hd⟩)]
      exact hI.2.2.2.2.1 t fun j o' hj hd => absurd ⟨j, o', hj, hd⟩ hex
  · have hi : i < l.length := (List.getElem?_eq_some_iff.1 ho).1
    simp [hi] at hl
  · have hi : j < l.length := (List.getElem?_eq_some_iff.1 hj).1
    simp [hi] at hl
theorem w_is {k : Nat} {o : Oper} {rest : List Oper} {E : Tmp → Option Ty} {F : List (Tmp × Ty)} {K : (Tmp → Option Ty) → List (Tmp × Ty) → Prop} (hrefl : ∀ k w, X k w w) {d : Tmp} (hd : o.dst = some d) (c : Value) (G : Wanted ops a0 E o)
    (h : ∀ (ρ : Operand → Value) (w : World), C w → (∀ c, ρ (.const c) = c) → (∀ f, ρ (.func f) = .func (.func f) #[] #[]) → (∀ t ∈ o.looksAt ops, Fit E a0 ρ w t) → (execOp ρ o).run P w = .ok (.value c) w)
    (hw : WalkT P ops C X a0 (k + 1) rest (push o (Is c) E) F K) : WalkT P ops C X a0 k (o :: rest) E F K :=
  ⟨Is c, fun _ _ _ _ _ h _ => h, fun a w hC hf => by
    rw [if_pos (G.on hf), h a.eval w hC (fun _ => rfl) (fun _ => rfl) hf]
    refine ⟨hC, hrefl k w, ?_⟩
    unfold FactV
    rw [hd]
    exact (rfl : c = c), by rwa [show pushF o (Is c) F = F by unfold pushF; rw [hd]]⟩
theorem w_call {k : Nat} {o : Oper} {rest : List Oper} {E : Tmp → Option Ty} {F : List (Tmp × Ty)} {K : (Tmp → Option Ty) → List (Tmp × Ty) → Prop} {d : Tmp} (hd : o.dst = some d) (V : Ty) (hV : Keeps X k V) (f : FuncId) (G : Wanted ops a0 E o)
    (h : ∀ (ρ : Operand → Value) (w : World), C w → (∀ c, ρ (.const c) = c) → (∀ f, ρ (.func f) = .func (.func f) #[] #[]) → (∀ t ∈ o.looksAt ops, Fit E a0 ρ w t) →
      ∃ args, (execOp ρ o).run P w = .ok (.enter f args) w ∧ Calls P f args w (fun e w' => ∃ v, e = .returned v ∧ C w' ∧ X k w w' ∧ V v w'))
    (hw : WalkT P ops C X a0 (k + 1) rest (push o V E) F K) : WalkT P ops C X a0 k (o :: rest) E F K :=
  ⟨V, hV, fun a w hC hf => by
    obtain ⟨args, h1, h2⟩ := h a.eval w hC (fun _ => rfl) (fun _ => rfl) hf
    rw [if_pos (G.on hf), h1]
    exact ⟨rfl, h2.mono fun e w' ⟨v, e1, e2, e3, e4⟩ => ⟨v, e1, e2, e3, by unfold FactV; rw [hd]; exact e4⟩⟩, by rwa [show pushF o V F = F by unfold pushF; rw [hd]]⟩
end
end Go.Proofs.YthnajpckhoomgaaGreat.T3
namespace Go.Proofs.YthnajpckhoomgaaGreat
set_option maxRecDepth 100000
open Go.RowKit Go.WideShapes Go.ChangeShapes

/-- A number of 64 bits. -/
def I64 (x : Int) : Prop := -9223372036854775808 ≤ x ∧ x < 9223372036854775808
theorem i64_wf {x : Int} (h : (Lit.int .i64 x).wf = true) : I64 x := by
  have := bounds_i64 h
  unfold I64
  omega
theorem cell_form {H : Type} {enc : TypeId × Value → H} {P : Program} {w : World} {base n : Nat} {spare : Nat → Bool} {held : Bool} {fs : Array Field} {cs : List Value} {xs : List (DataW H × List MemPlace)} (hl : xs.length = fs.size)
    (h : ∀ (i : Nat) (f : Field), fs[i]? = some f → DataW.trod enc P w base spare held n f.type ((cs.drop f.offset).take (P.cellsOf f.type)) = xs[i]?)
    {j T O : Nat} {v : Value} (hf : (fs[j]?).map (fun f => (f.type, f.offset)) = some (T, O)) (hc : P.cellsOf T = 1) (hv : cs[O]? = some v) : ∃ y, DataW.trod enc P w base spare held n T [v] = some y := by
  cases hg : fs[j]? with
  | none => rw [hg] at hf; cases hf
  | some f =>
    rw [hg] at hf
    simp only [Option.map_some, Option.some.injEq, Prod.mk.injEq] at hf
    have h1 := h j f hg
    rw [hf.1, hf.2, hc] at h1
    have hj : j < xs.length := by rw [hl]; exact (Array.getElem?_eq_some_iff.1 hg).1
    rw [List.getElem?_eq_getElem hj] at h1
    have hO : O < cs.length := (List.getElem?_eq_some_iff.1 hv).1
    rw [List.drop_eq_getElem_cons hO, List.take_succ_cons, List.take_zero, (List.getElem?_eq_some_iff.1 hv).2] at h1
    exact ⟨_, h1⟩
theorem int_cell {H : Type} {enc : TypeId × Value → H} {w : World} {base n : Nat} {spare : Nat → Bool} {held : Bool} {v : Value} (h : ∃ y, DataW.trod enc Tryz.prog w base spare held n 3 [v] = some y) : ∃ x, v = .int .i64 x ∧ I64 x := by
  obtain ⟨y, hy⟩ := h
  obtain ⟨x, hx, _, hw⟩ := DataW.trod_int Tryz.underlying3 hy
  simp only [List.cons.injEq, and_true] at hx
  exact ⟨x, hx, i64_wf hw⟩
end Go.Proofs.YthnajpckhoomgaaGreat
namespace Go.Proofs.YthnajpckhoomgaaGreat
set_option maxRecDepth 100000
open Go.RowKit

/-- What the reference's loop holds after k rounds: the echoes, whether the new one stands. -/
def wkF (ys : List (Int × Int)) (id ep : Int) : Nat → List (Int × Int) × Bool
  | 0 => ([], false)
  | k + 1 =>
    let r := wkF ys id ep k
    let y := ys.getD k (0, 0)
    let hit := !r.2 && decide (id ≤ y.1)
    ((r.1 ++ (if hit then [(id, ep)] else [])) ++ (if y.1 ≠ id then [y] else []), r.2 || hit)
/-- The echoes, and a new one. -/
def winF (ys : List (Int × Int)) (id ep : Int) : List (Int × Int) :=
  (wkF ys id ep ys.length).1 ++ (if (wkF ys id ep ys.length).2 then [] else [(id, ep)])
variable {ys : List (Int × Int)} {id ep : Int} {k : Nat}
end Go.Proofs.YthnajpckhoomgaaGreat
namespace Go.Proofs.YthnajpckhoomgaaGreat
set_option maxRecDepth 100000
open Go.RowKit Go.WideShapes Go.ChangeShapes

theorem under37 : Tryz.prog.underlying 39 = some (.struct (Tryz.prog.fieldsOf 39)) := by kernel_rfl
theorem part_form {H : Type} {enc : TypeId × Value → H} {P : Program} {w : World} {base n : Nat} {spare : Nat → Bool} {held : Bool} {fs : Array Field} {cs : List Value} {xs : List (DataW H × List MemPlace)} (hl : xs.length = fs.size)
    (h : ∀ (i : Nat) (f : Field), fs[i]? = some f → DataW.trod enc P w base spare held n f.type ((cs.drop f.offset).take (P.cellsOf f.type)) = xs[i]?)
    {j T O K : Nat} (hf : (fs[j]?).map (fun f => (f.type, f.offset)) = some (T, O)) (hc : P.cellsOf T = K) : ∃ y, DataW.trod enc P w base spare held n T ((cs.drop O).take K) = some y := by
  cases hg : fs[j]? with
  | none => rw [hg] at hf; cases hf
  | some f =>
    rw [hg] at hf
    simp only [Option.map_some, Option.some.injEq, Prod.mk.injEq] at hf
    have h1 := h j f hg
    rw [hf.1, hf.2, hc] at h1
    have hj : j < xs.length := by rw [hl]; exact (Array.getElem?_eq_some_iff.1 hg).1
    rw [List.getElem?_eq_getElem hj] at h1
    exact ⟨_, h1⟩
theorem array12 {cs : Array Value} (h : cs.size = 12) : ∃ c0 c1 c2 c3 c4 c5 c6 c7 c8 c9 c10 c11, cs = #[c0, c1, c2, c3, c4, c5, c6, c7, c8, c9, c10, c11] := by
  obtain ⟨l⟩ := cs
  match l, h with
  | [c0, c1, c2, c3, c4, c5, c6, c7, c8, c9, c10, c11], _ => exact ⟨c0, c1, c2, c3, c4, c5, c6, c7, c8, c9, c10, c11, rfl⟩
theorem ob_form {H : Type} {enc : TypeId × Value → H} {w : World} {base b0 : Nat} {spare : Nat → Bool} {held : Bool} {r' : Reach} {v : Value} {d' : DataW H} {p' : List MemPlace}
    (hv : Value.okWide Tryz.prog w r' b0 39 v) (h : DataW.Trod enc Tryz.prog w base spare held 39 v d' p') :
    ∃ k x n t o r d i p q s m, v = .agg #[.int .i64 k, .int .i64 x, .bool n, .int .i64 t, .int .i64 o, .int .i64 r, .int .i64 d, .int .i64 i, .int .i64 p, .int .i64 q, .int .i64 s, .int .i64 m] := by
  obtain ⟨cs, rfl, hs⟩ := okWide_struct under37 hv
  obtain ⟨c0, c1, c2, c3, c4, c5, c6, c7, c8, c9, c10, c11, rfl⟩ := array12 (hs.trans (by kernel_rfl))
  obtain ⟨fuel, hf⟩ := h
  obtain ⟨xs, M, _, _, _, hl, hx⟩ := DataW.trod_struct under37 hf
  obtain ⟨k, rfl, _⟩ := int_cell (cell_form (j := 0) (T := 3) (O := 0) (v := c0) hl hx (by kernel_rfl) (by kernel_rfl) rfl)
  obtain ⟨x, rfl, _⟩ := int_cell (cell_form (j := 1) (T := 3) (O := 1) (v := c1) hl hx (by kernel_rfl) (by kernel_rfl) rfl)
  obtain ⟨m, rfl, _⟩ := int_cell (cell_form (j := 4) (T := 3) (O := 11) (v := c11) hl hx (by kernel_rfl) (by kernel_rfl) rfl)
  obtain ⟨yh, hh⟩ := part_form (j := 2) (T := 35) (O := 2) (K := 6) hl hx (by kernel_rfl) (by kernel_rfl)
  obtain ⟨yl, hlv⟩ := part_form (j := 3) (T := 37) (O := 8) (K := 3) hl hx (by kernel_rfl) (by kernel_rfl)
  clear hl hx hf
  obtain ⟨xh, Mh, _, _, _, hl, hx⟩ := DataW.trod_struct under23 hh
  obtain ⟨y0, h0⟩ := cell_form (j := 0) (T := 4) (O := 0) (v := c2) hl hx (by kernel_rfl) (by kernel_rfl) rfl
  obtain ⟨n, hn, _⟩ := DataW.trod_bool Tryz.underlying4 h0
  simp only [List.cons.injEq, and_true] at hn
  obtain ⟨t, rfl, _⟩ := int_cell (cell_form (j := 1) (T := 3) (O := 1) (v := c3) hl hx (by kernel_rfl) (by kernel_rfl) rfl)
  obtain ⟨o, rfl, _⟩ := int_cell (cell_form (j := 2) (T := 3) (O := 2) (v := c4) hl hx (by kernel_rfl) (by kernel_rfl) rfl)
  obtain ⟨r, rfl, _⟩ := int_cell (cell_form (j := 3) (T := 3) (O := 3) (v := c5) hl hx (by kernel_rfl) (by kernel_rfl) rfl)
  obtain ⟨d, rfl, _⟩ := int_cell (cell_form (j := 4) (T := 3) (O := 4) (v := c6) hl hx (by kernel_rfl) (by kernel_rfl) rfl)
  obtain ⟨i, rfl, _⟩ := int_cell (cell_form (j := 5) (T := 3) (O := 5) (v := c7) hl hx (by kernel_rfl) (by kernel_rfl) rfl)
  clear hl hx
  obtain ⟨xl, Ml, _, _, _, hl, hx⟩ := DataW.trod_struct under25 hlv
  obtain ⟨p, rfl, _⟩ := int_cell (cell_form (j := 0) (T := 3) (O := 0) (v := c8) hl hx (by kernel_rfl) (by kernel_rfl) rfl)
  obtain ⟨q, rfl, _⟩ := int_cell (cell_form (j := 1) (T := 3) (O := 1) (v := c9) hl hx (by kernel_rfl) (by kernel_rfl) rfl)
  obtain ⟨s, rfl, _⟩ := int_cell (cell_form (j := 2) (T := 3) (O := 2) (v := c10) hl hx (by kernel_rfl) (by kernel_rfl) rfl)
  subst hn
  exact ⟨k, x, n, t, o, r, d, i, p, q, s, m, rfl⟩
end Go.Proofs.YthnajpckhoomgaaGreat
namespace Go.Proofs.YthnajpckhoomgaaGreat
set_option maxRecDepth 100000
open Go.RowKit

/-- A field that is compared: by its two parts. -/
theorem eqF_part {P : Program} {w : World} {d : Nat} {xs ys : Array Value} {f : Field} {fs : List Field} {x y : Value} {T : TypeId} {off : Nat} {e : Bool}
    (h : (f.name == "_", f.type, f.offset) = (false, T, off)) (hx : (part T xs off).run P w = .ok x w) (hy : (part T ys off).run P w = .ok y w) (he : (Op.equalIn d T x y).run P w = .ok e w) :
    (Op.eqFields d xs ys (f :: fs)).run P w = if e then (Op.eqFields d xs ys fs).run P w else .ok false w := by
  simp only [Prod.mk.injEq, beq_eq_false_iff_ne] at h
  obtain ⟨h1, h2, h3⟩ := h
  simp only [Op.eqFields, h2, h3]
  rw [if_pos h1]
  simp only [Sem.run_bind, hx, hy, he, Result.andThen_ok, Sem.run_ite, Sem.run_pure]
  cases e <;> simp
theorem run_eq23d (D : Nat) (n m : Bool) (t o r d i t' o' r' d' i' : Int) (w : World) :
    (Op.equalIn (D + 1 + 1) 35 (.agg #[.bool n, .int .i64 t, .int .i64 o, .int .i64 r, .int .i64 d, .int .i64 i]) (.agg #[.bool m, .int .i64 t', .int .i64 o', .int .i64 r', .int .i64 d', .int .i64 i'])).run Tryz.prog w
      = .ok (eqH n t o r d i m t' o' r' d' i') w := by
  rw [run_equalIn_agg w (D + 1) 35 _ _ under23 (by kernel_rfl)]
  have hf := fields23
  generalize (Tryz.prog.fieldsOf 35).toList = fs at *
  have a3 : (isAgg 3).run Tryz.prog w = .ok false w := by kernel_rfl
  have a4 : (isAgg 4).run Tryz.prog w = .ok false w := by kernel_rfl
  obtain ⟨f0, _, rfl, g0, hf⟩ := List.map_eq_cons_iff.1 hf
  obtain ⟨f1, _, rfl, g1, hf⟩ := List.map_eq_cons_iff.1 hf
  obtain ⟨f2, _, rfl, g2, hf⟩ := List.map_eq_cons_iff.1 hf
  obtain ⟨f3, _, rfl, g3, hf⟩ := List.map_eq_cons_iff.1 hf
  obtain ⟨f4, _, rfl, g4, hf⟩ := List.map_eq_cons_iff.1 hf
  obtain ⟨f5, _, rfl, g5, hf⟩ := List.map_eq_cons_iff.1 hf
  obtain rfl := List.map_eq_nil_iff.1 hf
  rw [eqF_cell g0 a4 rfl rfl (run_equalIn_bool' w D 4 n m (by kernel_rfl)), eqF_cell g1 a3 rfl rfl (run_equalIn_int w D 3 .i64 .i64 t t' (by kernel_rfl)),
    eqF_cell g2 a3 rfl rfl (run_equalIn_int w D 3 .i64 .i64 o o' (by kernel_rfl)), eqF_cell g3 a3 rfl rfl (run_equalIn_int w D 3 .i64 .i64 r r' (by kernel_rfl)),
    eqF_cell g4 a3 rfl rfl (run_equalIn_int w D 3 .i64 .i64 d d' (by kernel_rfl)), eqF_cell g5 a3 rfl rfl (run_equalIn_int w D 3 .i64 .i64 i i' (by kernel_rfl))]
  simp only [Op.eqFields, Sem.run_pure, eqH]
  cases n == m <;> cases t == t' <;> cases o == o' <;> cases r == r' <;> cases d == d' <;> cases i == i' <;> rfl
theorem run_eq25d (D : Nat) (t o r t' o' r' : Int) (w : World) :
    (Op.equalIn (D + 1 + 1) 37 (.agg #[.int .i64 t, .int .i64 o, .int .i64 r]) (.agg #[.int .i64 t', .int .i64 o', .int .i64 r'])).run Tryz.prog w = .ok (eqL t o r t' o' r') w := by
  rw [run_equalIn_agg w (D + 1) 37 _ _ under25 (by kernel_rfl)]
  have hf := fields25
  generalize (Tryz.prog.fieldsOf 37).toList = fs at *
  have a3 : (isAgg 3).run Tryz.prog w = .ok false w := by kernel_rfl
  obtain ⟨f1, _, rfl, g1, hf⟩ := List.map_eq_cons_iff.1 hf
  obtain ⟨f2, _, rfl, g2, hf⟩ := List.map_eq_cons_iff.1 hf
  obtain ⟨f3, _, rfl, g3, hf⟩ := List.map_eq_cons_iff.1 hf
  obtain rfl := List.map_eq_nil_iff.1 hf
  rw [eqF_cell g1 a3 rfl rfl (run_equalIn_int w D 3 .i64 .i64 t t' (by kernel_rfl)), eqF_cell g2 a3 rfl rfl (run_equalIn_int w D 3 .i64 .i64 o o' (by kernel_rfl)), eqF_cell g3 a3 rfl rfl (run_equalIn_int w D 3 .i64 .i64 r r' (by kernel_rfl))]
  simp only [Op.eqFields, Sem.run_pure, eqL]
  cases t == t' <;> cases o == o' <;> cases r == r' <;> rfl
theorem fields37 : ((Tryz.prog.fieldsOf 39).toList.map fun f => (f.name == "_", f.type, f.offset)) = [(false, 3, 0), (false, 3, 1), (false, 35, 2), (false, 37, 8), (false, 3, 11)] := by kernel_rfl
/-- Whether two objects are alike. -/
def eqO (k x : Int) (n : Bool) (t o r d i p q s m : Int) (k' x' : Int) (n' : Bool) (t' o' r' d' i' p' q' s' m' : Int) : Bool := k == k' && (x == x' && (eqH n t o r d i n' t' o' r' d' i' && (eqL p q s p' q' s' && m == m')))
theorem eqO_iff {k x : Int} {n : Bool} {t o r d i p q s m : Int} {k' x' : Int} {n' : Bool} {t' o' r' d' i' p' q' s' m' : Int} : eqO k x n t o r d i p q s m k' x' n' t' o' r' d' i' p' q' s' m' = true ↔ k = k' ∧ x = x' ∧ n = n' ∧ t = t' ∧ o = o' ∧ r = r' ∧ d = d' ∧ i = i' ∧ p = p' ∧ q = q' ∧ s = s' ∧ m = m' := by
  simp only [eqO, Bool.and_eq_true, beq_iff_eq, eqH_iff, eqL_iff, and_assoc]
theorem part23 (w : World) (k x : Int) (n : Bool) (t o r d i p q s m : Int) : (part 35 #[.int .i64 k, .int .i64 x, .bool n, .int .i64 t, .int .i64 o, .int .i64 r, .int .i64 d, .int .i64 i, .int .i64 p, .int .i64 q, .int .i64 s, .int .i64 m] 2).run Tryz.prog w = .ok (.agg #[.bool n, .int .i64 t, .int .i64 o, .int .i64 r, .int .i64 d, .int .i64 i]) w := by
  have h : (isAgg 35).run Tryz.prog w = .ok true w := by kernel_rfl
  have hc : (Go.sizeOf 35).run Tryz.prog w = .ok 6 w := by kernel_rfl
  simp only [part, Sem.run_bind, h, hc, Result.andThen_ok, if_true, Sem.run_pure]
  rfl
theorem part35 (w : World) (k x : Int) (n : Bool) (t o r d i p q s m : Int) : (part 37 #[.int .i64 k, .int .i64 x, .bool n, .int .i64 t, .int .i64 o, .int .i64 r, .int .i64 d, .int .i64 i, .int .i64 p, .int .i64 q, .int .i64 s, .int .i64 m] 8).run Tryz.prog w = .ok (.agg #[.int .i64 p, .int .i64 q, .int .i64 s]) w := by
  have h : (isAgg 37).run Tryz.prog w = .ok true w := by kernel_rfl
  have hc : (Go.sizeOf 37).run Tryz.prog w = .ok 3 w := by kernel_rfl
  simp only [part, Sem.run_bind, h, hc, Result.andThen_ok, if_true, Sem.run_pure]
  rfl
theorem run_eq37 (k x : Int) (n : Bool) (t o r d i p q s m : Int) (k' x' : Int) (n' : Bool) (t' o' r' d' i' p' q' s' m' : Int) (w : World) : (Op.equalIn 10000 39 (.agg #[.int .i64 k, .int .i64 x, .bool n, .int .i64 t, .int .i64 o, .int .i64 r, .int .i64 d, .int .i64 i, .int .i64 p, .int .i64 q, .int .i64 s, .int .i64 m]) (.agg #[.int .i64 k', .int .i64 x', .bool n', .int .i64 t', .int .i64 o', .int .i64 r', .int .i64 d', .int .i64 i', .int .i64 p', .int .i64 q', .int .i64 s', .int .i64 m'])).run Tryz.prog w = .ok (eqO k x n t o r d i p q s m k' x' n' t' o' r' d' i' p' q' s' m') w := by
  rw [run_equalIn_agg w 9999 39 _ _ under37 (by kernel_rfl)]
  have hf := fields37
  generalize (Tryz.prog.fieldsOf 39).toList = fs at *
  have a3 : (isAgg 3).run Tryz.prog w = .ok false w := by kernel_rfl
  obtain ⟨f0, _, rfl, g0, hf⟩ := List.map_eq_cons_iff.1 hf
  obtain ⟨f1, _, rfl, g1, hf⟩ := List.map_eq_cons_iff.1 hf
  obtain ⟨f2, _, rfl, g2, hf⟩ := List.map_eq_cons_iff.1 hf
  obtain ⟨f3, _, rfl, g3, hf⟩ := List.map_eq_cons_iff.1 hf
  obtain ⟨f4, _, rfl, g4, hf⟩ := List.map_eq_cons_iff.1 hf
  obtain rfl := List.map_eq_nil_iff.1 hf
  rw [eqF_cell g0 a3 rfl rfl (run_equalIn_int w 9998 3 .i64 .i64 k k' (by kernel_rfl)), eqF_cell g1 a3 rfl rfl (run_equalIn_int w 9998 3 .i64 .i64 x x' (by kernel_rfl)),
    eqF_part g2 (part23 w k x n t o r d i p q s m) (part23 w k' x' n' t' o' r' d' i' p' q' s' m') (run_eq23d 9997 n n' t o r d i t' o' r' d' i' w),
    eqF_part g3 (part35 w k x n t o r d i p q s m) (part35 w k' x' n' t' o' r' d' i' p' q' s' m') (run_eq25d 9997 p q s p' q' s' w),
    eqF_cell g4 a3 rfl rfl (run_equalIn_int w 9998 3 .i64 .i64 m m' (by kernel_rfl))]
  simp only [Op.eqFields, Sem.run_pure, eqO]
  cases k == k' <;> cases x == x' <;> cases eqH n t o r d i n' t' o' r' d' i' <;> cases eqL p q s p' q' s' <;> cases m == m' <;> rfl
theorem guard37 (op : BinOp) (x y : Operand) (xs ys : Array Value) (w : World) : (eqGuard op 39 x y (.agg xs) (.agg ys)).run Tryz.prog w = .ok () w :=
  run_eqGuard_agg w op 39 x y xs ys (by kernel_rfl)
end Go.Proofs.YthnajpckhoomgaaGreat
