/- Texts Obt, Opp, Ops, Bpx of this proof, in one. No conditions but on lengths. -/
import Derived.Test.YthnajpckhoomgaaGreatRows
import Derived.Test.YthnajpckhoomgaaGreatU07
import Derived.Test.YthnajpckhoomgaaGreatU12
import Derived.Test.YthnajpckhoomgaaGreatU14
import Derived.ArgAppend
import Derived.Below
import Derived.BigQuiet
import Derived.Calls
import Derived.ChangeArms
import Derived.ChangeOld
import Derived.Deep.QuietTactic
import Derived.Deep.RegionWith
import Derived.Deep.Slices
import Derived.Laws.AppendOwnNone
import Derived.Laws.BytesArg
import Derived.Laws.OwnMore
import Derived.Laws.StructEq
import Derived.Lib.Hide
import Derived.Lib.QuietBelow
import Derived.LoopTactic
import Derived.Maps.AppendAt
import Derived.OpenShut
import Derived.Orders
import Derived.Outline
import Derived.ProofKit
import Derived.ShutString
import Derived.StillTail
import Derived.WalkKit
import Derived.WalkSpells
import Derived.WideShapes
namespace Go.Proofs.YthnajpckhoomgaaGreat
set_option maxRecDepth 100000
open Go.RowKit Go.Sort Go.WideShapes Go.ChangeShapes

/-- A batch that is right. -/
def BtOk (N : Int) (ys : List Ob) : Prop := (0 ≤ N ∧ N ≤ 65535) ∧ (1 ≤ ys.length ∧ ys.length ≤ 32) ∧ AllOk ys ∧ 3 + osz ys ≤ 512
instance (N : Int) (ys : List Ob) : Decidable (BtOk N ys) := by unfold BtOk; infer_instance
theorem Os.alloc {w : World} {v : Value} {ys : List Ob} (h : Os w v ys) (O : Obj) : Os (w.alloc O) v ys := h.below ((Below.refl _ _).alloc (Nat.le_refl _) O)
/-- A batch's bytes. -/
def btB (N : Int) (ys : List Ob) : List Int := [N / 256, N % 256, (ys.length : Int)] ++ (ys.map Ob.bs).flatten
def btc (N : Int) (ys : List Ob) : Int := if BtOk N ys then 0 else 1
def btBs (N : Int) (ys : List Ob) : List Int := if BtOk N ys then btB N ys else []
theorem flat_bs (ys : List Ob) (k : Nat) (h : k < ys.length) : ((ys.take (k + 1)).map Ob.bs).flatten = ((ys.take k).map Ob.bs).flatten ++ (ys.getD k z12).bs := by
  rw [List.take_succ_eq_append_getElem h, List.map_append, List.flatten_append]
  simp [List.getD, h]
theorem bs_flat_len (ys : List Ob) : ((ys.map Ob.bs).flatten).length = osz ys := by
  simp [osz, List.length_flatten, List.map_map]
  rfl
theorem osz_take_le (ys : List Ob) (k : Nat) : osz (ys.take k) ≤ osz ys := by
  have h : osz ys = osz (ys.take k) + osz (ys.drop k) := by
    unfold osz
    rw [← List.sum_append, ← List.map_append, List.take_append_drop]
  omega
theorem obB_byt {k x : Int} {n : Bool} {t o r d i p q s m : Int} (h : ObOk k x n t o r d i p q s m) : Byt (obB k x n t o r d i p q s m) := by
  have hx : 0 ≤ x ∧ x < 64 := h.2.1
  have two : ∀ y z : Int, 0 ≤ y ∧ y < 256 → 0 ≤ z ∧ z < 256 → Byt [y, z] := fun y z hy hz u hu => by
    simp at hu; rcases hu with rfl | rfl <;> assumption
  rcases kind_of h with rfl | rfl | rfl | rfl
  · rw [obB_1]; exact two _ _ (by omega) (by omega)
  · have hh : HtOk n t o r d i := by have := h.2.2.2.2.1; simpa [HgOk, hgB] using this
    rw [obB_2]; exact byt_app (two _ _ (by omega) (by omega)) (htB_byt hh)
  · have hl : HtOk false p q s 0 0 := by have := h.2.2.2.1; simpa [LvOk, lvB] using this
    have hr : RowOk p q s 0 := by rcases hl.2 with h | h; · cases h.1
                                  exact h.2
    have hq : 0 ≤ q ∧ q < 64 := hr.2.2.1
    have hs : 0 ≤ s ∧ s < 256 := by have := hr.2.2.2.1; omega
    rw [obB_3]; exact byt_app (byt_app (two _ _ (by omega) (by omega)) (i8_byt p)) (two _ _ (by omega) hs)
  · have hh : HtOk n t o r d i := by have := h.2.2.2.2.1; simpa [HgOk, hgB] using this
    have hm : 0 ≤ m ∧ m ≤ 65535 := by have := h.2.2.2.2.2; simpa [NumOk, nuB] using this
    rw [obB_4]; exact byt_app (byt_app (two _ _ (by omega) (by omega)) (htB_byt hh)) (two _ _ (by omega) (by omega))
theorem ob_byt {y : Ob} (h : y.Ok) : Byt y.bs := by
  rw [show y.bs = obB y.k y.x y.n y.t y.o y.r y.d y.i y.p y.q y.s y.m from if_pos h]
  exact obB_byt h
theorem array2' {cs : Array Value} (h : cs.size = 2) : ∃ a b, cs = #[a, b] := by
  obtain ⟨l⟩ := cs
  match l, h with
  | [a, b], _ => exact ⟨a, b, rfl⟩
end Go.Proofs.YthnajpckhoomgaaGreat
namespace Go.Proofs.YthnajpckhoomgaaGreat
set_option maxRecDepth 100000
open Go.RowKit Go.Sort

def lft (n : Int) : Int := n % 65536
def nxt (n : Int) : Int := (n % 65536 + 1) % 65536
theorem own_mono {w : World} {base B size n : Nat} {e : TypeId} {v : Value} {xs : List Value} (h : w.ownsRow base e size v n xs) (hB : B ≤ base) : w.ownsRow B e size v n xs := by
  rcases h.2 with h2 | ⟨g, cap, cur, h2, h3, h4⟩
  · exact ⟨h.1, .inl h2⟩
  · exact ⟨h.1, .inr ⟨g, cap, cur, h2, Nat.le_trans hB h3, h4⟩⟩
theorem own_form {w : World} {base size n : Nat} {e : TypeId} {v : Value} {xs : List Value} (h : w.ownsRow base e size v n xs) : ∃ a c, v = .slice a n c := by
  rcases h.2 with ⟨rfl, rfl⟩ | ⟨g, cap, cur, rfl, _⟩
  · exact ⟨none, 0, rfl⟩
  · exact ⟨_, _, rfl⟩
theorem own_one {w : World} {base size n : Nat} {e : TypeId} {v : Value} {xs : List Value} (h : w.ownsRow base e size v n xs) : v.oneCell' = true := by
  rcases h.2 with ⟨rfl, _⟩ | ⟨g, cap, cur, rfl, _⟩ <;> rfl
/-- One more object fits. -/
def Fit1 (most : Int) (ys : List Ob) (A t : Nat) : Prop := t < ys.length ∧ t - A < 32 ∧ 3 + (osz ((ys.drop A).take (t + 1 - A)) : Int) ≤ most
instance (most : Int) (ys : List Ob) (A t : Nat) : Decidable (Fit1 most ys A t) := by unfold Fit1; infer_instance
def cutF (most : Int) (ys : List Ob) (A : Nat) : Nat → Nat → Nat
  | 0, t => t
  | f + 1, t => if Fit1 most ys A t then cutF most ys A f (t + 1) else t
def cutTo (most : Int) (ys : List Ob) (A : Nat) : Nat := cutF most ys A ys.length (A + 1)
theorem cutF_eq {most : Int} {ys : List Ob} {A T : Nat} (hT : ¬ Fit1 most ys A T) : ∀ (f t : Nat), t ≤ T → T ≤ t + f → (∀ s, t ≤ s → s < T → Fit1 most ys A s) → cutF most ys A f t = T
  | 0, t, h1, h2, _ => by rw [cutF]; omega
  | f + 1, t, h1, h2, h3 => by
    rw [cutF]
    by_cases h : t = T
    · subst h; rw [if_neg hT]
    · rw [if_pos (h3 t (Nat.le_refl _) (by omega))]
      exact cutF_eq hT f (t + 1) (by omega) (by omega) fun s hs => h3 s (by omega)
def packF (most : Int) (ys : List Ob) : Nat → Nat → Int → List (Int × List Ob)
  | 0, _, _ => []
  | f + 1, A, n => if A < ys.length then (n, (ys.drop A).take (cutTo most ys A - A)) :: packF most ys f (cutTo most ys A) (nxt n) else []
def packL (most : Int) (ys : List Ob) (first : Int) : List (Int × List Ob) := packF most ys ys.length 0 (lft first)
theorem sub_ok {ys : List Ob} (h : AllOk ys) (A m : Nat) : AllOk ((ys.drop A).take m) := fun i hi => by
  have hl : i < m ∧ A + i < ys.length := by rw [List.length_take, List.length_drop] at hi; omega
  have e : ((ys.drop A).take m).getD i z12 = ys.getD (A + i) z12 := by simp [List.getD, hl.1]
  rw [e]; exact h (A + i) hl.2
end Go.Proofs.YthnajpckhoomgaaGreat
namespace Go.Proofs.YthnajpckhoomgaaGreat
set_option maxRecDepth 100000
open Go.RowKit Go.Sort

/-- What Pack answers. -/
def packE (ys : List Ob) (most : Int) : Int := if 40 ≤ most ∧ most ≤ 512 ∧ AllOk ys then (if 1024 < ys.length then 2 else 0) else 1
def packB (ys : List Ob) (first most : Int) : List (Int × List Ob) := if packE ys most = 0 then packL most ys first else []
/-- A slice of batches that reads as bs. -/
def Bts (w : World) (v : Value) (bs : List (Int × List Ob)) : Prop :=
  (∃ a cap, v = .slice a 0 cap ∧ bs = []) ∨
  ∃ b off cap, v = .slice (some ⟨b, off, none⟩) bs.length cap ∧ ∀ i, i < bs.length → w.cell? ⟨b, off + i * 2, none⟩ = some (.int .i64 (bs.getD i zb).1) ∧ ∃ s, w.cell? ⟨b, off + i * 2 + 1, none⟩ = some s ∧ Os w s (bs.getD i zb).2
theorem Bts.below {w w' : World} {v : Value} {bs : List (Int × List Ob)} (h : Bts w v bs) (hb : Below w.heap.size w w') : Bts w' v bs := by
  rcases h with h | ⟨b, off, cap, h1, h2⟩
  · exact .inl h
  · refine .inr ⟨b, off, cap, h1, fun i hi => ?_⟩
    obtain ⟨k1, s, k2, k3⟩ := h2 i hi
    exact ⟨by rw [hb.cell (World.block_lt_of_cell? w _ k1)]; exact k1, s, by rw [hb.cell (World.block_lt_of_cell? w _ k2)]; exact k2, k3.below hb⟩
theorem Bts.form {w : World} {v : Value} {bs : List (Int × List Ob)} (h : Bts w v bs) : ∃ a c, v = .slice a bs.length c := by
  rcases h with ⟨a, cap, h1, rfl⟩ | ⟨b, off, cap, h1, _⟩
  · exact ⟨a, cap, h1⟩
  · exact ⟨_, _, h1⟩
theorem Bts.at {w : World} {a : Option Addr} {c : Nat} {bs : List (Int × List Ob)} (h : Bts w (.slice a bs.length c) bs) {i : Nat} (hi : i < bs.length) : ∃ b off, a = some ⟨b, off, none⟩ ∧ w.cell? ⟨b, off + i * 2, none⟩ = some (.int .i64 (bs.getD i zb).1) ∧ ∃ s, w.cell? ⟨b, off + i * 2 + 1, none⟩ = some s ∧ Os w s (bs.getD i zb).2 := by
  rcases h with ⟨a', cap, hv, rfl⟩ | ⟨b, off, cap, hv, h2⟩
  · simp at hi
  · simp only [Value.slice.injEq] at hv
    exact ⟨b, off, hv.1, h2 i hi⟩
end Go.Proofs.YthnajpckhoomgaaGreat
namespace Go.Proofs.YthnajpckhoomgaaGreat
set_option maxRecDepth 100000
open Go.RowKit Go.Sort

/-- What lies below S stays. -/
theorem own_low {w w' : World} {base size n S : Nat} {e : TypeId} {v : Value} {xs : List Value} (h : w.ownsRow base e size v n xs) (hl : ∀ b, v.ownBlock = some b → b < S) (hb : Below S w w') : w'.ownsRow base e size v n xs := by
  refine ⟨h.1, ?_⟩
  rcases h.2 with h2 | ⟨g, cap, cur, rfl, h3, hg, rest⟩
  · exact .inl h2
  · refine .inr ⟨g, cap, cur, rfl, h3, ?_, rest⟩
    rw [hb.block g (hl g rfl)]; exact hg
theorem RowB.base {w : World} {B base : Nat} {v : Value} {bs : List (Int × List Ob)} (h : RowB w base v bs) (hB : B ≤ base) : RowB w B v bs := by
  obtain ⟨vs, h1, h2, h3⟩ := h
  exact ⟨vs, h1, own_mono h2 hB, fun i hi => ⟨(h3 i hi).1, own_mono (h3 i hi).2 hB⟩⟩
theorem RowB.form {w : World} {base : Nat} {v : Value} {bs : List (Int × List Ob)} (h : RowB w base v bs) : ∃ a c, v = .slice a bs.length c := by
  obtain ⟨vs, h1, h2, h3⟩ := h
  exact own_form h2
/-- A row of batches; the objects of its last one lie in a row that was made since S. -/
def RowX (w : World) (base S g cap : Nat) (bs : List (Int × List Ob)) (M : Int) (v : Value) (xs : List Ob) : Prop :=
  ∃ vs : List (Int × Value), vs.length = bs.length ∧ (g < S ∧ base ≤ g ∧ S ≤ w.heap.size) ∧
    w.ownsRow base 69 2 (.slice (some ⟨g, 0, none⟩) (bs.length + 1) cap) (bs.length + 1) (flat2 (vs ++ [(M, v)])) ∧
    (∀ i, i < bs.length → (vs.getD i zv).1 = (bs.getD i zb).1 ∧ w.ownsRow base 39 12 (vs.getD i zv).2 (bs.getD i zb).2.length (flat (bs.getD i zb).2) ∧ ∀ b, (vs.getD i zv).2.ownBlock = some b → b < S) ∧
    w.ownsRow S 39 12 v xs.length (flat xs)
theorem RowX.below {w w' : World} {base S g cap : Nat} {bs : List (Int × List Ob)} {M : Int} {v : Value} {xs : List Ob} (h : RowX w base S g cap bs M v xs) (hb : Below w.heap.size w w') : RowX w' base S g cap bs M v xs := by
  obtain ⟨vs, h1, ⟨h2, h3, h4⟩, h5, h6, h7⟩ := h
  exact ⟨vs, h1, ⟨h2, h3, Nat.le_trans h4 hb.size⟩, own_below h5 hb, fun i hi => ⟨(h6 i hi).1, own_below (h6 i hi).2.1 hb, (h6 i hi).2.2⟩, own_below h7 hb⟩
theorem RowX.row {w : World} {base S g cap : Nat} {bs : List (Int × List Ob)} {M : Int} {v : Value} {xs : List Ob} (h : RowX w base S g cap bs M v xs) : RowB w base (.slice (some ⟨g, 0, none⟩) (bs.length + 1) cap) (bs ++ [(M, xs)]) := by
  obtain ⟨vs, h1, ⟨h2, h3, h4⟩, h5, h6, h7⟩ := h
  refine ⟨vs ++ [(M, v)], by simp [h1], by simpa using h5, fun i hi => ?_⟩
  by_cases h9 : i < bs.length
  · have e1 : (vs ++ [(M, v)]).getD i zv = vs.getD i zv := by simp [List.getD, List.getElem?_append, h1, h9]
    have e2 : (bs ++ [(M, xs)]).getD i zb = bs.getD i zb := by simp [List.getD, List.getElem?_append, h9]
    rw [e1, e2]
    exact ⟨(h6 i h9).1, (h6 i h9).2.1⟩
  · have e : i = bs.length := by simp at hi; omega
    subst e
    have e1 : (vs ++ [(M, v)]).getD bs.length zv = (M, v) := by rw [← h1]; simp [List.getD]
    have e2 : (bs ++ [(M, xs)]).getD bs.length zb = (M, xs) := by simp [List.getD]
    rw [e1, e2]
    exact ⟨rfl, own_mono h7 (by omega)⟩
theorem RowX.cells {w : World} {base S g cap : Nat} {bs : List (Int × List Ob)} {M : Int} {v : Value} {xs : List Ob} (h : RowX w base S g cap bs M v xs) :
    w.cell? ⟨g, bs.length * 2 + 1, none⟩ = some v ∧ (∀ k, w.frozen? ⟨g, k, none⟩ = false) ∧ g < S ∧ S ≤ w.heap.size ∧ v.oneCell' = true ∧ ∃ a c, v = .slice a xs.length c := by
  obtain ⟨vs, h1, ⟨h2, h3, h4⟩, h5, h6, h7⟩ := h
  refine ⟨?_, fun k => h5.frozenAt k, h2, h4, own_one h7, own_form h7⟩
  rw [own_cell h5 (bs.length * 2 + 1) (by omega), flat2_app, ← h1, List.getElem?_append_right (by rw [flat2_len]; omega), flat2_len]
  simp [flat2, c2]
theorem RowX.last {w : World} {base S g cap : Nat} {bs : List (Int × List Ob)} {M : Int} {v : Value} {xs : List Ob} (h : RowX w base S g cap bs M v xs) : w.ownsRow S 39 12 v xs.length (flat xs) ∧ base ≤ g := by
  obtain ⟨vs, h1, ⟨h2, h3, h4⟩, h5, h6, h7⟩ := h
  exact ⟨h7, h3⟩
theorem C12.low {w w' : World} {b o B : Nat} {y : Ob} (h : C12 w b o y) (hb : b < B) (hB : Below B w w') : C12 w' b o y := fun j hj => by
  rw [hB.cell (p := ⟨b, o + j, none⟩) hb]; exact h j hj
/-- The last one's objects are laid anew. -/
theorem RowX.turn {w w' : World} {base S g cap : Nat} {bs : List (Int × List Ob)} {M : Int} {v v' : Value} {xs ys : List Ob} (h : RowX w base S g cap bs M v xs) (hb : Below S w w') (hv : w'.ownsRow S 39 12 v' ys.length (flat ys)) :
    RowX (w'.setCell ⟨g, bs.length * 2 + 1, none⟩ v') base S g cap bs M v' ys := by
  obtain ⟨vs, h1, ⟨h2, h3, h4⟩, h5, h6, h7⟩ := h
  have k5 := own_low h5 (fun b hb => by simp only [Value.ownBlock, Option.some.injEq] at hb; omega) hb
  obtain ⟨k6, k7⟩ := k5.stored (bs.length * 2 + 1) v'
  refine ⟨vs, h1, ⟨h2, h3, by rw [show ∀ (w : World) (p : Addr) (u : Value), (w.setCell p u).heap.size = w.heap.size from fun w p u => by simp]; exact Nat.le_trans h4 hb.size⟩, ?_, fun i hi => ?_, hv.kept k7 (apart2 hv k5)⟩
  · have e : (flat2 (vs ++ [(M, v)])).set (bs.length * 2 + 1) v' = flat2 (vs ++ [(M, v')]) := by
      rw [flat2_app, flat2_app, List.set_append_right _ _ (by rw [flat2_len]; omega), flat2_len, h1, show bs.length * 2 + 1 - bs.length * 2 = 1 by omega]
      rfl
    rw [← e]; exact k6
  · have k8 := own_low (h6 i hi).2.1 (h6 i hi).2.2 hb
    exact ⟨(h6 i hi).1, k8.kept k7 (apart2 k8 k5), (h6 i hi).2.2⟩
/-- append of one batch that has no object yet. -/
theorem bappX_any {ops : Array Oper} {rest : List Oper} {o : Oper} {a : Act} {Q : Exit → Act → World → Prop} {W : World} (hgd : o.guard = none) (s x : Operand)
    (ho : o.op = .call { callee := .builtin .append, args := #[s, x], argTypes := #[93, 93] }) (base : Nat) (bs : List (Int × List Ob)) (M : Int) (w : World)
    (hW : W = w.alloc (.cells #[.int .i64 M, .slice none 0 0] 69)) (hrow : RowB w base (a.eval s) bs) (hx : a.eval x = .slice (some ⟨w.heap.size, 0, none⟩) 1 1) (h63 : bs.length ≤ 3000) (hbase : base ≤ w.heap.size)
    (h : ∀ g cap w', RowX w' base w'.heap.size g cap bs M (.slice none 0 0) [] → Below base w w' → w.heap.size ≤ w'.heap.size → wpList Tryz.prog ops Q rest (a.put o.dst (.slice (some ⟨g, 0, none⟩) (bs.length + 1) cap)) w') : wpList Tryz.prog ops Q (o :: rest) a W := by
  subst hW
  have hal : Below w.heap.size w (w.alloc (.cells #[.int .i64 M, .slice none 0 0] 69)) := (Below.refl _ _).alloc (Nat.le_refl _) _
  obtain ⟨vs, k1, k2, k3⟩ := hrow.below hal
  obtain ⟨i0, hi, hz0, hz1, hz2⟩ := info_parts infoBT
  have hzs : ((.agg #[.int .i64 0, .slice none 0 0] : Value).cells).size = 2 := rfl
  have hsz : (w.alloc (.cells #[.int .i64 M, .slice none 0 0] 69)).heap.size = w.heap.size + 1 := by simp
  refine wpList_append_own _ hgd s x 93 ho base 69 i0 (.agg #[.int .i64 0, .slice none 0 0]) 2 32 underBS hi hz0 hz1 hz2 hzs (by decide) _ _ _ rfl k2 ⟨w.heap.size, 0, none⟩ 1 1 [.int .i64 M, .slice none 0 0] hx rfl ?_ ?_ (by unfold maxLen; omega) (by omega) (by omega) fun v' w1 hown1 hgrow _ => ?_
  · intro j u hj
    rw [add_spot]
    have hj2 : j < 2 := (List.getElem?_eq_some_iff.1 hj).1
    have : j = 0 ∨ j = 1 := by omega
    rcases this with rfl | rfl <;> simp at hj ⊢ <;> exact hj
  · intro u hu
    simp at hu
    rcases hu with rfl | rfl <;> rfl
  · have hb : Below base w w1 := ((Below.refl _ w).alloc hbase _).grown hgrow (by omega) (fun k hk => (k2.lt k hk).1)
    obtain ⟨g, cap, rfl⟩ : ∃ g cap, v' = .slice (some ⟨g, 0, none⟩) (bs.length + 1) cap := by
      rcases hown1.2 with ⟨_, h0⟩ | ⟨g, cap, _, rfl, _⟩
      · omega
      · exact ⟨g, cap, rfl⟩
    have hlt := hown1.lt g rfl
    have e : flat2 (vs ++ [(M, .slice none 0 0)]) = flat2 vs ++ [.int .i64 M, .slice none 0 0] := by rw [flat2_app]; rfl
    refine h g cap w1 ⟨vs, k1, ⟨hlt.2, hlt.1, Nat.le_refl _⟩, by rw [e]; exact hown1, fun i hi2 => ?_, ⟨rfl, .inl ⟨rfl, rfl⟩⟩⟩ hb (by have := hgrow.size; omega)
    have k4 := (k3 i hi2).2.kept hgrow (apart2 (k3 i hi2).2 k2)
    exact ⟨(k3 i hi2).1, k4, fun b hb => (k4.lt b hb).2⟩
theorem own_prefix {w : World} {S size n m g cap : Nat} {e : TypeId} {xs ys : List Value} (h : w.ownsRow S e size (.slice (some ⟨g, 0, none⟩) (n + m) cap) (n + m) (xs ++ ys)) (hx : xs.length = n * size) : w.ownsRow S e size (.slice (some ⟨g, 0, none⟩) n cap) n xs := by
  refine ⟨hx, ?_⟩
  rcases h.2 with ⟨h1, _⟩ | ⟨g', cap', cur, hv, hb, hg, hnc, hcm, hcs, htake⟩
  · cases h1
  · simp only [Value.slice.injEq, Option.some.injEq, Addr.mk.injEq, and_true, true_and] at hv
    obtain ⟨rfl, rfl⟩ := hv
    refine .inr ⟨g, cap, cur, rfl, hb, hg, by omega, hcm, hcs, ?_⟩
    have h3 : (cur.toList.take ((n + m) * size)).take (n * size) = (xs ++ ys).take (n * size) := by rw [htake]
    rw [List.take_take, Nat.min_eq_left (Nat.mul_le_mul_right _ (Nat.le_add_right _ _)), ← hx, List.take_left] at h3
    rw [← hx]; exact h3
/-- An object behind those in a row of the call's own: the append as one operation's run. The elder row is there as it was. -/
theorem run_oapp (w : World) (ty : TypeId) (S : Nat) (v : Value) (xs : List Ob) (hown : w.ownsRow S 39 12 v xs.length (flat xs)) (b : Nat) (y : Ob) (hy : C12 w b 0 y) (hl : xs.length ≤ 3000) (hS : S ≤ w.heap.size) :
    ∃ g cap w', (Builtin.append_ #[51, 51] ty #[v, .slice (some ⟨b, 0, none⟩) 1 1]).run Tryz.prog w = .ok (.slice (some ⟨g, 0, none⟩) (xs.length + 1) cap) w' ∧ w'.ownsRow S 39 12 (.slice (some ⟨g, 0, none⟩) (xs.length + 1) cap) (xs ++ [y]).length (flat (xs ++ [y])) ∧ w.grownBy w' v.ownBlock ∧ w'.ownsRow S 39 12 v xs.length (flat xs) := by
  obtain ⟨i0, hi, hz0, hz1, hz2⟩ := info_parts infoOB
  have hzs : ((.agg #[.int .i64 0, .int .i64 0, .bool false, .int .i64 0, .int .i64 0, .int .i64 0, .int .i64 0, .int .i64 0, .int .i64 0, .int .i64 0, .int .i64 0, .int .i64 0] : Value).cells).size = 12 := rfl
  have e : flat (xs ++ [y]) = flat xs ++ y.cl := by rw [flat_app]; simp [flat]
  have e2 : (xs ++ [y]).length = xs.length + 1 := by simp
  have hnews : ∀ j u, y.cl[j]? = some u → w.cell? ((⟨b, 0, none⟩ : Addr).add j) = some u := fun j u hj => by
    rw [add_spot, hy j (List.getElem?_eq_some_iff.1 hj).1]; exact hj
  have hone : ∀ u ∈ y.cl, u.oneCell' = true := fun u hu => flat_ones [y] u (by simpa [flat] using hu)
  have hfl := flat_len xs
  rw [e, e2]
  rcases hown.2 with ⟨rfl, h0⟩ | ⟨g, cap, cur, rfl, hg1, hg2, _⟩
  · obtain ⟨v', w', hr, h2, h3, _, _⟩ := run_append_own_at (P := Tryz.prog) w S 51 ty 39 i0 (.agg #[.int .i64 0, .int .i64 0, .bool false, .int .i64 0, .int .i64 0, .int .i64 0, .int .i64 0, .int .i64 0, .int .i64 0, .int .i64 0, .int .i64 0, .int .i64 0]) 12 96 underSL hi hz0 hz1 hz2 hzs (by decide) (.slice none 0 0) xs.length (flat xs) hown ⟨b, 0, none⟩ 1 1 y.cl rfl hnews hone (by unfold maxLen; omega) (by omega) hS
    obtain ⟨g, cap, rfl⟩ : ∃ g cap, v' = .slice (some ⟨g, 0, none⟩) (xs.length + 1) cap := by
      rcases h2.2 with ⟨_, h0⟩ | ⟨g, cap, _, rfl, _⟩
      · omega
      · exact ⟨g, cap, rfl⟩
    exact ⟨g, cap, w', hr, h2, h3, ⟨hown.1, .inl ⟨rfl, h0⟩⟩⟩
  · by_cases hroom : xs.length + 1 ≤ cap
    · obtain ⟨w', hr, h2, h3⟩ := run_append_fits (P := Tryz.prog) w S 51 ty 39 i0 12 underSL hi hz1 g xs.length cap (flat xs) hown ⟨b, 0, none⟩ 1 1 y.cl rfl hnews hone hroom
      exact ⟨g, cap, w', hr, h2, h3, own_prefix h2 hfl⟩
    · obtain ⟨v', w', hr, h2, h3⟩ := run_append_arg_grows (P := Tryz.prog) w 51 ty 39 i0 (.agg #[.int .i64 0, .int .i64 0, .bool false, .int .i64 0, .int .i64 0, .int .i64 0, .int .i64 0, .int .i64 0, .int .i64 0, .int .i64 0, .int .i64 0, .int .i64 0]) 12 96 underSL hi hz0 hz1 hz2 hzs (by decide) ⟨g, 0, none⟩ xs.length cap (flat xs) hfl (hown.cells rfl) ⟨b, 0, none⟩ 1 1 y.cl rfl hnews (by omega) (by unfold maxLen; omega) (by omega)
      obtain ⟨g', cap', rfl⟩ : ∃ g cap, v' = .slice (some ⟨g, 0, none⟩) (xs.length + 1) cap := by
        rcases h2.2 with ⟨_, h0⟩ | ⟨g, cap, _, rfl, _⟩
        · omega
        · exact ⟨g, cap, rfl⟩
      exact ⟨g', cap', w', hr, own_mono h2 hS, ⟨h3.os, h3.tape, h3.output, h3.size, fun k hk _ => h3.block k hk (by simp)⟩, hown.kept h3 (.inr (by simp [Value.ownBlock]))⟩
theorem exec_append {ρ : Operand → Value} {o : Oper} {s x : Operand} {T : TypeId} {v u r : Value} {w w' : World} (ho : o.op = .call { callee := .builtin .append, args := #[s, x], argTypes := #[T, T] }) (hs : ρ s = v) (hx : ρ x = u)
    (hr : (Builtin.append_ #[T, T] o.type #[v, u]).run Tryz.prog w = .ok r w') : (execOp ρ o).run Tryz.prog w = .ok (.value r) w' := by
  unfold execOp
  simp only [ho, resolve, invoke, builtin, Sem.run_bind, Sem.run_pure, Result.andThen_ok, List.map_toArray, List.map_cons, List.map_nil, hs, hx, hr]
theorem c12_alloc (w : World) (y : Ob) (g : Nat) (hg : g = w.heap.size) : C12 (w.alloc (.cells #[.int .i64 y.k, .int .i64 y.x, .bool y.n, .int .i64 y.t, .int .i64 y.o, .int .i64 y.r, .int .i64 y.d, .int .i64 y.i, .int .i64 y.p, .int .i64 y.q, .int .i64 y.s, .int .i64 y.m] 39)) g 0 y := fun j hj => by
  subst hg
  rw [Nat.zero_add, cell_of_row _ _ _ _ _ _ (heap_alloc_new w _)]
  simp [Ob.cl]
def XA (row : Option Nat) (s k : Nat) (w w' : World) : Prop := if k = s then w.grownBy w' row else Below w.heap.size w w'
theorem XA_refl (row : Option Nat) (s k : Nat) (w : World) : XA row s k w w := by
  unfold XA
  by_cases h : k = s
  · rw [if_pos h]; exact ⟨rfl, rfl, rfl, Nat.le_refl _, fun _ _ _ => rfl⟩
  · rw [if_neg h]; exact Below.refl _ _
theorem XA_of {row : Option Nat} {s k : Nat} {w w' : World} (h : k ≠ s) (hb : Below w.heap.size w w') : XA row s k w w' := by unfold XA; rw [if_neg h]; exact hb
theorem XA_at {row : Option Nat} {s k : Nat} {w w' : World} (h : k = s) (hb : w.grownBy w' row) : XA row s k w w' := by unfold XA; rw [if_pos h]; exact hb
/-- A slice of one object in a new block. -/
def NewOb (wo : World) (y : Ob) : Ty := fun u w => ∃ b, u = .slice (some ⟨b, 0, none⟩) 1 1 ∧ wo.heap.size ≤ b ∧ C12 w b 0 y
theorem NewOb.keeps {wo : World} {y : Ob} {row : Option Nat} (hrow : ∀ b, row = some b → b < wo.heap.size) (s k : Nat) : T3.Keeps (XA row s) k (NewOb wo y) := by
  rintro j _ u w w' ⟨b, h1, h2, h3⟩ hx
  have hlt : b < w.heap.size := by
    have := h3 0 (by decide)
    exact World.block_lt_of_cell? w ⟨b, 0 + 0, none⟩ (by rw [this]; rfl)
  refine ⟨b, h1, h2, fun i hi => ?_⟩
  rw [← h3 i hi]
  unfold XA at hx
  by_cases hj : j = s
  · rw [if_pos hj] at hx
    exact World.cell?_of_block (hx.block b hlt (fun e => by have := hrow b e.symm; omega))
  · rw [if_neg hj] at hx
    exact hx.cell (p := ⟨b, 0 + i, none⟩) hlt
/-- A row of objects of the call's own. -/
def NewRow (S : Nat) (zs : List Ob) (n : Nat) : Ty := fun u w => ∃ g cap, u = .slice (some ⟨g, 0, none⟩) n cap ∧ w.ownsRow S 39 12 u zs.length (flat zs)
theorem NewRow.keeps {S n : Nat} {zs : List Ob} {row : Option Nat} (s : Nat) : T3.Keeps (XA row s) s (NewRow S zs n) := by
  rintro j hj u w w' ⟨g, cap, h1, h2⟩ hx
  unfold XA at hx
  rw [if_neg hj] at hx
  exact ⟨g, cap, h1, own_below h2 hx⟩
end Go.Proofs.YthnajpckhoomgaaGreat
