/- Texts Base, Read, Put, Typed, Typ3, Rfn, Zba, Zfa, Pkb, Shelf of this proof, in one. No conditions but on lengths. -/
import Derived.Test.YtdigjklhfimnbaaGreatRows
import Derived.ArgAppend
import Derived.Below
import Derived.BigQuiet
import Derived.Calls
import Derived.ChangeArms
import Derived.ChangeKeysEq
import Derived.ChangeOld
import Derived.Deep.QuietTactic
import Derived.Deep.RegionLaw
import Derived.Deep.Slices
import Derived.Ground.GgzProg
import Derived.Ground.Names2Prog
import Derived.Laws.AppendOwnNone
import Derived.Laws.BytesArg
import Derived.Laws.OwnMore
import Derived.Laws.StructEq
import Derived.Lib.ConvBytes
import Derived.Lib.Hide
import Derived.Lib.QuietBelow
import Derived.LoopTactic
import Derived.Maps.AppendAt
import Derived.OpenShut
import Derived.Orders
import Derived.Outline
import Derived.ProofKit
import Derived.RangeFuncBox
import Derived.RangeFuncCalls
import Derived.RangeFuncLeaves
import Derived.RangeFuncNested
import Derived.Shelf.SlIterI.Nil
import Derived.Shelf.Slices.CompactI
import Derived.Shelf.Slices.In.SortNone
import Derived.Shelf.Sort.Plain
import Derived.ShutString
import Derived.StillTail
import Derived.WalkKit
import Derived.WalkSpells
import Derived.WideShapes
namespace Go.Proofs.YtdigjklhfimnbaaGreat
set_option maxRecDepth 100000
open Go.RowKit

/-- A value that is a slice of bytes whose elements read as xs. -/
def Bs (w : World) (v : Value) (xs : List Int) : Prop :=
  (∀ x ∈ xs, 0 ≤ x ∧ x < 256) ∧ xs.length ≤ 9223372036854775807 ∧
  ((∃ a cap, v = .slice a 0 cap ∧ (a = none → cap = 0) ∧ xs = []) ∨
   ∃ b off cap, v = .slice (some ⟨b, off, none⟩) xs.length cap ∧ xs.length ≤ cap ∧ ∀ i, i < xs.length → w.cell? ⟨b, off + i, none⟩ = some (.int .u8 (xs.getD i 0)))
end Go.Proofs.YtdigjklhfimnbaaGreat
namespace Go.Proofs.YtdigjklhfimnbaaGreat
set_option maxRecDepth 100000
open Go.RowKit

/-- 256 to the n. -/
def pow256 : Nat → Int
  | 0 => 1
  | n + 1 => 256 * pow256 n
theorem pow256_pos (n : Nat) : 1 ≤ pow256 n := by
  induction n with
  | zero => decide
  | succ n ih => simp only [pow256]; omega
theorem pow256_le {n m : Nat} (h : n ≤ m) : pow256 n ≤ pow256 m := by
  induction m with
  | zero => obtain rfl : n = 0 := by omega
            exact Int.le_refl _
  | succ m ih =>
    rcases Nat.lt_or_ge m n with h' | h'
    · obtain rfl : n = m + 1 := by omega
      exact Int.le_refl _
    · have := ih h'; have := pow256_pos m; simp only [pow256]; omega
theorem pow256_seven : pow256 7 = 72057594037927936 := by decide
theorem pow256_small {n : Nat} (h : n ≤ 7) : pow256 n ≤ 72057594037927936 := by
  have := pow256_le h; rw [pow256_seven] at this; exact this
/-- Bytes as a number, the highest first. -/
def be (xs : List Int) : Int := xs.foldl (fun a x => 256 * a + x) 0
end Go.Proofs.YtdigjklhfimnbaaGreat
namespace Go.Proofs.YtdigjklhfimnbaaGreat
set_option maxRecDepth 100000
open Go.RowKit

theorem Tryz.info5 : (Tryz.prog.info? 5).map (fun i => (i.zero, i.size, i.bytes)) = some (some (.int .u8 0), 1, 1) := by kernel_rfl
theorem store_any (b : Nat) (x v : Int) (w : World) (hc : w.cell? ⟨b, 0, none⟩ = some (.int .u64 x)) (hf : w.frozen? ⟨b, 0, none⟩ = false) :
    Calls Tryz.prog 215 #[.pointer (some ⟨b, 0, none⟩), .int .u64 v] w fun e w' => e = .returned (.tuple #[]) ∧ w' = w.setCell ⟨b, 0, none⟩ (.int .u64 v) := by
  have hs := run_call_store (P := Tryz.prog) Tryz.func247 (by kernel_rfl) (by kernel_rfl) (by kernel_rfl) (by kernel_rfl) (k := .u64) (y := v) hc hf
  go_enter Tryz.func215, Tryz.ntmps215
  go_wp2
  go_end0
  exact ⟨rfl, rfl⟩
theorem load_any (b : Nat) (x : Int) (w : World) (hc : w.cell? ⟨b, 0, none⟩ = some (.int .u64 x)) :
    Calls Tryz.prog 216 #[.pointer (some ⟨b, 0, none⟩)] w fun e w' => e = .returned (.int .u64 x) ∧ w = w' := by
  have hl := run_call_load (P := Tryz.prog) Tryz.func248 (by kernel_rfl) (by kernel_rfl) (by kernel_rfl) .u64 (by kernel_rfl) hc
  go_enter Tryz.func216, Tryz.ntmps216
  go_wp2
  go_ret
  exact ⟨rfl, rfl⟩
/-- The n lowest bytes of a number, the highest first. -/
def lo (v : Int) (n : Nat) : List Int := (List.range n).map fun i => v / 256 ^ (n - 1 - i) % 256
theorem two_pow8 (v : Int) (m : Nat) : v / 256 ^ m % 256 = v / 2 ^ (8 * m) % 256 := by
  rw [Int.pow_mul]; rfl
/-- n bytes by their places. -/
def row (F : Nat → Int) (n : Nat) : List Value := (List.range n).map fun i => Value.int .u8 (F i)
theorem row_len (F : Nat → Int) (n : Nat) : (row F n).length = n := by simp [row]
theorem row_get (F : Nat → Int) (n k : Nat) (h : k < n) : (row F n)[k]? = some (.int .u8 (F k)) := by simp [row, h]
theorem row_set (F G : Nat → Int) (n k : Nat) (x : Int) (hk : G k = x) (ho : ∀ i, i < n → i ≠ k → G i = F i) : (row F n).set k (.int .u8 x) = row G n := by
  apply List.ext_getElem?
  intro i
  rw [List.getElem?_set]
  by_cases hi : i < n
  · rw [row_get _ _ _ hi, row_get _ _ _ hi, row_len]
    by_cases e : k = i
    · subst e; rw [if_pos rfl, if_pos hi, hk]
    · rw [if_neg e, ho i hi (fun h => e h.symm)]
  · rw [List.getElem?_eq_none (by rw [row_len]; omega), List.getElem?_eq_none (by rw [row_len]; omega), row_len]
    by_cases e : k = i
    · subst e; rw [if_pos rfl, if_neg hi]
    · rw [if_neg e]
theorem row_congr {F G : Nat → Int} {n : Nat} (h : ∀ i, i < n → F i = G i) : row F n = row G n :=
  List.map_congr_left fun i hi => by rw [h i (List.mem_range.1 hi)]
/-- The first k places filled; the places from k on filled. -/
def upTo (L : Nat → Int) (k i : Nat) : Int := if i < k then L i else 0
theorem row_up (L : Nat → Int) (n k : Nat) : (row (upTo L k) n).set k (.int .u8 (L k)) = row (upTo L (k + 1)) n := by
  refine row_set _ _ _ _ _ ?_ ?_
  · simp [upTo]
  · intro i _ hne
    by_cases h : i < k
    · simp only [upTo]; rw [if_pos h, if_pos (by omega)]
    · simp only [upTo]; rw [if_neg h, if_neg (by omega)]
theorem row_upTo (L : Nat → Int) (n : Nat) : row (upTo L n) n = row L n := row_congr fun i h => by simp only [upTo]; rw [if_pos h]
theorem row_upTo0 (L : Nat → Int) (n : Nat) : row (upTo L 0) n = row (fun _ => 0) n := row_congr fun i h => by simp [upTo]
theorem row_zero (n : Nat) : (madeCells (Value.int IntKind.u8 0).cells (n * 1)).toList = row (fun _ => 0) n := by
  have e : (Value.int IntKind.u8 0).cells = #[.int .u8 0] := rfl
  apply List.ext_getElem?
  intro i
  by_cases h : i < n
  · rw [row_get _ _ _ h, e]; simp [madeCells, h, Nat.mod_one]
  · rw [List.getElem?_eq_none (by simp [madeCells]; omega), List.getElem?_eq_none (by rw [row_len]; omega)]
/-- An owned row of bytes, as bytes that read so. -/
theorem Bs_of_row {w : World} {base g n : Nat} {F : Nat → Int} (h : w.ownsRow base 5 1 (.slice (some ⟨g, 0, none⟩) n n) n (row F n)) (hn : n ≤ 9223372036854775807) (hF : ∀ i, i < n → 0 ≤ F i ∧ F i < 256) :
    Bs w (.slice (some ⟨g, 0, none⟩) n n) ((List.range n).map F) := by
  refine ⟨fun x hx => ?_, by simpa using hn, .inr ⟨g, 0, n, by simp, by simp, fun i hi => ?_⟩⟩
  · obtain ⟨i, hi, rfl⟩ := List.mem_map.1 hx
    exact hF i (List.mem_range.1 hi)
  · have hi' : i < n := by simpa using hi
    rw [Nat.zero_add, h.cellAt i (by omega), row_get _ _ _ hi']
    simp [List.getD, hi']
/-- It returns a slice that reads as xs, and nothing that was there has changed. -/
def RetBs (xs : List Int) (w : World) (e : Ending) (w' : World) : Prop := ∃ r, e = .returned r ∧ Bs w' r xs ∧ Below w.heap.size w w'
set_option maxHeartbeats 400000 in
theorem spell_any (v : Int) (n : Nat) (w : World) (_ : 0 ≤ v) (h1 : 1 ≤ n) (h8 : n ≤ 8) :
    Calls Tryz.prog 177 #[.int .u64 v, .int .i64 n] w (RetBs (lo v n) w) := by
  obtain ⟨i0, hi, hz0, hz1, hz2⟩ := info_parts Tryz.info5
  go_enter Tryz.func177, Tryz.ntmps177
  go_wp2_with (first
    | (go_at_call 215; refine (store_any _ 0 v _ (by simp) (by simp)).mono ?_; rintro e w' ⟨rfl, rfl⟩)
    | (at_make; go_must (refine wpList_make_full _ rfl _ _ 107 rfl (w.heap.size + 1) 5 i0 (.int .u8 0) 1 Tryz.underlying107 hi hz0 hz1 _ _ _ _ n rfl rfl rfl rfl (by rw [hz2]; omega) (by unfold maxLen; omega) (by simp) ?_); intro w1 hown hgrow))
  rw [row_zero] at hown
  have hbel : Below w.heap.size w w1 := (((Below.refl _ w).alloc (Nat.le_refl _) _).grown hgrow (by simp) (by simp))
  have hat : w1.cell? ⟨w.heap.size, 0, none⟩ = some (.int .u64 v) := hgrow.cell (by simp) (by simp)
  clear hgrow
  go_loopw [7, 14] (fun _ i wr => ∃ k : Nat, k ≤ n ∧ i = .int .i64 k ∧ wr.ownsRow (w.heap.size + 1) 5 1 (.slice (some ⟨w.heap.size + 1, 0, none⟩) n n) n (row (upTo (fun i => v / 256 ^ (n - 1 - i) % 256) k) n) ∧ Below w.heap.size w wr ∧ wr.cell? ⟨w.heap.size, 0, none⟩ = some (.int .u64 v)) (fun _ i _ => n - (intOf i).toNat)
  case atStart => exact ⟨0, Nat.zero_le _, rfl, by rw [row_upTo0]; simpa using hown, hbel, hat⟩
  case round =>
    clear hbel hat hown
    obtain ⟨k, hk, rfl, hown, hbel, hat⟩ := hrel
    by_cases hlt : k < n
    · have hcell := hown.cellAt k (by omega)
      rw [row_get _ _ _ hlt] at hcell
      have hfz := hown.frozenAt k
      have hst := Lib.hid (hown.stored k)
      have hb2 := Lib.hid hbel
      clear hown hbel
      go_wp2_with (go_at_call 216; refine (load_any _ v _ hat).mono ?_; rintro e w' ⟨rfl, rfl⟩)
      go_roundw
      case rel =>
        refine ⟨k + 1, by omega, by go_num, ?_, hb2.out.setCell (by simp) _, by rw [World.cell?_setCell_other _ _ _ _ (by simp)]; exact hat⟩
        rw [← row_up, two_pow8]
        exact (hst.out _).1
      case measure => simp [intOf]; omega
    · obtain rfl : k = n := by omega
      have ho := Lib.hid hown
      have hb2 := Lib.hid hbel
      clear hown hbel hat
      go_wp2
      go_ret
      refine ⟨_, rfl, ?_, hb2.out⟩
      have hr := ho.out
      rw [row_upTo] at hr
      exact Bs_of_row hr (by omega) (fun i _ => by omega)
/-- Put's answer: the bytes, the error. -/
def PutOk (v n : Int) : Prop := 1 ≤ n ∧ n ≤ 7 ∧ 0 ≤ v ∧ v < pow256 n.toNat
instance (v n : Int) : Decidable (PutOk v n) := by unfold PutOk; infer_instance
def putB (v n : Int) : List Int := if PutOk v n then lo v n.toNat else []
def putE (v n : Int) : Int := if PutOk v n then 0 else 1
def RetPut (v n : Int) (w : World) (e : Ending) (w' : World) : Prop := ∃ r, e = .returned (.tuple #[r, .int .i64 (putE v n)]) ∧ Bs w' r (putB v n) ∧ Below w.heap.size w w'
theorem Bs_nil (w : World) : Bs w (.slice none 0 0) [] := ⟨by simp, by simp, .inl ⟨none, 0, rfl, fun _ => rfl, rfl⟩⟩
theorem RetPut_bad {v n : Int} (w : World) (h : ¬ PutOk v n) : RetPut v n w (.returned (.tuple #[.slice none 0 0, .int .i64 1])) w :=
  ⟨_, by rw [putE, if_neg h], by rw [putB, if_neg h]; exact Bs_nil w, Below.refl _ _⟩
theorem pow2_8 (N : Nat) : (2 : Int) ^ (8 * N) = pow256 N := by
  induction N with
  | zero => rfl
  | succ N ih => rw [Nat.mul_succ, Int.pow_add, ih, Int.mul_comm]; rfl
theorem shl_pow (N : Nat) (h : N ≤ 7) : wrap64 ((2 : Int) ^ (8 * N)) = pow256 N := by
  have h1 := pow256_pos N
  have h2 := pow256_small h
  rw [pow2_8]; unfold wrap64; omega
set_option maxHeartbeats 400000 in
theorem put_any (v n : Int) (w : World) (hv : v < 9223372036854775808) : Calls Tryz.prog 135 #[.int .i64 v, .int .i64 n] w (RetPut v n w) := by
  by_cases c1 : n < 1 ∨ 7 < n ∨ v < 0
  · have hb := Lib.hid (fun w => RetPut_bad (v := v) (n := n) w (by unfold PutOk; omega))
    rcases c1 with c1 | c1 | c1
    all_goals
      go_enter Tryz.func135, Tryz.ntmps135
      go_wp2
      all_goals
        go_ret2
        exact hb.out _
  · obtain ⟨N, rfl⟩ := Int.eq_ofNat_of_zero_le (show (0 : Int) ≤ n by omega)
    have n1 : (1 : Int) ≤ (N : Int) := by omega
    have n7 : (N : Int) ≤ 7 := by omega
    have v0 : 0 ≤ v := by omega
    have n1' : 1 ≤ N := by omega
    have n8' : N ≤ 8 := by omega
    clear c1
    by_cases c2 : v < pow256 N
    · have hg : Hid (PutOk v N) := ⟨n1, n7, v0, c2⟩
      rw [← shl_pow N (by omega)] at c2
      go_enter Tryz.func135, Tryz.ntmps135
      go_wp2_with (go_at_call 177; refine (spell_any v N _ v0 n1' n8').mono ?_; rintro e w' ⟨r, rfl, hr, hbel⟩)
      go_ret2
      exact ⟨r, by rw [putE, if_pos hg.out]; rfl, by rw [putB, if_pos hg.out]; exact hr, hbel⟩
    · have hb := Lib.hid (fun w => RetPut_bad (v := v) (n := N) w (by unfold PutOk; simp only [Int.toNat_natCast]; omega))
      rw [← shl_pow N (by omega)] at c2
      go_enter Tryz.func135, Tryz.ntmps135
      go_wp2
      go_ret2
      exact hb.out _
set_option maxHeartbeats 400000 in
theorem int_any (v : Int) (w : World) :
    Calls Tryz.prog 242 #[.int .i64 v] w (RetBs (lo (IntKind.u64.wrap v) 8) w) := by
  have h0 : 0 ≤ IntKind.u64.wrap v := by rw [IntKind.wrap_u64]; omega
  go_enter Tryz.func242, Tryz.ntmps242
  go_wp2_with (go_at_call 177; refine (spell_any _ 8 _ h0 (by omega) (by omega)).mono ?_; rintro e w' ⟨r, rfl, hr, hbel⟩)
  go_ret
  exact ⟨r, rfl, hr, hbel⟩
end Go.Proofs.YtdigjklhfimnbaaGreat
namespace Go.Proofs.YtdigjklhfimnbaaGreat
set_option maxRecDepth 100000

/-- What is known of a value in a world. -/
def Ty := Value → World → Prop
section
variable (P : Program) (ops : Array Oper) (C : World → Prop) (X : World → World → Prop) (a0 : Act)

/-- A slot's value fits what is known: of a slot that the region writes, its type; of another one, what it held at first. -/
def Fits (E : Tmp → Option Ty) (a : Act) (w : World) (t : Tmp) : Prop :=
  match E t with
  | some V => V (a.eval (.tmp t)) w
  | none => a.eval (.tmp t) = a0.eval (.tmp t)
def Tame (V : Ty) (w : World) : Result Next → Prop
  | .ok (.value v) w' => C w' ∧ X w w' ∧ V v w'
  | .ok .skip w' => C w' ∧ X w w' ∧ V undef w'
  | .ok (.enter f args) w' => w' = w ∧ Calls P f args w (fun e w'' => ∃ v, e = .returned v ∧ C w'' ∧ X w w'' ∧ V v w'')
  | _ => False
def StepT (E : Tmp → Option Ty) (o : Oper) (V : Ty) : Prop :=
  ∀ (a : Act) (w : World), C w → (∀ t ∈ o.looksAt ops, Fits a0 E a w t) →
    if Region.wanted o (yielded ops a.tmps) then Tame P C X V w ((execOp a.eval o).run P w) else V undef w
def Keeps (V : Ty) : Prop := ∀ v w w', V v w → X w w' → V v w'
def push (o : Oper) (V : Ty) (E : Tmp → Option Ty) : Tmp → Option Ty := fun t => if o.dst = some t then some V else E t
def WalkT : List Oper → (Tmp → Option Ty) → ((Tmp → Option Ty) → Prop) → Prop
  | [], E, K => K E
  | o :: rest, E, K => ∃ V, Keeps X V ∧ StepT P ops C X a0 E o V ∧ WalkT rest (push o V E) K
def envs : List Oper → List Ty → (Tmp → Option Ty) → (Tmp → Option Ty)
  | o :: l, V :: Vs, E => envs l Vs (push o V E)
  | _, _, E => E
theorem envs_none {t : Tmp} : ∀ (l : List Oper) (Vs : List Ty) (E : Tmp → Option Ty), (∀ o ∈ l, o.dst ≠ some t) → envs l Vs E t = E t
  | [], _, _, _ => by simp [envs]
  | o :: l, [], _, _ => by simp [envs]
  | o :: l, V :: Vs, E, h => by
    rw [envs, envs_none l Vs _ (fun o' h' => h o' (List.mem_cons_of_mem _ h')), push, if_neg (h o List.mem_cons_self)]
theorem envs_some {t : Tmp} {o : Oper} {V : Ty} (ht : o.dst = some t) : ∀ (l : List Oper) (Vs : List Ty) (E : Tmp → Option Ty) (j : Nat),
    l[j]? = some o → Vs[j]? = some V → (∀ k o', j < k → l[k]? = some o' → o'.dst ≠ some t) → envs l Vs E t = some V
  | [], _, _, j, h, _, _ => by simp at h
  | _ :: _, [], _, j, _, h, _ => by simp at h
  | o1 :: l, V1 :: Vs, E, 0, h1, h2, h3 => by
    simp at h1 h2
    subst h1 h2
    rw [envs, envs_none l Vs _ (fun o' h' => by
      obtain ⟨k, hk⟩ := List.mem_iff_getElem?.1 h'
      exact h3 (k + 1) o' (by omega) (by simpa using hk)), push, if_pos ht]
  | o1 :: l, V1 :: Vs, E, j + 1, h1, h2, h3 => by
    rw [envs]
    exact envs_some ht l Vs _ j (by simpa using h1) (by simpa using h2) (fun k o' hk ho => h3 (k + 1) o' (by omega) (by simpa using ho))
theorem walk_ex {K : (Tmp → Option Ty) → Prop} : ∀ (l : List Oper) (E : Tmp → Option Ty), WalkT P ops C X a0 l E K →
    ∃ Vs : List Ty, Vs.length = l.length ∧ (∀ i o V, l[i]? = some o → Vs[i]? = some V → Keeps X V ∧ StepT P ops C X a0 (envs (l.take i) (Vs.take i) E) o V) ∧ K (envs l Vs E)
  | [], E, h => ⟨[], rfl, fun i o V h1 => by simp at h1, by simpa [envs, WalkT] using h⟩
  | o :: l, E, h => by
    obtain ⟨V, hk, hs, hw⟩ := h
    obtain ⟨Vs, hl, ha, hK⟩ := walk_ex l _ hw
    refine ⟨V :: Vs, by simp [hl], fun i o' V' h1 h2 => ?_, by rw [envs]; exact hK⟩
    cases i with
    | zero =>
      simp at h1 h2
      subst h1 h2
      exact ⟨hk, by simpa [envs] using hs⟩
    | succ i =>
      have := ha i o' V' (by simpa using h1) (by simpa using h2)
      rw [List.take_succ_cons, List.take_succ_cons, envs]
      exact this
/-- Each slot that the region writes is written once, and read behind what writes it alone. -/
def okB (md : Region.Mode) (l : List Oper) (n : Nat) : Bool :=
  (List.range l.length).all fun i => match l[i]? with
    | none => true
    | some o =>
      (match o.dst with | some d => decide (d < n) | none => true) && (o.after.all fun e => !Region.binds md e || decide (e.on < i)) &&
      (List.range l.length).all fun j => match l[j]? with
        | none => true
        | some o' => match o'.dst with
          | none => true
          | some t => (decide (i = j) || !(o.dst == some t)) && (!(o.looksAt l.toArray).contains t || (decide (j < i) && o.after.any fun e => Region.binds md e && e.on == j))
theorem okB_spec {md : Region.Mode} {l : List Oper} {n : Nat} (h : okB md l n = true) :
    (∀ (i : Nat) (o : Oper) (d : Tmp), l[i]? = some o → o.dst = some d → d < n) ∧
    (∀ (i j : Nat) (o o' : Oper) (t : Tmp), l[i]? = some o → l[j]? = some o' → o.dst = some t → o'.dst = some t → i = j) ∧
    (∀ (i j : Nat) (o o' : Oper) (t : Tmp), l[i]? = some o → l[j]? = some o' → o'.dst = some t → t ∈ o.looksAt l.toArray → j < i ∧ ∃ e ∈ o.after, Region.binds md e = true ∧ e.on = j) ∧
    (∀ (i : Nat) (o : Oper), l[i]? = some o → ∀ e ∈ o.after, Region.binds md e = true → e.on < i) := by
  unfold okB at h
  rw [List.all_eq_true] at h
  have lt : ∀ {i : Nat} {o : Oper}, l[i]? = some o → i < l.length := fun h => (List.getElem?_eq_some_iff.1 h).1
  refine ⟨fun i o d hi hd => ?_, fun i j o o' t hi hj h1 h2 => ?_, fun i j o o' t hi hj h2 h3 => ?_, fun i o hi e he hb => ?_⟩
  · have := h i (List.mem_range.2 (lt hi))
    simp only [hi, hd, Bool.and_eq_true, decide_eq_true_eq] at this
    exact this.1.1
  · have := h i (List.mem_range.2 (lt hi))
    simp only [hi, Bool.and_eq_true] at this
    have := (List.all_eq_true.1 this.2) j (List.mem_range.2 (lt hj))
    simp only [hj, h2, h1, Bool.and_eq_true, Bool.or_eq_true, decide_eq_true_eq] at this
    rcases this.1 with h | h
    · exact h
    · simp at h
  · have := h i (List.mem_range.2 (lt hi))
    simp only [hi, Bool.and_eq_true] at this
    have := (List.all_eq_true.1 this.2) j (List.mem_range.2 (lt hj))
    simp only [hj, h2, Bool.and_eq_true, Bool.or_eq_true, decide_eq_true_eq] at this
    rcases this.2 with h | ⟨h, hh⟩
    · simp [h3] at h
    · refine ⟨h, ?_⟩
      obtain ⟨e, he, hb⟩ := Array.any_eq_true'.1 hh
      simp only [Bool.and_eq_true, beq_iff_eq] at hb
      exact ⟨e, he, hb.1, hb.2⟩
  · have := h i (List.mem_range.2 (lt hi))
    simp only [hi, Bool.and_eq_true] at this
    have := (Array.all_eq_true'.1 this.1.2) e he
    simpa [hb] using this
/-- What holds while the operations of 'listed' have come up. -/
def Inv (l : List Oper) (Vs : List Ty) (n : Nat) (listed : Array Bool) (a : Act) (w : World) : Prop :=
  C w ∧ a.tmps.size = n ∧ a.defers = a0.defers ∧
  (∀ (i : Nat) (o : Oper) (V : Ty) (t : Tmp), l[i]? = some o → Vs[i]? = some V → o.dst = some t → listed.getD i true = true → V (a.eval (.tmp t)) w) ∧
  (∀ t, (∀ (i : Nat) (o : Oper), l[i]? = some o → o.dst = some t → listed.getD i true = false) → a.eval (.tmp t) = a0.eval (.tmp t))
theorem eval_put_same {a : Act} {d : Tmp} {v : Value} (h : d < a.tmps.size) : (a.put (some d) v).eval (.tmp d) = v := by
  simp [Act.eval, Act.put, h]
variable {P ops C X a0}
theorem inv_put {md : Region.Mode} {l : List Oper} {Vs : List Ty} {n : Nat} (hok : okB md l n = true) (hk : ∀ (i : Nat) V, Vs[i]? = some V → Keeps X V) {listed : Array Bool} (hls : listed.size = l.length) {a : Act} {w w' : World} (h : Inv C a0 l Vs n listed a w)
    {i : Nat} {o : Oper} {V : Ty} {v : Value} (ho : l[i]? = some o) (hV : Vs[i]? = some V) (hC : C w') (hX : X w w') (hv : V v w') : Inv C a0 l Vs n (listed.setIfInBounds i true) (a.put o.dst v) w' := by
  obtain ⟨h1, h2, h3, h4, h5⟩ := h
  obtain ⟨k1, k2, _, _⟩ := okB_spec hok
  have hil : i < l.length := (List.getElem?_eq_some_iff.1 ho).1
  refine ⟨hC, by cases o.dst <;> simp [Act.put, h2], by cases o.dst <;> simp [Act.put, h3], fun j o' V' t hj hV' ht hl => ?_, fun t ht => ?_⟩
  · by_cases hij : i = j
    · subst hij
      rw [ho] at hj; cases hj
      rw [hV] at hV'; cases hV'
      rw [ht, eval_put_same (by rw [h2]; exact k1 i o t ho ht)]
      exact hv
    · rw [Act.eval_put (fun d hd hx => hij (k2 i j o o' t ho hj (by cases hx; exact hd) ht))]
      rw [getD_set_ne true hij] at hl
      exact hk j V' hV' _ _ _ (h4 j o' V' t hj hV' ht hl) hX
  · rw [Act.eval_put (fun d hd hx => by
      cases hx
      have := ht i o ho hd
      simp [hls, hil] at this)]
    refine h5 t fun j o' hj hd => ?_
    by_cases hij : i = j
    · subst hij
      have := ht i o' hj hd
      simp [hls, hil] at this
    · have := ht j o' hj hd
      rwa [getD_set_ne true hij] at this
theorem count_set : ∀ (l : List Bool) (i : Nat), l[i]? = some false → (l.set i true).count false + 1 = l.count false
  | [], i, h => by simp at h
  | b :: l, 0, h => by simp at h; subst h; simp
  | b :: l, i + 1, h => by
    have := count_set l i (by simpa using h)
    rw [List.set_cons_succ, List.count_cons, List.count_cons]
    omega
theorem getD_get {listed : Array Bool} {i : Nat} (h : listed.getD i true = false) : listed.toList[i]? = some false := by
  rcases Nat.lt_or_ge i listed.size with h' | h'
  · simp [h'] at h
    simp [h', h]
  · simp [Array.getElem?_eq_none h'] at h
theorem least (listed : Array Bool) (h : 0 < listed.toList.count false) : ∃ i, (i < listed.size ∧ listed.getD i true = false) ∧ ∀ j, j < i → listed.getD j true = true := by
  have hm : false ∈ listed.toList := List.count_pos_iff.1 h
  obtain ⟨k, hk⟩ := List.mem_iff_getElem?.1 hm
  have hkl : k < listed.size := by have := (List.getElem?_eq_some_iff.1 hk).1; simpa using this
  have hk' : listed.getD k true = false := by
    have : listed[k]? = some false := by simpa using hk
    simp [this]
  have key : ∀ n, (∃ i, i ≤ n ∧ listed.getD i true = false) → ∃ i, listed.getD i true = false ∧ ∀ j, j < i → listed.getD j true = true := by
    intro n
    induction n with
    | zero => rintro ⟨i, hi, h⟩; obtain rfl : i = 0 := by omega
              exact ⟨0, h, fun j hj => by omega⟩
    | succ n ih =>
      rintro ⟨i, hi, h⟩
      by_cases hex : ∃ i, i ≤ n ∧ listed.getD i true = false
      · exact ih hex
      · refine ⟨i, h, fun j hj => ?_⟩
        cases hb : listed.getD j true with
        | true => rfl
        | false => exact absurd ⟨j, by omega, hb⟩ hex
  obtain ⟨i, hi, hmin⟩ := key k ⟨k, Nat.le_refl _, hk'⟩
  refine ⟨i, ⟨?_, hi⟩, hmin⟩
  rcases Nat.lt_or_ge i listed.size with h' | h'
  · exact h'
  · simp [Array.getElem?_eq_none h'] at hi
theorem wpAny_typed {md : Region.Mode} {l : List Oper} {Vs : List Ty} {n : Nat} {Q : Exit → Act → World → Prop} (hok : okB md l n = true) (hlen : Vs.length = l.length) (hrefl : ∀ w, X w w)
    (hall : ∀ (i : Nat) (o : Oper) (V : Ty), l[i]? = some o → Vs[i]? = some V → Keeps X V ∧ StepT P l.toArray C X a0 (envs (l.take i) (Vs.take i) fun _ => none) o V)
    (hQ : ∀ (listed : Array Bool) (a : Act) (w : World), listed.toList.count false = 0 → listed.size = l.length → Inv C a0 l Vs n listed a w → Q .normal a w) :
    ∀ (fuel : Nat) (listed : Array Bool) (a : Act) (w : World), listed.size = l.length → listed.toList.count false = fuel → Inv C a0 l Vs n listed a w → wpAny P md l.toArray Q fuel listed a w := by
  have hk : ∀ (i : Nat) V, Vs[i]? = some V → Keeps X V := fun i V hV => by
    have hi : i < l.length := by have := (List.getElem?_eq_some_iff.1 hV).1; omega
    exact (hall i l[i] V (List.getElem?_eq_getElem hi) hV).1
  have hnone : ∀ (listed : Array Bool), listed.toList.count false = 0 → Region.ready md l.toArray listed = [] := fun listed h0 => by
    rw [List.eq_nil_iff_forall_not_mem]
    intro j hj
    have := getD_get (mem_ready.1 hj).1
    have hm : false ∈ listed.toList := List.mem_of_getElem? this
    have := List.count_pos_iff.2 hm
    omega
  intro fuel
  induction fuel with
  | zero => intro listed a w hs h0 hI; exact ⟨hnone listed h0, hQ listed a w h0 hs hI⟩
  | succ fuel ih =>
    intro listed a w hs hf hI
    have hmem : ∀ i ∈ Region.ready md l.toArray listed, wpOp P l.toArray Q i (wpAny P md l.toArray Q fuel (listed.setIfInBounds i true)) a w := by
      intro i hi
      obtain ⟨hun, o, ho, hafter⟩ := mem_ready.1 hi
      have ho' : l[i]? = some o := by simpa using ho
      have hil : i < l.length := (List.getElem?_eq_some_iff.1 ho').1
      obtain ⟨V, hV⟩ : ∃ V, Vs[i]? = some V := ⟨Vs[i]'(by omega), List.getElem?_eq_getElem (by omega)⟩
      obtain ⟨_, hstep⟩ := hall i o V ho' hV
      obtain ⟨k1, k2, k3, _⟩ := okB_spec hok
      have hcnt : (listed.setIfInBounds i true).toList.count false = fuel := by
        have := count_set listed.toList i (getD_get hun)
        rw [Array.toList_setIfInBounds]
        omega
      have hnext : ∀ (v : Value) (w' : World), C w' → X w w' → V v w' → wpAny P md l.toArray Q fuel (listed.setIfInBounds i true) (a.put o.dst v) w' := fun v w' h1 h2 h3 =>
        ih _ _ _ (by simpa using hs) hcnt (inv_put hok hk hs hI ho' hV h1 h2 h3)
      have hfits : ∀ t ∈ o.looksAt l.toArray, Fits a0 (envs (l.take i) (Vs.take i) fun _ => none) a w t := by
        intro t ht
        unfold Fits
        by_cases hex : ∃ (j : Nat) (o' : Oper), l[j]? = some o' ∧ o'.dst = some t
        · obtain ⟨j, o', hj, hd⟩ := hex
          obtain ⟨hji, e, he, hb, hon⟩ := k3 i j o o' t ho' hj hd ht
          have hjl : j < Vs.length := by omega
          have hVj : Vs[j]? = some Vs[j] := List.getElem?_eq_getElem hjl
          have henv := envs_some (V := Vs[j]) hd (l.take i) (Vs.take i) (fun _ => none) j (by rw [List.getElem?_take, if_pos hji]; exact hj) (by rw [List.getElem?_take, if_pos hji]; exact hVj) (fun k o'' hjk hk' hd' => by
            have hk2 : l[k]? = some o'' := by
              rw [List.getElem?_take] at hk'
              split at hk'
              · exact hk'
              · cases hk'
            have := k2 j k o' o'' t hj hk2 hd hd'
            omega)
          rw [henv]
          have hl := hafter e he hb
          rw [hon] at hl
          have hl' : listed.getD j true = true := by
            have hjs : j < listed.size := by rw [hs]; omega
            simp [hjs] at hl ⊢
            exact hl
          exact hI.2.2.2.1 j o' Vs[j] t hj hVj hd hl'
        · have henv := envs_none (t := t) (l.take i) (Vs.take i) (fun _ => none) (fun o' ho' hd => by
            obtain ⟨k, hk'⟩ := List.mem_iff_getElem?.1 ho'
            rw [List.getElem?_take] at hk'
            split at hk'
            · exact hex ⟨k, o', hk', hd⟩
            · cases hk')
          rw [henv]
          exact hI.2.2.2.2 t fun j o' hj hd => absurd ⟨j, o', hj, hd⟩ hex
      have hs2 := hstep a w hI.1 hfits
      unfold wpOp
      simp only [ho]
      by_cases hw : Region.wanted o (yielded l.toArray a.tmps) = true
      · rw [if_pos hw] at hs2
        simp only [hw, if_true]
        left
        unfold Oper.wp
        generalize (execOp a.eval o).run P w = r at *
        cases r with
        | ok nx w' =>
          cases nx <;> simp only [Tame] at hs2 <;> simp only [Oper.upon]
          case value v => exact hnext v w' hs2.1 hs2.2.1 hs2.2.2
          case skip => exact hnext undef w' hs2.1 hs2.2.1 hs2.2.2
          case enter f args =>
            obtain ⟨rfl, hc⟩ := hs2
            exact hc.mono fun e w'' ⟨v, he, h1, h2, h3⟩ => by subst he; exact hnext v w'' h1 h2 h3
        | halt x w' => simp only [Tame] at hs2
      · rw [if_neg hw] at hs2
        simp only [hw]
        exact hnext undef w hI.1 (hrefl w) hs2
    refine ⟨fun hr => ?_, hmem⟩
    obtain ⟨i, hi, hmin⟩ := least listed (by omega)
    have hil : i < l.length := by rw [← hs]; exact hi.1
    refine absurd (mem_ready.2 ⟨hi.2, l[i], by simp [hil], fun e he hb => ?_⟩ : i ∈ Region.ready md l.toArray listed) (by rw [hr]; simp)
    have hlt := (okB_spec hok).2.2.2 i l[i] (List.getElem?_eq_getElem hil) e he hb
    have hes : e.on < listed.size := by omega
    have := hmin e.on hlt
    simp [hes] at this ⊢
    exact this
/-- **THE REGION.** -/
theorem wp_region_typed {id n : Nat} {l : List Oper} {Q : Exit → Act → World → Prop} {w : World} (hm : P.follows .mixedOrders = true) (hok : okB .any l n = true) (hn : a0.tmps.size = n)
    (hrefl : ∀ w, X w w) (hC : C { w with drawn := w.drawn + 1 })
    (h : WalkT P l.toArray C X a0 l (fun _ => none) fun E => ∀ (a : Act) (w' : World), C w' → a.tmps.size = n → a.defers = a0.defers → (∀ t, Fits a0 E a w' t) → Q .normal a w') :
    (Code.region id l.toArray true).wp P Q a0 w := by
  obtain ⟨Vs, hlen, hall, hK⟩ := walk_ex P l.toArray C X a0 l _ h
  refine wp_region_any hm ?_
  have hsz : (Array.replicate l.toArray.size false).size = l.length := by simp
  refine wpAny_typed (Vs := Vs) (n := n) hok hlen hrefl hall ?_ _ _ _ _ hsz (by simp) ⟨hC, hn, rfl, fun i o V t ho hV ht hl => ?_, fun t _ => rfl⟩
  · intro listed a w' h0 hs hI
    have hall1 : ∀ j, listed.getD j true = true := fun j => by
      cases hb : listed.getD j true with
      | true => rfl
      | false =>
        have hm : false ∈ listed.toList := List.mem_of_getElem? (getD_get hb)
        have := List.count_pos_iff.2 hm
        omega
    refine hK a w' hI.1 hI.2.1 hI.2.2.1 fun t => ?_
    unfold Fits
    by_cases hex : ∃ (j : Nat) (o' : Oper), l[j]? = some o' ∧ o'.dst = some t
    · obtain ⟨j, o', hj, hd⟩ := hex
      have hjl : j < Vs.length := by have := (List.getElem?_eq_some_iff.1 hj).1; omega
      have hVj : Vs[j]? = some Vs[j] := List.getElem?_eq_getElem hjl
      rw [envs_some (V := Vs[j]) hd l Vs (fun _ => none) j hj hVj (fun k o'' hjk hk' hd' => by
        have := (okB_spec hok).2.1 j k o' o'' t hj hk' hd hd'
        omega)]
      exact hI.2.2.2.1 j o' Vs[j] t hj hVj hd (hall1 j)
    · rw [envs_none (t := t) l Vs (fun _ => none) (fun o' ho' hd => by
        obtain ⟨k, hk'⟩ := List.mem_iff_getElem?.1 ho'
        exact hex ⟨k, o', hk', hd⟩)]
      exact hI.2.2.2.2 t fun j o' hj hd => absurd ⟨j, o', hj, hd⟩ hex
  · have hi : i < l.length := (List.getElem?_eq_some_iff.1 ho).1
    simp [hi] at hl
def Is (c : Value) : Ty := fun v _ => v = c
def Fit (E : Tmp → Option Ty) (a0 : Act) (ρ : Operand → Value) (w : World) (t : Tmp) : Prop :=
  match E t with
  | some V => V (ρ (.tmp t)) w
  | none => ρ (.tmp t) = a0.eval (.tmp t)
/-- Nothing guards it, or what guards it yields just that. -/
def Known (E : Tmp → Option Ty) (a0 : Act) (d : Tmp) (c : Value) : Prop := ∀ (a : Act) (w : World), Fits a0 E a w d → a.eval (.tmp d) = c
theorem known_is {E : Tmp → Option Ty} {d : Tmp} {c : Value} (h : E d = some (Is c)) : Known E a0 d c := fun a w hf => by
  unfold Fits at hf; rw [h] at hf; exact hf
def Wanted (ops : Array Oper) (a0 : Act) (E : Tmp → Option Ty) (o : Oper) : Prop :=
  o.guard = none ∨ ∃ g d want, o.guard = some (g, want) ∧ (ops[g]?).bind (·.dst) = some d ∧ Known E a0 d (.bool want)
theorem Wanted.on {E : Tmp → Option Ty} {o : Oper} (h : Wanted ops a0 E o) {a : Act} {w : World} (hf : ∀ t ∈ o.looksAt ops, Fits a0 E a w t) : Region.wanted o (yielded ops a.tmps) = true := by
  rcases h with h | ⟨g, d, want, h1, h2, h3⟩
  · simp [Region.wanted, h]
  · have hv := h3 a w (hf d (by simp [Oper.looksAt, h1, h2]))
    have hy : yielded ops a.tmps g = some want := by
      unfold yielded
      rw [h2]
      simp only [Act.eval] at hv
      rcases Nat.lt_or_ge d a.tmps.size with h | h
      · simp [h] at hv
        simp [h, hv]
      · simp [Array.getElem?_eq_none h, undef] at hv
    simp [Region.wanted, h1, hy]
theorem w_is {o : Oper} {rest : List Oper} {E : Tmp → Option Ty} {K : (Tmp → Option Ty) → Prop} (hrefl : ∀ w, X w w) (c : Value) (G : Wanted ops a0 E o)
    (h : ∀ (ρ : Operand → Value) (w : World), C w → (∀ c, ρ (.const c) = c) → (∀ f, ρ (.func f) = .func (.func f) #[] #[]) → (∀ t ∈ o.looksAt ops, Fit E a0 ρ w t) → (execOp ρ o).run P w = .ok (.value c) w)
    (hw : WalkT P ops C X a0 rest (push o (Is c) E) K) : WalkT P ops C X a0 (o :: rest) E K :=
  ⟨Is c, fun _ _ _ h _ => h, fun a w hC hf => by
    rw [if_pos (G.on hf), h a.eval w hC (fun _ => rfl) (fun _ => rfl) hf]
    exact ⟨hC, hrefl w, rfl⟩, hw⟩
/-- A call. -/
theorem w_call {o : Oper} {rest : List Oper} {E : Tmp → Option Ty} {K : (Tmp → Option Ty) → Prop} (V : Ty) (hV : Keeps X V) (f : FuncId) (G : Wanted ops a0 E o)
    (h : ∀ (ρ : Operand → Value) (w : World), C w → (∀ c, ρ (.const c) = c) → (∀ f, ρ (.func f) = .func (.func f) #[] #[]) → (∀ t ∈ o.looksAt ops, Fit E a0 ρ w t) →
      ∃ args, (execOp ρ o).run P w = .ok (.enter f args) w ∧ Calls P f args w (fun e w' => ∃ v, e = .returned v ∧ C w' ∧ X w w' ∧ V v w'))
    (hw : WalkT P ops C X a0 rest (push o V E) K) : WalkT P ops C X a0 (o :: rest) E K :=
  ⟨V, hV, fun a w hC hf => by
    obtain ⟨args, h1, h2⟩ := h a.eval w hC (fun _ => rfl) (fun _ => rfl) hf
    rw [if_pos (G.on hf), h1]
    exact ⟨rfl, h2⟩, hw⟩
/-- What its guard shuts out. -/
theorem w_skip {o : Oper} {rest : List Oper} {E : Tmp → Option Ty} {K : (Tmp → Option Ty) → Prop} {g : Nat} {d : Tmp} {want : Bool} (h1 : o.guard = some (g, want)) (h2 : (ops[g]?).bind (·.dst) = some d) (h3 : Known E a0 d (.bool (!want)))
    (hw : WalkT P ops C X a0 rest (push o (Is undef) E) K) : WalkT P ops C X a0 (o :: rest) E K :=
  ⟨Is undef, fun _ _ _ h _ => h, fun a w hC hf => by
    have hv := h3 a w (hf d (by simp [Oper.looksAt, h1, h2]))
    have hy : yielded ops a.tmps g = some (!want) := by
      unfold yielded
      rw [h2]
      simp only [Act.eval] at hv
      rcases Nat.lt_or_ge d a.tmps.size with h | h
      · simp [h] at hv
        simp [h, hv]
      · simp [Array.getElem?_eq_none h, undef] at hv
    rw [if_neg (by simp [Region.wanted, h1, hy])]
    rfl, hw⟩
end
open RowKit in
open RowKit in
theorem tc_below {P : Program} {f : FuncId} {args : Array Value} {W w : World} {v : Value} (hC : Below W.heap.size W w) (h : Calls P f args w fun e w' => e = .returned v ∧ Below w.heap.size w w') :
    Calls P f args w fun e w' => ∃ u, e = .returned u ∧ Below W.heap.size W w' ∧ Below w.heap.size w w' ∧ Is v u w' :=
  h.mono fun _ _ ⟨he, hb⟩ => ⟨_, he, hC.trans (hb.mono hC.size), hb, rfl⟩
open RowKit in
/-- A frame by its slots. -/
theorem frame_eq {a : Act} {n : Nat} (h : a.tmps.size = n) : a = { a with tmps := ((List.range n).map fun i => a.eval (.tmp i)).toArray } := by
  obtain ⟨tmps, defers⟩ := a
  simp only [Act.mk.injEq, and_true] at *
  apply Array.ext
  · simpa using h
  · intro i h1 h2
    simp [Act.eval, h1]
end Go.Proofs.YtdigjklhfimnbaaGreat
namespace Go.Proofs.YtdigjklhfimnbaaGreat.T3
set_option maxRecDepth 100000

section
variable (P : Program) (ops : Array Oper) (C : World → Prop) (X : Nat → World → World → Prop) (a0 : Act)

/-- The slot that an operation's fact is on: the one that it writes; of a store, the one that holds the address. -/
def keyOf (o : Oper) : Option Tmp :=
  match o.dst with
  | some d => some d
  | none => match o.op with
    | .store _ (.tmp p) _ => some p
    | _ => none
def FactV (V : Ty) (o : Oper) (a : Act) (v : Value) (w : World) : Prop :=
  match o.dst with
  | some _ => V v w
  | none => match keyOf o with
    | some p => V (a.eval (.tmp p)) w
    | none => True
def Tame (k : Nat) (V : Ty) (o : Oper) (a : Act) (w : World) : Result Next → Prop
  | .ok (.value v) w' => C w' ∧ X k w w' ∧ FactV V o a v w'
  | .ok .skip w' => C w' ∧ X k w w' ∧ FactV V o a undef w'
  | .ok (.enter f args) w' => w' = w ∧ Calls P f args w (fun e w'' => ∃ v, e = .returned v ∧ C w'' ∧ X k w w'' ∧ FactV V o a v w'')
  | _ => False
def StepT (k : Nat) (E : Tmp → Option Ty) (o : Oper) (V : Ty) : Prop :=
  ∀ (a : Act) (w : World), C w → (∀ t ∈ o.looksAt ops, Fits a0 E a w t) →
    if Region.wanted o (yielded ops a.tmps) then Tame P C X k V o a w ((execOp a.eval o).run P w) else FactV V o a undef w
def Keeps (k : Nat) (V : Ty) : Prop := ∀ j, j ≠ k → ∀ v w w', V v w → X j w w' → V v w'
def pushF (o : Oper) (V : Ty) (F : List (Tmp × Ty)) : List (Tmp × Ty) :=
  match o.dst with
  | some _ => F
  | none => match keyOf o with
    | some p => (p, V) :: F
    | none => F
def WalkT : Nat → List Oper → (Tmp → Option Ty) → List (Tmp × Ty) → ((Tmp → Option Ty) → List (Tmp × Ty) → Prop) → Prop
  | _, [], E, F, K => K E F
  | k, o :: rest, E, F, K => ∃ V, Keeps X k V ∧ StepT P ops C X a0 k E o V ∧ WalkT (k + 1) rest (push o V E) (pushF o V F) K
def facts : List Oper → List Ty → List (Tmp × Ty) → List (Tmp × Ty)
  | o :: l, V :: Vs, F => facts l Vs (pushF o V F)
  | _, _, F => F
theorem mem_facts : ∀ (l : List Oper) (Vs : List Ty) (F : List (Tmp × Ty)) (x : Tmp × Ty), x ∈ facts l Vs F → x ∈ F ∨ ∃ (i : Nat) (o : Oper), l[i]? = some o ∧ Vs[i]? = some x.2 ∧ keyOf o = some x.1
  | [], _, _, x, h => .inl (by simpa [facts] using h)
  | _ :: _, [], _, x, h => .inl (by simpa [facts] using h)
  | o :: l, V :: Vs, F, x, h => by
    rw [facts] at h
    rcases mem_facts l Vs _ x h with h | ⟨i, o', h1, h2, h3⟩
    · unfold pushF at h
      split at h
      · exact .inl h
      · split at h
        · rename_i p hp
          rcases List.mem_cons.1 h with rfl | h
          · exact .inr ⟨0, o, by simp, by simp, hp⟩
          · exact .inl h
        · exact .inl h
    · exact .inr ⟨i + 1, o', by simpa using h1, by simpa using h2, h3⟩
theorem walk_ex {K : (Tmp → Option Ty) → List (Tmp × Ty) → Prop} : ∀ (k : Nat) (l : List Oper) (E : Tmp → Option Ty) (F : List (Tmp × Ty)), WalkT P ops C X a0 k l E F K →
    ∃ Vs : List Ty, Vs.length = l.length ∧ (∀ i o V, l[i]? = some o → Vs[i]? = some V → Keeps X (k + i) V ∧ StepT P ops C X a0 (k + i) (envs (l.take i) (Vs.take i) E) o V) ∧ K (envs l Vs E) (facts l Vs F)
  | k, [], E, F, h => ⟨[], rfl, fun i o V h1 => by simp at h1, by simpa [envs, facts, WalkT] using h⟩
  | k, o :: l, E, F, h => by
    obtain ⟨V, hk, hs, hw⟩ := h
    obtain ⟨Vs, hl, ha, hK⟩ := walk_ex (k + 1) l _ _ hw
    refine ⟨V :: Vs, by simp [hl], fun i o' V' h1 h2 => ?_, by rw [envs, facts]; exact hK⟩
    cases i with
    | zero =>
      simp at h1 h2
      subst h1 h2
      exact ⟨hk, by simpa [envs] using hs⟩
    | succ i =>
      have := ha i o' V' (by simpa using h1) (by simpa using h2)
      rw [List.take_succ_cons, List.take_succ_cons, envs]
      rw [show k + (i + 1) = k + 1 + i by omega]
      exact this
/-- Of a store, the slot of its address is one that it looks at. -/
def keyB (l : List Oper) : Bool := l.all fun o => match o.dst with
  | some _ => true
  | none => match keyOf o with
    | some p => (o.looksAt l.toArray).contains p
    | none => true
theorem keyB_spec {l : List Oper} (h : keyB l = true) {j : Nat} {o : Oper} {t : Tmp} (hj : l[j]? = some o) (hd : o.dst = none) (hk : keyOf o = some t) : t ∈ o.looksAt l.toArray := by
  have := List.all_eq_true.1 h o (List.mem_of_getElem? hj)
  simp only [hd, hk] at this
  simpa using this
/-- What holds while the operations of 'listed' have come up. -/
def Inv (md : Region.Mode) (l : List Oper) (Vs : List Ty) (n : Nat) (listed : Array Bool) (a : Act) (w : World) : Prop :=
  C w ∧ a.tmps.size = n ∧ a.defers = a0.defers ∧
  (∀ (i : Nat) (o : Oper) (V : Ty) (t : Tmp), l[i]? = some o → Vs[i]? = some V → keyOf o = some t → listed.getD i true = true → V (a.eval (.tmp t)) w) ∧
  (∀ t, (∀ (i : Nat) (o : Oper), l[i]? = some o → o.dst = some t → listed.getD i true = false) → a.eval (.tmp t) = a0.eval (.tmp t)) ∧
  (∀ (j : Nat) (o : Oper), l[j]? = some o → listed.getD j true = true → ∀ e ∈ o.after, Region.binds md e = true → listed.getD e.on true = true)
variable {P ops C X a0}
theorem key_dst {o : Oper} {t : Tmp} (h : o.dst = some t) : keyOf o = some t := by unfold keyOf; rw [h]
theorem inv_put {md : Region.Mode} {l : List Oper} {Vs : List Ty} {n : Nat} (hok : okB md l n = true) (hkey : keyB l = true) (hk : ∀ (i : Nat) V, Vs[i]? = some V → Keeps X i V) {listed : Array Bool} (hls : listed.size = l.length) {a : Act} {w w' : World} (h : Inv C a0 md l Vs n listed a w)
    {i : Nat} {o : Oper} {V : Ty} {v : Value} (ho : l[i]? = some o) (hun : listed.getD i true = false) (haf : ∀ e ∈ o.after, Region.binds md e = true → listed.getD e.on true = true) (hV : Vs[i]? = some V) (hC : C w') (hX : X i w w') (hv : FactV V o a v w') : Inv C a0 md l Vs n (listed.setIfInBounds i true) (a.put o.dst v) w' := by
  obtain ⟨h1, h2, h3, h4, h5, h6⟩ := h
  obtain ⟨k1, k2, k3, _⟩ := okB_spec hok
  have hil : i < l.length := (List.getElem?_eq_some_iff.1 ho).1
  refine ⟨hC, by cases o.dst <;> simp [Act.put, h2], by cases o.dst <;> simp [Act.put, h3], fun j o' V' t hj hV' ht hl => ?_, fun t ht => ?_, fun j o' hj hl e he hb => ?_⟩
  · by_cases hij : i = j
    · subst hij
      rw [ho] at hj; cases hj
      rw [hV] at hV'; cases hV'
      unfold FactV at hv
      cases hd : o.dst with
      | some d =>
        rw [hd] at hv
        rw [key_dst hd] at ht
        cases ht
        rw [eval_put_same (by rw [h2]; exact k1 i o _ ho hd)]
        exact hv
      | none =>
        simp only [hd, ht] at hv
        exact hv
    · have hl' : listed.getD j true = true := by rwa [getD_set_ne true hij] at hl
      have hne : ∀ d, o.dst = some d → d ≠ t := fun d hd hx => by
        subst hx
        cases hd' : o'.dst with
        | some d' =>
          rw [key_dst hd'] at ht
          cases ht
          exact hij (k2 i j o o' d ho hj hd hd')
        | none =>
          obtain ⟨_, e, he, hb, hon⟩ := k3 j i o' o d hj ho hd (keyB_spec hkey hj hd' ht)
          have := h6 j o' hj hl' e he hb
          rw [hon, hun] at this
          cases this
      rw [Act.eval_put (fun d hd hx => hne d hd (by cases hx; rfl))]
      exact hk j V' hV' i hij _ _ _ (h4 j o' V' t hj hV' ht hl') hX
  · rw [Act.eval_put (fun d hd hx => by
      cases hx
      have := ht i o ho hd
      simp [hls, hil] at this)]
    refine h5 t fun j o' hj hd => ?_
    by_cases hij : i = j
    · subst hij
      have := ht i o' hj hd
      simp [hls, hil] at this
    · have := ht j o' hj hd
      rwa [getD_set_ne true hij] at this
  · have hset : ∀ x, listed.getD x true = true → (listed.setIfInBounds i true).getD x true = true := fun x hx => by
      by_cases hix : i = x
      · subst hix; simp [hls, hil]
      · rw [getD_set_ne true hix]; exact hx
    by_cases hij : i = j
    · subst hij
      rw [ho] at hj; cases hj
      exact hset _ (haf e he hb)
    · rw [getD_set_ne true hij] at hl
      exact hset _ (h6 j o' hj hl e he hb)
theorem wpAny_typed {md : Region.Mode} {l : List Oper} {Vs : List Ty} {n : Nat} {Q : Exit → Act → World → Prop} (hok : okB md l n = true) (hkey : keyB l = true) (hlen : Vs.length = l.length) (hrefl : ∀ k w, X k w w)
    (hall : ∀ (i : Nat) (o : Oper) (V : Ty), l[i]? = some o → Vs[i]? = some V → Keeps X i V ∧ StepT P l.toArray C X a0 i (envs (l.take i) (Vs.take i) fun _ => none) o V)
    (hQ : ∀ (listed : Array Bool) (a : Act) (w : World), listed.toList.count false = 0 → listed.size = l.length → Inv C a0 md l Vs n listed a w → Q .normal a w) :
    ∀ (fuel : Nat) (listed : Array Bool) (a : Act) (w : World), listed.size = l.length → listed.toList.count false = fuel → Inv C a0 md l Vs n listed a w → wpAny P md l.toArray Q fuel listed a w := by
  have hk : ∀ (i : Nat) V, Vs[i]? = some V → Keeps X i V := fun i V hV => by
    have hi : i < l.length := by have := (List.getElem?_eq_some_iff.1 hV).1; omega
    exact (hall i l[i] V (List.getElem?_eq_getElem hi) hV).1
  have hnone : ∀ (listed : Array Bool), listed.toList.count false = 0 → Region.ready md l.toArray listed = [] := fun listed h0 => by
    rw [List.eq_nil_iff_forall_not_mem]
    intro j hj
    have := getD_get (mem_ready.1 hj).1
    have hm : false ∈ listed.toList := List.mem_of_getElem? this
    have := List.count_pos_iff.2 hm
    omega
  intro fuel
  induction fuel with
  | zero => intro listed a w hs h0 hI; exact ⟨hnone listed h0, hQ listed a w h0 hs hI⟩
  | succ fuel ih =>
    intro listed a w hs hf hI
    have hmem : ∀ i ∈ Region.ready md l.toArray listed, wpOp P l.toArray Q i (wpAny P md l.toArray Q fuel (listed.setIfInBounds i true)) a w := by
      intro i hi
      obtain ⟨hun, o, ho, hafter⟩ := mem_ready.1 hi
      have ho' : l[i]? = some o := by simpa using ho
      have hil : i < l.length := (List.getElem?_eq_some_iff.1 ho').1
      obtain ⟨V, hV⟩ : ∃ V, Vs[i]? = some V := ⟨Vs[i]'(by omega), List.getElem?_eq_getElem (by omega)⟩
      obtain ⟨_, hstep⟩ := hall i o V ho' hV
      obtain ⟨k1, k2, k3, _⟩ := okB_spec hok
      have hcnt : (listed.setIfInBounds i true).toList.count false = fuel := by
        have := count_set listed.toList i (getD_get hun)
        rw [Array.toList_setIfInBounds]
        omega
      have hafter' : ∀ e ∈ o.after, Region.binds md e = true → listed.getD e.on true = true := fun e he hb => by
        have h1 := hafter e he hb
        have hon := (okB_spec hok).2.2.2 i o ho' e he hb
        have hjs : e.on < listed.size := by rw [hs]; omega
        simp [hjs] at h1 ⊢
        exact h1
      have hnext : ∀ (v : Value) (w' : World), C w' → X i w w' → FactV V o a v w' → wpAny P md l.toArray Q fuel (listed.setIfInBounds i true) (a.put o.dst v) w' := fun v w' h1 h2 h3 =>
        ih _ _ _ (by simpa using hs) hcnt (inv_put hok hkey hk hs hI ho' hun hafter' hV h1 h2 h3)
      have hfits : ∀ t ∈ o.looksAt l.toArray, Fits a0 (envs (l.take i) (Vs.take i) fun _ => none) a w t := by
        intro t ht
        unfold Fits
        by_cases hex : ∃ (j : Nat) (o' : Oper), l[j]? = some o' ∧ o'.dst = some t
        · obtain ⟨j, o', hj, hd⟩ := hex
          obtain ⟨hji, e, he, hb, hon⟩ := k3 i j o o' t ho' hj hd ht
          have hjl : j < Vs.length := by omega
          have hVj : Vs[j]? = some Vs[j] := List.getElem?_eq_getElem hjl
          have henv := envs_some (V := Vs[j]) hd (l.take i) (Vs.take i) (fun _ => none) j (by rw [List.getElem?_take, if_pos hji]; exact hj) (by rw [List.getElem?_take, if_pos hji]; exact hVj) (fun k o'' hjk hk' hd' => by
            have hk2 : l[k]? = some o'' := by
              rw [List.getElem?_take] at hk'
              split at hk'
              · exact hk'
              · cases hk'
            have := k2 j k o' o'' t hj hk2 hd hd'
            omega)
          rw [henv]
          have hl := hafter e he hb
          rw [hon] at hl
          have hl' : listed.getD j true = true := by
            have hjs : j < listed.size := by rw [hs]; omega
            simp [hjs] at hl ⊢
            exact hl
          exact hI.2.2.2.1 j o' Vs[j] t hj hVj (key_dst hd) hl'
        · have henv := envs_none (t := t) (l.take i) (Vs.take i) (fun _ => none) (fun o' ho' hd => by
            obtain ⟨k, hk'⟩ := List.mem_iff_getElem?.1 ho'
            rw [List.getElem?_take] at hk'
            split at hk'
            · exact hex ⟨k, o', hk', hd⟩
            · cases hk')
          rw [henv]
          exact hI.2.2.2.2.1 t fun j o' hj hd => absurd ⟨j, o', hj, hd⟩ hex
      have hs2 := hstep a w hI.1 hfits
      unfold wpOp
      simp only [ho]
      by_cases hw : Region.wanted o (yielded l.toArray a.tmps) = true
      · rw [if_pos hw] at hs2
        simp only [hw, if_true]
        left
        unfold Oper.wp
        generalize (execOp a.eval o).run P w = r at *
        cases r with
        | ok nx w' =>
          cases nx <;> simp only [Tame] at hs2 <;> simp only [Oper.upon]
          case value v => exact hnext v w' hs2.1 hs2.2.1 hs2.2.2
          case skip => exact hnext undef w' hs2.1 hs2.2.1 hs2.2.2
          case enter f args =>
            obtain ⟨rfl, hc⟩ := hs2
            exact hc.mono fun e w'' ⟨v, he, h1, h2, h3⟩ => by subst he; exact hnext v w'' h1 h2 h3
        | halt x w' => simp only [Tame] at hs2
      · rw [if_neg hw] at hs2
        simp only [hw]
        exact hnext undef w hI.1 (hrefl i w) hs2
    refine ⟨fun hr => ?_, hmem⟩
    obtain ⟨i, hi, hmin⟩ := least listed (by omega)
    have hil : i < l.length := by rw [← hs]; exact hi.1
    refine absurd (mem_ready.2 ⟨hi.2, l[i], by simp [hil], fun e he hb => ?_⟩ : i ∈ Region.ready md l.toArray listed) (by rw [hr]; simp)
    have hlt := (okB_spec hok).2.2.2 i l[i] (List.getElem?_eq_getElem hil) e he hb
    have hes : e.on < listed.size := by omega
    have := hmin e.on hlt
    simp [hes] at this ⊢
    exact this
/-- **THE REGION.** -/
theorem wp_region_typed {id n : Nat} {l : List Oper} {Q : Exit → Act → World → Prop} {w : World} (hm : P.follows .mixedOrders = true) (hok : okB .any l n = true) (hkey : keyB l = true) (hn : a0.tmps.size = n)
    (hrefl : ∀ k w, X k w w) (hC : C { w with drawn := w.drawn + 1 })
    (h : WalkT P l.toArray C X a0 0 l (fun _ => none) [] fun E F => ∀ (a : Act) (w' : World), C w' → a.tmps.size = n → a.defers = a0.defers → (∀ t, Fits a0 E a w' t) → (∀ x ∈ F, x.2 (a.eval (.tmp x.1)) w') → Q .normal a w') :
    (Code.region id l.toArray true).wp P Q a0 w := by
  obtain ⟨Vs, hlen, hall, hK⟩ := walk_ex P l.toArray C X a0 0 l _ _ h
  refine wp_region_any hm ?_
  have hsz : (Array.replicate l.toArray.size false).size = l.length := by simp
  have hall' : ∀ (i : Nat) (o : Oper) (V : Ty), l[i]? = some o → Vs[i]? = some V → Keeps X i V ∧ StepT P l.toArray C X a0 i (envs (l.take i) (Vs.take i) fun _ => none) o V := fun i o V h1 h2 => by
    have := hall i o V h1 h2
    rwa [Nat.zero_add] at this
  refine wpAny_typed (Vs := Vs) (n := n) hok hkey hlen hrefl hall' ?_ _ _ _ _ hsz (by simp) ⟨hC, hn, rfl, fun i o V t ho hV ht hl => ?_, fun t _ => rfl, fun j o hj hl => ?_⟩
  · intro listed a w' h0 hs hI
    have hall1 : ∀ j, listed.getD j true = true := fun j => by
      cases hb : listed.getD j true with
      | true => rfl
      | false =>
        have hm : false ∈ listed.toList := List.mem_of_getElem? (getD_get hb)
        have := List.count_pos_iff.2 hm
        omega
    refine hK a w' hI.1 hI.2.1 hI.2.2.1 (fun t => ?_) (fun x hx => by
      rcases mem_facts l Vs [] x hx with h | ⟨i, o, h1, h2, h3⟩
      · cases h
      · exact hI.2.2.2.1 i o x.2 x.1 h1 h2 h3 (hall1 i))
    unfold Fits
    by_cases hex : ∃ (j : Nat) (o' : Oper), l[j]? = some o' ∧ o'.dst = some t
    · obtain ⟨j, o', hj, hd⟩ := hex
      have hjl : j < Vs.length := by have := (List.getElem?_eq_some_iff.1 hj).1; omega
      have hVj : Vs[j]? = some Vs[j] := List.getElem?_eq_getElem hjl
      rw [envs_some (V := Vs[j]) hd l Vs (fun _ => none) j hj hVj (fun k o'' hjk hk' hd' => by
        have := (okB_spec hok).2.1 j k o' o'' t hj hk' hd hd'
        omega)]
      exact hI.2.2.2.1 j o' Vs[j] t hj hVj (key_dst hd) (hall1 j)
    · rw [envs_none (t := t) l Vs (fun _ => none) (fun o' ho' hd => by
        obtain ⟨k, hk'⟩ := List.mem_iff_getElem?.1 ho'
        exact hex ⟨k, o', hk', hd⟩)]
      exact hI.2.2.2.2.1 t fun j o' hj hd => absurd ⟨j, o', hj, hd⟩ hex
  · have hi : i < l.length := (List.getElem?_eq_some_iff.1 ho).1
    simp [hi] at hl
  · have hi : j < l.length := (List.getElem?_eq_some_iff.1 hj).1
    simp [hi] at hl
theorem w_is {k : Nat} {o : Oper} {rest : List Oper} {E : Tmp → Option Ty} {F : List (Tmp × Ty)} {K : (Tmp → Option Ty) → List (Tmp × Ty) → Prop} (hrefl : ∀ k w, X k w w) {d : Tmp} (hd : o.dst = some d) (c : Value) (G : Wanted ops a0 E o)
    (h : ∀ (ρ : Operand → Value) (w : World), C w → (∀ c, ρ (.const c) = c) → (∀ f, ρ (.func f) = .func (.func f) #[] #[]) → (∀ t ∈ o.looksAt ops, Fit E a0 ρ w t) → (execOp ρ o).run P w = .ok (.value c) w)
    (hw : WalkT P ops C X a0 (k + 1) rest (push o (Is c) E) F K) : WalkT P ops C X a0 k (o :: rest) E F K :=
  ⟨Is c, fun _ _ _ _ _ h _ => h, fun a w hC hf => by
    rw [if_pos (G.on hf), h a.eval w hC (fun _ => rfl) (fun _ => rfl) hf]
    refine ⟨hC, hrefl k w, ?_⟩
    unfold FactV
    rw [hd]
    exact (rfl : c = c), by rwa [show pushF o (Is c) F = F by unfold pushF; rw [hd]]⟩
theorem w_call {k : Nat} {o : Oper} {rest : List Oper} {E : Tmp → Option Ty} {F : List (Tmp × Ty)} {K : (Tmp → Option Ty) → List (Tmp × Ty) → Prop} {d : Tmp} (hd : o.dst = some d) (V : Ty) (hV : Keeps X k V) (f : FuncId) (G : Wanted ops a0 E o)
    (h : ∀ (ρ : Operand → Value) (w : World), C w → (∀ c, ρ (.const c) = c) → (∀ f, ρ (.func f) = .func (.func f) #[] #[]) → (∀ t ∈ o.looksAt ops, Fit E a0 ρ w t) →
      ∃ args, (execOp ρ o).run P w = .ok (.enter f args) w ∧ Calls P f args w (fun e w' => ∃ v, e = .returned v ∧ C w' ∧ X k w w' ∧ V v w'))
    (hw : WalkT P ops C X a0 (k + 1) rest (push o V E) F K) : WalkT P ops C X a0 k (o :: rest) E F K :=
  ⟨V, hV, fun a w hC hf => by
    obtain ⟨args, h1, h2⟩ := h a.eval w hC (fun _ => rfl) (fun _ => rfl) hf
    rw [if_pos (G.on hf), h1]
    exact ⟨rfl, h2.mono fun e w' ⟨v, e1, e2, e3, e4⟩ => ⟨v, e1, e2, e3, by unfold FactV; rw [hd]; exact e4⟩⟩, by rwa [show pushF o V F = F by unfold pushF; rw [hd]]⟩
end
end Go.Proofs.YtdigjklhfimnbaaGreat.T3
namespace Go.Proofs.YtdigjklhfimnbaaGreat
set_option maxRecDepth 100000
open Go Go.RowKit

/-- The blocks from D up to E stand as they stood. -/
structure Keep (D E : Nat) (W W' : World) : Prop where
  size : W.heap.size ≤ W'.heap.size
  same : ∀ k, D ≤ k → k < E → k < W.heap.size → W'.heap[k]? = W.heap[k]?
theorem Keep.refl (D E : Nat) (W : World) : Keep D E W W := ⟨Nat.le_refl _, fun _ _ _ _ => rfl⟩
theorem Keep.trans {D E : Nat} {A B C : World} (h : Keep D E A B) (k : Keep D E B C) : Keep D E A C :=
  ⟨Nat.le_trans h.size k.size, fun i h1 h2 h3 => (k.same i h1 h2 (Nat.lt_of_lt_of_le h3 h.size)).trans (h.same i h1 h2 h3)⟩
theorem Keep.mono {D E D' E' : Nat} {A B : World} (h : Keep D E A B) (hD : D ≤ D') (hE : E' ≤ E) : Keep D' E' A B :=
  ⟨h.size, fun i h1 h2 h3 => h.same i (Nat.le_trans hD h1) (Nat.lt_of_lt_of_le h2 hE) h3⟩
theorem Keep.alloc (D E : Nat) (W : World) (o : Obj) : Keep D E W (W.alloc o) := ⟨by simp, fun k _ _ h => Below.heap_alloc W o k h⟩
theorem Keep.grown {D E : Nat} {W W' : World} {row : Option Nat} (hg : W.grownBy W' row) (hr : ∀ r, row = some r → r < D ∨ E ≤ r) : Keep D E W W' :=
  ⟨hg.size, fun k h1 h2 h3 => hg.block k h3 (fun e => by have := hr k e.symm; omega)⟩
theorem Keep.setCell {D E : Nat} (W : World) (b j : Nat) (v : Value) (hb : b < D ∨ E ≤ b) : Keep D E W (W.setCell ⟨b, j, none⟩ v) :=
  ⟨by simp, fun k h1 h2 _ => Below.heap_setCell W ⟨b, j, none⟩ v k (by show k ≠ b; omega)⟩
theorem Keep.below {D E B : Nat} {W W' : World} (h : Below B W W') (hE : E ≤ B) : Keep D E W W' := ⟨h.size, fun k _ h2 _ => h.block k (Nat.lt_of_lt_of_le h2 hE)⟩
theorem Keep.news {D E : Nat} {W W' : World} (h : Below W.heap.size W W') : Keep D E W W' := ⟨h.size, fun k _ _ h3 => h.block k h3⟩
theorem Keep.cell {D E : Nat} {W W' : World} (h : Keep D E W W') {b j : Nat} (h1 : D ≤ b) (h2 : b < E) (h3 : b < W.heap.size) : W'.cell? ⟨b, j, none⟩ = W.cell? ⟨b, j, none⟩ := World.cell?_of_block (h.same b h1 h2 h3)
theorem Keep.frozen {D E : Nat} {W W' : World} (h : Keep D E W W') {b j : Nat} (h1 : D ≤ b) (h2 : b < E) (h3 : b < W.heap.size) : W'.frozen? ⟨b, j, none⟩ = W.frozen? ⟨b, j, none⟩ := World.frozen?_of_block (h.same b h1 h2 h3)
/-- It abides the turn of a block from D up to E, and new ones. -/
def AbK {β : Type} (D E : Nat) (I : β → World → Prop) : Prop := ∀ s W W' row, I s W → W.grownBy W' row → (∀ r, row = some r → D ≤ r ∧ r < E) → I s W'
theorem AbK.mono {β : Type} {D E D' E' : Nat} {I : β → World → Prop} (h : AbK D E I) (hD : D ≤ D') (hE : E' ≤ E) : AbK D' E' I :=
  fun s W W' row hs hg hr => h s W W' row hs hg (fun r e => by have := hr r e; omega)
theorem AbK.putObj {β : Type} {D E : Nat} {I : β → World → Prop} (h : AbK D E I) {s : β} {W : World} (l : Nat) (o : Obj) (hs : I s W) (h1 : D ≤ l) (h2 : l < E) : I s (W.putObj l o) :=
  h s W _ (some l) hs (grownBy_putObj' W l o) (fun r e => by cases e; exact ⟨h1, h2⟩)
theorem AbK.alloc {β : Type} {D E : Nat} {I : β → World → Prop} (h : AbK D E I) {s : β} {W : World} (o : Obj) (hs : I s W) : I s (W.alloc o) :=
  h s W _ none hs (World.grownBy_alloc W o none) (fun r e => by cases e)
/-- An iterator that hands on zs, one behind the other, out of p blocks of its own, as long as yield says so; of the round it asks that those blocks, those from c up to c2, and what lies below n₀, stand. -/
def SeqV {α : Type} (F : Fence) (n : Nat) (P : Program) (g : Nat) (lb : Array Value) (encs : α → Array Value) (n₀ c c2 p : Nat) (zs : List α) (w : World) : Prop :=
  ∀ (l : Nat) (J Jx : List α → World → Prop) (W : World), Below w.heap.size w W → AbK W.heap.size (W.heap.size + p) J → AbK W.heap.size (W.heap.size + p) Jx →
    (∀ pre x W1, J pre W1 → W.heap.size + p ≤ W1.heap.size → (pre ++ [x]) <+: zs → YieldAt F (n - 1) P l (encs x) W1 fun e W' =>
      ∃ q : Bool, e = .returned (.bool q) ∧ (q = true → J (pre ++ [x]) W' ∧ Keep c c2 W1 W' ∧ Keep W.heap.size (W.heap.size + p) W1 W' ∧ Below n₀ W1 W') ∧ (q = false → Jx (pre ++ [x]) W')) →
    J [] W →
    CallsIn F n P g (#[.func (.yield l) #[] #[]] ++ lb) W fun e W' => (∃ v, e = .returned v) ∧ (J zs W' ∨ ∃ pre, pre <+: zs ∧ Jx pre W')
/-- How the body of a round may be left. -/
def postV {α : Type} (c E n₀ : Nat) (I : List α → World → Prop) (Ix : Code → List α → World → Prop) (xs : List α) (W : World) : Exit → Act → World → Prop
  | .normal, _, W' => Keep c E W W' ∧ Below n₀ W W' ∧ I xs W'
  | .ret, _, W' => Keep c E W W' ∧ Ix .ret xs W'
  | .exit id, _, W' => Keep c E W W' ∧ Ix (.exit id) xs W'
  | .goto t, _, W' => Keep c E W W' ∧ Ix (.goto t) xs W'
  | .panic _, _, _ => False
  | .outgrown, _, _ => False
variable {F : Fence} {n : Nat} {P : Program}
/-- The statement. D: where the law's own blocks begin; E: where the iterator's end. -/
theorem wpIn_rangeFuncV {α : Type} {g : Operand} {ps : Array Tmp} {assign body : Code} {Q : Exit → Act → World → Prop} {a : Act} {w : World}
    (hro : F.round = none) (h1 : 1 ≤ n) {gf : Nat} {lb : Array Value} (hg : a.eval g = .func (.func gf) #[] lb) (hFg : F.fn gf) (eg : ∀ args w, (callFunc gf args).run P w = .ok (.enter gf args) w)
    {encs : α → Array Value} {n₀ c c2 p : Nat} {zs : List α} {w0 : World} (hseq : SeqV F (n - 1) P gf lb encs n₀ c c2 p zs w0) (hb0 : Below w0.heap.size w0 w) (hps : ∀ x, (encs x).size = ps.size)
    (D E : Nat) (hD : w.heap.size = D) (hE : E = D + 2 + p) (hn₀ : n₀ ≤ D) (hc : c ≤ D) (hc2 : c2 ≤ D)
    (I : List α → World → Prop) (Ix : Code → List α → World → Prop) (hI : AbK D E I) (hIx : ∀ ex, AbK D E (Ix ex)) (h0 : I [] w)
    (hround : ∀ (l : Nat) (pre : List α) (x : α) (W : World), I pre W → E ≤ W.heap.size → (pre ++ [x]) <+: zs →
      assign.wpIn (F.inRound l) (n - 1 - 1) P (Exit.then (fun a₁ W1 => Keep c E W W1 ∧ Below n₀ W W1 ∧ ∀ W2, W1.grownBy W2 (some (D + 1)) → body.wpIn (F.inRound l) (n - 1 - 1) P (postV c E n₀ I Ix (pre ++ [x]) W2) a₁ W2) (fun _ _ _ => False))
        { tmps := (ps.zip (encs x)).foldl (fun t (p, v) => t.setIfInBounds p v) a.tmps, defers := [] } W)
    (hdone : ∀ (W : World), I zs W → W.heap[D]? = some (.deferred (some [])) → Q .normal { a with defers := { target := .collected D, args := #[] } :: a.defers } W)
    (hstop : ∀ (ex : Code) (pre : List α) (W : World), pre <+: zs → Ix ex pre W → W.heap[D]? = some (.deferred (some [])) → ex.wpIn F n P Q { a with defers := { target := .collected D, args := #[] } :: a.defers } W) :
    (Code.rangeFunc g ps assign body).wpIn F n P Q a w := by
  subst hD
  refine wpIn_rangeFunc ?_
  intro fn hfn
  rw [hro]
  obtain ⟨rec, hrec⟩ : ∃ rec : LoopState → Option Code → Loop, rec = fun st pe => { state := st, pending := pe, fn, tmps := a.tmps, params := ps, assign, body, defers := w.heap.size } := ⟨_, rfl⟩
  obtain ⟨W1, hW1⟩ : ∃ W1, (w.alloc (.deferred (some []))).alloc (.loop (rec .ready none)) = W1 := ⟨_, rfl⟩
  have hL1 : W1.heap[w.heap.size + 1]? = some (.loop (rec .ready none)) := by
    rw [← hW1]; have := World.alloc_heap_new (w.alloc (.deferred (some []))) (.loop (rec .ready none)); rwa [World.size_alloc] at this
  have hK1 : W1.heap[w.heap.size]? = some (.deferred (some [])) := by
    rw [← hW1]; exact (Below.heap_alloc _ _ _ (by simp)).trans (World.alloc_heap_new w _)
  have hI1 : I [] W1 := by rw [← hW1]; exact hI.alloc _ (hI.alloc _ h0)
  have hb1 : Below w0.heap.size w0 W1 := by
    rw [← hW1]; exact hb0.trans ((((Below.refl _ w).alloc (Nat.le_refl _) _).alloc (by simp) _).mono hb0.size)
  have hs1 : W1.heap.size = w.heap.size + 2 := by rw [← hW1]; simp
  have hEE : W1.heap.size + p = E := by omega
  refine ⟨w.heap.size + 1, [{ target := .collected w.heap.size, args := #[] }], W1, { target := .fn (.func gf) lb, args := #[.func (.yield (w.heap.size + 1)) #[] #[]] }, W1, gf,
    #[.func (.yield (w.heap.size + 1)) #[] #[]] ++ lb, W1, ?_, ?_, ?_, ?_, fun _ => h1, ?_⟩
  · rw [← hW1, hrec]; exact run_enterLoop_outer _ _ _ _ _
  · simp only [resolve, hg]
    simp [go_sem]
  · intro f' hf'; simp [Target.leads] at hf'; subst hf'; exact hFg
  · simp [invoke, go_sem, eg]
  · have keep2 : ∀ {A B : World} {row : Option Nat} {k : Nat} {o : Obj}, k < w.heap.size + 2 → A.grownBy B row → (∀ r, row = some r → W1.heap.size ≤ r ∧ r < W1.heap.size + p) → A.heap[k]? = some o → B.heap[k]? = some o := fun hk hg' hr h =>
      (hg'.block _ (Array.getElem?_eq_some_iff.1 h).1 (fun e => by have := hr _ e.symm; omega)).trans h
    refine (hseq (w.heap.size + 1)
      (fun pre W => I pre W ∧ W.heap[w.heap.size + 1]? = some (.loop (rec .ready none)) ∧ W.heap[w.heap.size]? = some (.deferred (some [])))
      (fun pre W => ∃ c, Ix c pre W ∧ W.heap[w.heap.size + 1]? = some (.loop (rec .done (some c))) ∧ W.heap[w.heap.size]? = some (.deferred (some [])))
      W1 hb1
      (fun s A B row hs hg' hr => ⟨hI s A B row hs.1 hg' (fun r e => by have := hr r e; omega), keep2 (by omega) hg' hr hs.2.1, keep2 (by omega) hg' hr hs.2.2⟩)
      (fun s A B row hs hg' hr => by
        obtain ⟨c, hc, hl, hk⟩ := hs
        exact ⟨c, hIx c s A B row hc hg' (fun r e => by have := hr r e; omega), keep2 (by omega) hg' hr hl, keep2 (by omega) hg' hr hk⟩)
      ?_ ⟨hI1, hL1, hK1⟩).mono ?_
    · rintro pre x W ⟨hi, hl, hk⟩ hsz hpre
      rw [hEE] at hsz
      have hlt : w.heap.size + 1 < W.heap.size := (Array.getElem?_eq_some_iff.1 hl).1
      have hy := run_yield (P := P) (args := encs x) hl (by rw [hrec]; exact hps x)
      rw [hrec] at hy
      refine ⟨fn, _, assign, body, hy, roundIn_of_wpIn hfn (wpIn_mono (hround _ pre x W hi hsz hpre) ?_)⟩
      rintro e a₁ W2 hp
      cases e with
      | normal =>
        obtain ⟨hk2, hb2, hbody⟩ := hp
        have hl2 : W2.heap[w.heap.size + 1]? = some (.loop (rec .ready none)) := (hk2.same _ (by omega) (by omega) hlt).trans hl
        have hd2 : W2.heap[w.heap.size]? = some (.deferred (some [])) := (hk2.same _ (by omega) (by omega) (by omega)).trans hk
        have hlt2 : w.heap.size + 1 < W2.heap.size := (Array.getElem?_eq_some_iff.1 hl2).1
        refine ⟨_, run_beginRound hl2 (by rw [hrec]), ?_⟩
        obtain ⟨B2, hB2⟩ : ∃ B2, B2 = W2.putObj (w.heap.size + 1) (.loop { rec .ready none with state := .busy }) := ⟨_, rfl⟩
        have hgB : W2.grownBy B2 (some (w.heap.size + 1)) := by rw [hB2]; exact grownBy_putObj' _ _ _
        have hlB : B2.heap[w.heap.size + 1]? = some (.loop { rec .ready none with state := .busy }) := by rw [hB2]; exact World.putObj_heap_same hlt2
        have hdB : B2.heap[w.heap.size]? = some (.deferred (some [])) := by rw [hB2]; exact (World.putObj_heap_other (by omega)).trans hd2
        rw [← hB2]
        refine wpIn_mono (hbody B2 hgB) ?_
        have fin : ∀ (jump : Option Code) (W3 : World), Keep c E B2 W3 →
            (Instr.endRound (w.heap.size + 1) jump).run P W3 = .ok (.bool jump.isNone) (W3.putObj (w.heap.size + 1) (.loop (rec (if jump.isNone then .ready else .done) jump))) ∧
            (W3.putObj (w.heap.size + 1) (.loop (rec (if jump.isNone then .ready else .done) jump))).heap[w.heap.size + 1]? = some (.loop (rec (if jump.isNone then .ready else .done) jump)) ∧
            (W3.putObj (w.heap.size + 1) (.loop (rec (if jump.isNone then .ready else .done) jump))).heap[w.heap.size]? = some (.deferred (some [])) := fun jump W3 hk3 => by
          have hl3 := (hk3.same (w.heap.size + 1) (by omega) (by omega) (Array.getElem?_eq_some_iff.1 hlB).1).trans hlB
          have hd3 := (hk3.same w.heap.size (by omega) (by omega) (Array.getElem?_eq_some_iff.1 hdB).1).trans hdB
          have := run_endRound (P := P) jump hl3
          rw [hrec] at this ⊢
          exact ⟨this, World.putObj_heap_same (Array.getElem?_eq_some_iff.1 hl3).1, (World.putObj_heap_other (by omega)).trans hd3⟩
        rintro e a3 W3 hp
        cases e with
        | normal =>
          obtain ⟨hk3, hb3, hi3⟩ := hp
          obtain ⟨hr, hl4, hk4⟩ := fin none W3 hk3
          refine ⟨_, _, hr, true, rfl, fun _ => ⟨⟨hI.putObj _ _ hi3 (by omega) (by omega), hl4, hk4⟩, ?_, ?_, ?_⟩, fun h => by cases h⟩
          · exact (((hk2.mono (Nat.le_refl _) (by omega)).trans (Keep.grown hgB (fun r e => by cases e; omega))).trans (hk3.mono (Nat.le_refl _) (by omega))).trans (Keep.grown (grownBy_putObj' _ _ _) (fun r e => by cases e; omega))
          · rw [hEE, hs1]
            exact (((hk2.mono (by omega) (Nat.le_refl _)).trans (Keep.grown hgB (fun r e => by cases e; omega))).trans (hk3.mono (by omega) (Nat.le_refl _))).trans (Keep.grown (grownBy_putObj' _ _ _) (fun r e => by cases e; omega))
          · exact ((hb2.grown hgB (by have := hk2.size; omega) (fun k e => by cases e; omega)).trans hb3).grown (grownBy_putObj' _ _ _) (by have := hk3.size; have := hgB.size; omega) (fun k e => by cases e; omega)
        | ret =>
          obtain ⟨hk3, hi3⟩ := hp
          obtain ⟨hr, hl4, hk4⟩ := fin (some .ret) W3 hk3
          exact ⟨_, _, hr, false, rfl, (fun h => by cases h), fun _ => ⟨.ret, (hIx _).putObj _ _ hi3 (by omega) (by omega), hl4, hk4⟩⟩
        | exit id =>
          obtain ⟨hk3, hi3⟩ := hp
          obtain ⟨hr, hl4, hk4⟩ := fin (some (.exit id)) W3 hk3
          exact ⟨_, _, hr, false, rfl, (fun h => by cases h), fun _ => ⟨.exit id, (hIx _).putObj _ _ hi3 (by omega) (by omega), hl4, hk4⟩⟩
        | goto t =>
          obtain ⟨hk3, hi3⟩ := hp
          obtain ⟨hr, hl4, hk4⟩ := fin (some (.goto t)) W3 hk3
          exact ⟨_, _, hr, false, rfl, (fun h => by cases h), fun _ => ⟨.goto t, (hIx _).putObj _ _ hi3 (by omega) (by omega), hl4, hk4⟩⟩
        | panic ch => exact hp.elim
        | outgrown => exact hp.elim
      | ret => exact hp.elim
      | exit id => exact hp.elim
      | goto t => exact hp.elim
      | panic ch => exact hp.elim
      | outgrown => exact hp.elim
    · rintro e W2 ⟨⟨v, rfl⟩, (⟨hi, hl, hk⟩ | ⟨pre, hSp, c, hi, hl, hk⟩)⟩
      · exact ⟨none, _, by have := run_endLoop (P := P) hl (by rw [hrec]; simp); rw [hrec] at this; exact this, hdone _ (hI.putObj _ _ hi (by omega) (by omega)) ((World.putObj_heap_other (by omega)).trans hk)⟩
      · exact ⟨some c, _, by have := run_endLoop (P := P) hl (by rw [hrec]; simp); rw [hrec] at this; exact this, hstop c pre _ hSp ((hIx c).putObj _ _ hi (by omega) (by omega)) ((World.putObj_heap_other (by omega)).trans hk)⟩
end Go.Proofs.YtdigjklhfimnbaaGreat
namespace Go.Proofs.YtdigjklhfimnbaaGreat
set_option maxRecDepth 100000
open Go.RowKit

/-- A value that is a slice of numbers whose elements read as xs. -/
def Zs (w : World) (v : Value) (xs : List Int) : Prop :=
  xs.length ≤ 9223372036854775807 ∧
  ((∃ a cap, v = .slice a 0 cap ∧ (a = none → cap = 0) ∧ xs = []) ∨
   ∃ b off cap, v = .slice (some ⟨b, off, none⟩) xs.length cap ∧ xs.length ≤ cap ∧ ∀ i, i < xs.length → w.cell? ⟨b, off + i, none⟩ = some (.int .i64 (xs.getD i 0)))
theorem Zs_below {w w' : World} {v : Value} {xs : List Int} (h : Zs w v xs) (hb : Below w.heap.size w w') : Zs w' v xs := by
  obtain ⟨hl, h | ⟨b, off, cap, hv, hcap, hc⟩⟩ := h
  · exact ⟨hl, .inl h⟩
  · refine ⟨hl, .inr ⟨b, off, cap, hv, hcap, fun i hi => ?_⟩⟩
    have := hc i hi
    rw [hb.cell (World.block_lt_of_cell? w _ this)]; exact this
theorem is_lit (w : World) (xs : List Int) (T : TypeId) (g n : Nat) (hg : g = w.heap.size) (hn : n = xs.length) (hl : xs.length ≤ 1000) (o : Obj) (ho : o = .cells (xs.map (Value.int .i64)).toArray T) : Zs (w.alloc o) (.slice (some ⟨g, 0, none⟩) n n) xs := by
  subst hg; subst hn; subst ho
  refine ⟨by omega, .inr ⟨w.heap.size, 0, xs.length, rfl, Nat.le_refl _, fun i hi => ?_⟩⟩
  simp [List.getD, hi]
theorem z_ret_int {k : IntKind} {a b : Int} (h : a = b) : Ending.returned (.int k a) = .returned (.int k b) := by rw [h]
theorem ret_bool {a b : Bool} (h : a = b) : Ending.returned (.bool a) = .returned (.bool b) := by rw [h]
/-- n and all of the first k. -/
def sumTo (n : Int) (xs : List Int) (k : Nat) : Int := (n + (xs.take k).sum) % 65536
theorem sumTo_bd (n : Int) (xs : List Int) (k : Nat) : 0 ≤ sumTo n xs k ∧ sumTo n xs k < 65536 := by unfold sumTo; omega
theorem sumTo_succ (n : Int) (xs : List Int) (k : Nat) (h : k < xs.length) : sumTo n xs (k + 1) = (sumTo n xs k + (xs.getD k 0) % 65536) % 65536 := by
  unfold sumTo
  rw [List.take_succ_eq_append_getElem h, List.sum_append]
  have : xs.getD k 0 = xs[k] := by simp [List.getD, h]
  rw [this]
  simp
  omega
theorem wrap16 (x : Int) : IntKind.u16.wrap x = x % 65536 := by rw [IntKind.wrap_u16]
set_option maxHeartbeats 400000 in
theorem and_any (n : Int) (v : Value) (xs : List Int) (w : World) (h0 : 0 ≤ n) (h1 : n < 65536) (hv : Zs w v xs) :
    Calls Tryz.prog 173 #[.int .u16 n, v] w fun e w' => e = .returned (.int .i64 ((n + xs.sum) % 65536)) ∧ w = w' := by
  obtain ⟨hl, ⟨a, cap, rfl, -, rfl⟩ | ⟨b, off, cap, rfl, hcap, hc⟩⟩ := hv
  · go_enter Tryz.func173, Tryz.ntmps173
    go_wp2
    go_loop [0, 9] (fun p i => p = .int .u16 n ∧ i = .int .i64 0) (fun _ _ => 0)
    case atStart => exact ⟨rfl, rfl⟩
    case round =>
      obtain ⟨rfl, rfl⟩ := hrel
      go_wp2
      go_ret
      exact ⟨z_ret_int (by omega), rfl⟩
  · have e0 : sumTo n xs 0 = n := by simp [sumTo]; omega
    have eN : sumTo n xs xs.length = (n + xs.sum) % 65536 := by simp [sumTo]
    rw [← eN]
    clear eN
    have E0 := Lib.hid e0
    clear e0
    go_enter Tryz.func173, Tryz.ntmps173
    go_wp2
    go_loop [0, 9] (fun p i => ∃ k : Nat, k ≤ xs.length ∧ i = .int .i64 k ∧ p = .int .u16 (sumTo n xs k)) (fun _ i => xs.length - (intOf i).toNat)
    case atStart => exact ⟨0, Nat.zero_le _, rfl, by rw [E0.out]⟩
    case round =>
      obtain ⟨k, hk, rfl, rfl⟩ := hrel
      obtain ⟨b1, b2⟩ := sumTo_bd n xs k
      by_cases hlt : k < xs.length
      · have hck := hc k hlt
        have hs := Lib.hid (sumTo_succ n xs k hlt)
        generalize xs.getD k 0 = c at *
        clear hc
        go_wp2
        go_round
        case rel => exact ⟨k + 1, by omega, by go_num, by rw [hs.out]; simp only [wrap16]⟩
        case measure => simp [intOf]; omega
      · obtain rfl : k = xs.length := by omega
        clear hc
        go_wp2
        go_ret
        exact ⟨rfl, rfl⟩
end Go.Proofs.YtdigjklhfimnbaaGreat
namespace Go.Proofs.YtdigjklhfimnbaaGreat
set_option maxRecDepth 100000
open Go.RowKit

def far (a b : Int) : Int := (b - a) % 65536
def z_nxt (a : Int) : Int := (a + 1) % 65536
def withB (a f s : Int) : Bool := decide (far f a < s)
theorem far_bd (a b : Int) : 0 ≤ far a b ∧ far a b < 65536 := by unfold far; omega
theorem z_next_any (a : Int) (w : World) : Calls Tryz.prog 128 #[.int .i64 a] w fun e w' => e = .returned (.int .i64 (z_nxt a)) ∧ Below w.heap.size w w' := by
  go_enter Tryz.func128, Tryz.ntmps128
  go_wp2_with (go_at_call 173; refine (and_any 1 _ [a] _ (by omega) (by omega) (is_lit w [a] 3 _ 1 rfl rfl (by simp) _ rfl)).mono ?_; rintro e w' ⟨rfl, rfl⟩)
  go_ret
  exact ⟨z_ret_int (by simp [z_nxt]; omega), (Below.refl _ w).alloc (Nat.le_refl _) _⟩
theorem far_any (a b : Int) (w : World) : Calls Tryz.prog 125 #[.int .i64 a, .int .i64 b] w fun e w' => e = .returned (.int .i64 (far a b)) ∧ Below w.heap.size w w' := by
  go_enter Tryz.func125, Tryz.ntmps125
  go_wp2_with (go_at_call 173; refine (and_any 0 _ [b, wrap64 (-a)] _ (by omega) (by omega) (is_lit w [b, wrap64 (-a)] 3 _ 2 rfl rfl (by simp) _ rfl)).mono ?_; rintro e w' ⟨rfl, rfl⟩)
  go_ret
  exact ⟨z_ret_int (by unfold far wrap64; omega), (Below.refl _ w).alloc (Nat.le_refl _) _⟩
theorem within_any (a f s : Int) (w : World) : Calls Tryz.prog 80 #[.int .i64 a, .int .i64 f, .int .i64 s] w fun e w' => e = .returned (.bool (withB a f s)) ∧ Below w.heap.size w w' := by
  unfold withB
  generalize hc : far f a = c
  have HC := Lib.hid hc
  clear hc
  go_enter Tryz.func80, Tryz.ntmps80
  go_wp2_with (go_at_call 125; refine (far_any f a _).mono ?_; rintro e w' ⟨rfl, hb⟩; rw [HC.out])
  go_ret
  exact ⟨rfl, hb⟩
def left (a : Int) : Int := a % 65536
theorem left_bd (a : Int) : 0 ≤ left a ∧ left a < 65536 := by unfold left; omega
end Go.Proofs.YtdigjklhfimnbaaGreat
namespace Go.Proofs.YtdigjklhfimnbaaGreat
set_option maxRecDepth 100000
open Go.RowKit Go.Lib

/-- A string's bytes. -/
def bl (x : ByteArray) : List Int := x.data.toList.map fun b => (b.toNat : Int)
def hdB (s d t n k : Int) : List Int := [s, d, t, n / 256, n % 256, k / 256, k % 256]
def pkB (s d t n : Int) (x : ByteArray) : List Int := hdB s d t n x.size ++ bl x
end Go.Proofs.YtdigjklhfimnbaaGreat
namespace Go.Proofs.YtdigjklhfimnbaaGreat
open Go.Shelf
def lay189_ren : Go.Shelf.Ren := ⟨fun | 189 => 265 | 125 => 279 | 257 => 278 | 128 => 299 | 129 => 300 | 294 => 290 | 295 => 291 | 296 => 292 | 297 => 293 | 298 => 294 | 299 => 295 | 216 => 296 | 300 => 297 | 301 => 298 | 328 => 308 | 329 => 309 | 330 => 310 | 331 => 311 | 332 => 312 | 215 => 313 | 343 => 314 | n => n, fun | 28 => 69 | 3 => 3 | 46 => 307 | 0 => 0 | 51 => 97 | 53 => 269 | 4 => 4 | 183 => 373 | 182 => 372 | 131 => 377 | 5 => 5 | 9 => 9 | 218 => 383 | 222 => 386 | 228 => 388 | 229 => 389 | n => n, fun | n => n⟩
theorem lay189 : Go.Proofs.Lays.n189 Tryz.prog lay189_ren := {
  mixed := by kernel_rfl
  f125 := Tryz.func279.trans (congrArg some (by kernel_rfl))
  f128 := Tryz.func299.trans (congrArg some (by kernel_rfl))
  f129 := Tryz.func300.trans (congrArg some (by kernel_rfl))
  f189 := Tryz.func265.trans (congrArg some (by kernel_rfl))
  f215 := Tryz.func313.trans (congrArg some (by kernel_rfl))
  f216 := Tryz.func296.trans (congrArg some (by kernel_rfl))
  f257 := Tryz.func278.trans (congrArg some (by kernel_rfl))
  f294 := Tryz.func290.trans (congrArg some (by kernel_rfl))
  f295 := Tryz.func291.trans (congrArg some (by kernel_rfl))
  f296 := Tryz.func292.trans (congrArg some (by kernel_rfl))
  f297 := Tryz.func293.trans (congrArg some (by kernel_rfl))
  f298 := Tryz.func294.trans (congrArg some (by kernel_rfl))
  f299 := Tryz.func295.trans (congrArg some (by kernel_rfl))
  f300 := Tryz.func297.trans (congrArg some (by kernel_rfl))
  f301 := Tryz.func298.trans (congrArg some (by kernel_rfl))
  f328 := Tryz.func308.trans (congrArg some (by kernel_rfl))
  f329 := Tryz.func309.trans (congrArg some (by kernel_rfl))
  f330 := Tryz.func310.trans (congrArg some (by kernel_rfl))
  f331 := Tryz.func311.trans (congrArg some (by kernel_rfl))
  f332 := Tryz.func312.trans (congrArg some (by kernel_rfl))
  f343 := Tryz.func314.trans (congrArg some (by kernel_rfl))
  t0 := Tryz.underlying0
  a0 := Tryz.isAgg0
  z0 := Tryz.sizeOf0
  v0 := Tryz.zeroValue0
  t3 := Tryz.underlying3
  a3 := Tryz.isAgg3
  z3 := Tryz.sizeOf3
  v3 := Tryz.zeroValue3
  t4 := Tryz.underlying4
  a4 := Tryz.isAgg4
  z4 := Tryz.sizeOf4
  v4 := Tryz.zeroValue4
  t5 := Tryz.underlying5
  a5 := Tryz.isAgg5
  z5 := Tryz.sizeOf5
  v5 := Tryz.zeroValue5
  t9 := Tryz.underlying9
  a9 := Tryz.isAgg9
  z9 := Tryz.sizeOf9
  v9 := Tryz.zeroValue9
  t28 := Tryz.underlying69
  a28 := Tryz.isAgg69
  z28 := Tryz.sizeOf69
  v28 := Tryz.zeroValue69
  t46 := Tryz.underlying307
  a46 := Tryz.isAgg307
  z46 := Tryz.sizeOf307
  v46 := Tryz.zeroValue307
  t51 := Tryz.underlying97
  a51 := Tryz.isAgg97
  z51 := Tryz.sizeOf97
  v51 := Tryz.zeroValue97
  t53 := Tryz.underlying269
  a53 := Tryz.isAgg269
  z53 := Tryz.sizeOf269
  v53 := Tryz.zeroValue269
  t131 := Tryz.underlying377
  a131 := Tryz.isAgg377
  z131 := Tryz.sizeOf377
  v131 := Tryz.zeroValue377
  t182 := Tryz.underlying372
  a182 := Tryz.isAgg372
  z182 := Tryz.sizeOf372
  v182 := Tryz.zeroValue372
  t183 := Tryz.underlying373
  a183 := Tryz.isAgg373
  z183 := Tryz.sizeOf373
  v183 := Tryz.zeroValue373
  t218 := Tryz.underlying383
  a218 := Tryz.isAgg383
  z218 := Tryz.sizeOf383
  v218 := Tryz.zeroValue383
  t222 := Tryz.underlying386
  a222 := Tryz.isAgg386
  z222 := Tryz.sizeOf386
  v222 := Tryz.zeroValue386
  t228 := Tryz.underlying388
  a228 := Tryz.isAgg388
  z228 := Tryz.sizeOf388
  v228 := Tryz.zeroValue388
  t229 := Tryz.underlying389
  a229 := Tryz.isAgg389
  z229 := Tryz.sizeOf389
  v229 := Tryz.zeroValue389 }
open Go.Sort Go.RowKit in
theorem lib_Sort_int (blk off cap : Nat) (zs : List Int) (w : World) (hH : Holds (Value.int .i64) w blk off zs.toArray) (hblk : blk < w.heap.size) (hsz : zs.length < 4611686018427387904) :
    Calls Tryz.prog 265 #[.slice (some ⟨blk, off, none⟩) zs.length cap] w fun e w' =>
      e = .returned (.tuple #[]) ∧ ∃ n os, w' = grow (putRow (Value.int .i64) (Sort.ahead w n) blk off (zs.mergeSort fun x y => decide (x ≤ y)).toArray) os := Any.slices_Sort_int lay189 blk off cap zs w hH hblk hsz
def layNm220_ren : Go.Shelf.Ren := ⟨fun | 20 => 266 | n => n, fun | 22 => 69 | 3 => 3 | 4 => 4 | 0 => 0 | n => n, fun | n => n⟩
theorem layNm220 : Go.Proofs.Lays2.n20 Tryz.prog layNm220_ren := {
  mixed := by kernel_rfl
  f20 := Tryz.func266.trans (congrArg some (by kernel_rfl))
  t0 := Tryz.underlying0
  a0 := Tryz.isAgg0
  z0 := Tryz.sizeOf0
  v0 := Tryz.zeroValue0
  t3 := Tryz.underlying3
  a3 := Tryz.isAgg3
  z3 := Tryz.sizeOf3
  v3 := Tryz.zeroValue3
  t4 := Tryz.underlying4
  a4 := Tryz.isAgg4
  z4 := Tryz.sizeOf4
  v4 := Tryz.zeroValue4
  t22 := Tryz.underlying69
  a22 := Tryz.isAgg69
  z22 := Tryz.sizeOf69
  v22 := Tryz.zeroValue69
  i3 := by kernel_rfl }
open Go.RowKit Go.Lib Go.Sort in
open Go.RowKit Go.Lib Go.Sort in
theorem lib_Compact_int (blk off cap : Nat) (zs : List Int) (w : World) (hH : Holds (Value.int .i64) w blk off zs.toArray) (hsz : zs.length ≤ 9223372036854775807) (hcap : zs.length ≤ cap) :
    Calls Tryz.prog 266 #[.slice (some ⟨blk, off, none⟩) zs.length cap] w fun e w' => e = .returned (.slice (some ⟨blk, off, none⟩) (Lib.compact zs).length cap) ∧ ∃ q, w' = putRow (Value.int .i64) (Sort.ahead w q) blk off (Lib.compact zs ++ List.replicate (zs.length - (Lib.compact zs).length) 0).toArray := Any.slices_Compact_int layNm220 blk off cap zs w hH hsz hcap
open Go.RowKit Go.Lib Go.Sort in
open Go.RowKit Go.Sort in
def layKeys_ren : Go.Shelf.Ren := ⟨fun | 7 => 241 | 10 => 268 | n => n, fun | 23 => 162 | 26 => 3 | 3 => 31 | 28 => 326 | 0 => 0 | 27 => 325 | 33 => 130 | 4 => 4 | n => n, fun | n => n⟩
theorem layKeys : Go.Proofs.SlLaysZI.n7 Tryz.prog layKeys_ren := {
  mixed := by kernel_rfl
  f7 := ⟨Tryz.f241.name, by decide, Tryz.func241.trans (congrArg some (by kernel_rfl))⟩
  f10 := ⟨Tryz.f268.name, by decide, Tryz.func268.trans (congrArg some (by kernel_rfl))⟩
  t0 := Tryz.underlying0
  a0 := Tryz.isAgg0
  z0 := Tryz.sizeOf0
  v0 := Tryz.zeroValue0
  t4 := Tryz.underlying4
  a4 := Tryz.isAgg4
  z4 := Tryz.sizeOf4
  v4 := Tryz.zeroValue4
  t23 := Tryz.underlying162
  a23 := Tryz.isAgg162
  z23 := Tryz.sizeOf162
  v23 := Tryz.zeroValue162
  t26 := Tryz.underlying3
  a26 := Tryz.isAgg3
  z26 := Tryz.sizeOf3
  v26 := Tryz.zeroValue3
  t27 := Tryz.underlying325
  a27 := Tryz.isAgg325
  z27 := Tryz.sizeOf325
  v27 := Tryz.zeroValue325
  t28 := Tryz.underlying326
  a28 := Tryz.isAgg326
  z28 := Tryz.sizeOf326
  v28 := Tryz.zeroValue326
  t33 := Tryz.underlying130
  a33 := Tryz.isAgg130
  z33 := Tryz.sizeOf130
  v33 := Tryz.zeroValue130 }
def layCol_ren : Go.Shelf.Ren := ⟨fun | 8 => 240 | 11 => 267 | n => n, fun | 26 => 3 | 28 => 326 | 24 => 69 | 0 => 0 | 33 => 130 | 4 => 4 | n => n, fun | n => n⟩
theorem layCol : Go.Proofs.SlLaysZI.n8 Tryz.prog layCol_ren := {
  mixed := by kernel_rfl
  f8 := ⟨Tryz.f240.name, by decide, Tryz.func240.trans (congrArg some (by kernel_rfl))⟩
  f11 := ⟨Tryz.f267.name, by decide, Tryz.func267.trans (congrArg some (by kernel_rfl))⟩
  t0 := Tryz.underlying0
  a0 := Tryz.isAgg0
  z0 := Tryz.sizeOf0
  v0 := Tryz.zeroValue0
  t24 := Tryz.underlying69
  a24 := Tryz.isAgg69
  z24 := Tryz.sizeOf69
  v24 := Tryz.zeroValue69
  t26 := Tryz.underlying3
  a26 := Tryz.isAgg3
  z26 := Tryz.sizeOf3
  v26 := Tryz.zeroValue3
  t28 := Tryz.underlying326
  a28 := Tryz.isAgg326
  z28 := Tryz.sizeOf326
  v28 := Tryz.zeroValue326
  i26 := by kernel_rfl }
end Go.Proofs.YtdigjklhfimnbaaGreat
