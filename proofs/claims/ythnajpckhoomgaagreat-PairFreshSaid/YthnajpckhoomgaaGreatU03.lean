/- Texts Put, Rint, Grw, Awake, Typ2, Rfn, Wit, Zba, Shelf, Gn0 of this proof, in one. No conditions but on lengths. -/
import Derived.Test.YthnajpckhoomgaaGreatRows
import Derived.Test.YthnajpckhoomgaaGreatU02
import Derived.ArgAppend
import Derived.Below
import Derived.BigQuiet
import Derived.BigRegion
import Derived.Calls
import Derived.ChangeArms
import Derived.ChangeKeysEq
import Derived.ChangeMade
import Derived.ChangeOld
import Derived.Deep.Cut
import Derived.Deep.QuietTactic
import Derived.Deep.RegionLaw
import Derived.Deep.RegionWith
import Derived.Deep.Slices
import Derived.Ground.GgzProg
import Derived.Ground.Names2Prog
import Derived.Laws.AppendOwnNone
import Derived.Laws.BitsLemmas
import Derived.Laws.BytesArg
import Derived.Laws.LoneSync
import Derived.Laws.OwnMore
import Derived.Laws.StructEq
import Derived.Lib.ConvBytes
import Derived.Lib.Hide
import Derived.Lib.QuietBelow
import Derived.LoopIn
import Derived.LoopTactic
import Derived.Maps.AppendAt
import Derived.Maps.OwnSet
import Derived.OpenShut
import Derived.Orders
import Derived.Outline
import Derived.OwnWalkIn
import Derived.ProofKit
import Derived.RangeFuncBox
import Derived.RangeFuncCalls
import Derived.RangeFuncLeaves
import Derived.RangeFuncNested
import Derived.Shelf.RegionOpen
import Derived.Shelf.SlIterI.Nil
import Derived.Shelf.Slices.CompactI
import Derived.Shelf.Slices.In.SortNone
import Derived.Shelf.Sort.Plain
import Derived.ShutString
import Derived.StillTail
import Derived.TacticsInMore
import Derived.WalkKit
import Derived.WalkSpells
import Derived.WideShapes
namespace Go.Proofs.YthnajpckhoomgaaGreat
set_option maxRecDepth 100000
open Go.RowKit

theorem Tryz.info5 : (Tryz.prog.info? 5).map (fun i => (i.zero, i.size, i.bytes)) = some (some (.int .u8 0), 1, 1) := by kernel_rfl
theorem store_any (b : Nat) (x v : Int) (w : World) (hc : w.cell? ⟨b, 0, none⟩ = some (.int .u64 x)) (hf : w.frozen? ⟨b, 0, none⟩ = false) :
    Calls Tryz.prog 198 #[.pointer (some ⟨b, 0, none⟩), .int .u64 v] w fun e w' => e = .returned (.tuple #[]) ∧ w' = w.setCell ⟨b, 0, none⟩ (.int .u64 v) := by
  have hs := run_call_store (P := Tryz.prog) Tryz.func224 (by kernel_rfl) (by kernel_rfl) (by kernel_rfl) (by kernel_rfl) (k := .u64) (y := v) hc hf
  go_enter Tryz.func198, Tryz.ntmps198
  go_wp2
  go_end0
  exact ⟨rfl, rfl⟩
theorem load_any (b : Nat) (x : Int) (w : World) (hc : w.cell? ⟨b, 0, none⟩ = some (.int .u64 x)) :
    Calls Tryz.prog 199 #[.pointer (some ⟨b, 0, none⟩)] w fun e w' => e = .returned (.int .u64 x) ∧ w = w' := by
  have hl := run_call_load (P := Tryz.prog) Tryz.func225 (by kernel_rfl) (by kernel_rfl) (by kernel_rfl) .u64 (by kernel_rfl) hc
  go_enter Tryz.func199, Tryz.ntmps199
  go_wp2
  go_ret
  exact ⟨rfl, rfl⟩
/-- The n lowest bytes of a number, the highest first. -/
def lo (v : Int) (n : Nat) : List Int := (List.range n).map fun i => v / 256 ^ (n - 1 - i) % 256
theorem two_pow8 (v : Int) (m : Nat) : v / 256 ^ m % 256 = v / 2 ^ (8 * m) % 256 := by
  rw [Int.pow_mul]; rfl
/-- n bytes by their places. -/
def row (F : Nat → Int) (n : Nat) : List Value := (List.range n).map fun i => Value.int .u8 (F i)
theorem row_len (F : Nat → Int) (n : Nat) : (row F n).length = n := by simp [row]
theorem row_get (F : Nat → Int) (n k : Nat) (h : k < n) : (row F n)[k]? = some (.int .u8 (F k)) := by simp [row, h]
theorem row_set (F G : Nat → Int) (n k : Nat) (x : Int) (hk : G k = x) (ho : ∀ i, i < n → i ≠ k → G i = F i) : (row F n).set k (.int .u8 x) = row G n := by
  apply List.ext_getElem?
  intro i
  rw [List.getElem?_set]
  by_cases hi : i < n
  · rw [row_get _ _ _ hi, row_get _ _ _ hi, row_len]
    by_cases e : k = i
    · subst e; rw [if_pos rfl, if_pos hi, hk]
    · rw [if_neg e, ho i hi (fun h => e h.symm)]
  · rw [List.getElem?_eq_none (by rw [row_len]; omega), List.getElem?_eq_none (by rw [row_len]; omega), row_len]
    by_cases e : k = i
    · subst e; rw [if_pos rfl, if_neg hi]
    · rw [if_neg e]
theorem row_congr {F G : Nat → Int} {n : Nat} (h : ∀ i, i < n → F i = G i) : row F n = row G n :=
  List.map_congr_left fun i hi => by rw [h i (List.mem_range.1 hi)]
/-- The first k places filled; the places from k on filled. -/
def upTo (L : Nat → Int) (k i : Nat) : Int := if i < k then L i else 0
theorem row_up (L : Nat → Int) (n k : Nat) : (row (upTo L k) n).set k (.int .u8 (L k)) = row (upTo L (k + 1)) n := by
  refine row_set _ _ _ _ _ ?_ ?_
  · simp [upTo]
  · intro i _ hne
    by_cases h : i < k
    · simp only [upTo]; rw [if_pos h, if_pos (by omega)]
    · simp only [upTo]; rw [if_neg h, if_neg (by omega)]
theorem row_upTo (L : Nat → Int) (n : Nat) : row (upTo L n) n = row L n := row_congr fun i h => by simp only [upTo]; rw [if_pos h]
theorem row_upTo0 (L : Nat → Int) (n : Nat) : row (upTo L 0) n = row (fun _ => 0) n := row_congr fun i h => by simp [upTo]
theorem row_zero (n : Nat) : (madeCells (Value.int IntKind.u8 0).cells (n * 1)).toList = row (fun _ => 0) n := by
  have e : (Value.int IntKind.u8 0).cells = #[.int .u8 0] := rfl
  apply List.ext_getElem?
  intro i
  by_cases h : i < n
  · rw [row_get _ _ _ h, e]; simp [madeCells, h, Nat.mod_one]
  · rw [List.getElem?_eq_none (by simp [madeCells]; omega), List.getElem?_eq_none (by rw [row_len]; omega)]
/-- An owned row of bytes, as bytes that read so. -/
theorem Bs_of_row {w : World} {base g n : Nat} {F : Nat → Int} (h : w.ownsRow base 5 1 (.slice (some ⟨g, 0, none⟩) n n) n (row F n)) (hn : n ≤ 9223372036854775807) (hF : ∀ i, i < n → 0 ≤ F i ∧ F i < 256) :
    Bs w (.slice (some ⟨g, 0, none⟩) n n) ((List.range n).map F) := by
  refine ⟨fun x hx => ?_, by simpa using hn, .inr ⟨g, 0, n, by simp, by simp, fun i hi => ?_⟩⟩
  · obtain ⟨i, hi, rfl⟩ := List.mem_map.1 hx
    exact hF i (List.mem_range.1 hi)
  · have hi' : i < n := by simpa using hi
    rw [Nat.zero_add, h.cellAt i (by omega), row_get _ _ _ hi']
    simp [List.getD, hi']
/-- It returns a slice that reads as xs, and nothing that was there has changed. -/
def RetBs (xs : List Int) (w : World) (e : Ending) (w' : World) : Prop := ∃ r, e = .returned r ∧ Bs w' r xs ∧ Below w.heap.size w w'
set_option maxHeartbeats 400000 in
theorem spell_any (v : Int) (n : Nat) (w : World) (_ : 0 ≤ v) (h1 : 1 ≤ n) (h8 : n ≤ 8) :
    Calls Tryz.prog 165 #[.int .u64 v, .int .i64 n] w (RetBs (lo v n) w) := by
  obtain ⟨i0, hi, hz0, hz1, hz2⟩ := info_parts Tryz.info5
  go_enter Tryz.func165, Tryz.ntmps165
  go_wp2_with (first
    | (go_at_call 198; refine (store_any _ 0 v _ (by simp) (by simp)).mono ?_; rintro e w' ⟨rfl, rfl⟩)
    | (at_make; go_must (refine wpList_make_full _ rfl _ _ 115 rfl (w.heap.size + 1) 5 i0 (.int .u8 0) 1 Tryz.underlying115 hi hz0 hz1 _ _ _ _ n rfl rfl rfl rfl (by rw [hz2]; omega) (by unfold maxLen; omega) (by simp) ?_); intro w1 hown hgrow))
  rw [row_zero] at hown
  have hbel : Below w.heap.size w w1 := (((Below.refl _ w).alloc (Nat.le_refl _) _).grown hgrow (by simp) (by simp))
  have hat : w1.cell? ⟨w.heap.size, 0, none⟩ = some (.int .u64 v) := hgrow.cell (by simp) (by simp)
  clear hgrow
  go_loopw [7, 14] (fun _ i wr => ∃ k : Nat, k ≤ n ∧ i = .int .i64 k ∧ wr.ownsRow (w.heap.size + 1) 5 1 (.slice (some ⟨w.heap.size + 1, 0, none⟩) n n) n (row (upTo (fun i => v / 256 ^ (n - 1 - i) % 256) k) n) ∧ Below w.heap.size w wr ∧ wr.cell? ⟨w.heap.size, 0, none⟩ = some (.int .u64 v)) (fun _ i _ => n - (intOf i).toNat)
  case atStart => exact ⟨0, Nat.zero_le _, rfl, by rw [row_upTo0]; simpa using hown, hbel, hat⟩
  case round =>
    clear hbel hat hown
    obtain ⟨k, hk, rfl, hown, hbel, hat⟩ := hrel
    by_cases hlt : k < n
    · have hcell := hown.cellAt k (by omega)
      rw [row_get _ _ _ hlt] at hcell
      have hfz := hown.frozenAt k
      have hst := Lib.hid (hown.stored k)
      have hb2 := Lib.hid hbel
      clear hown hbel
      go_wp2_with (go_at_call 199; refine (load_any _ v _ hat).mono ?_; rintro e w' ⟨rfl, rfl⟩)
      go_roundw
      case rel =>
        refine ⟨k + 1, by omega, by go_num, ?_, hb2.out.setCell (by simp) _, by rw [World.cell?_setCell_other _ _ _ _ (by simp)]; exact hat⟩
        rw [← row_up, two_pow8]
        exact (hst.out _).1
      case measure => simp [intOf]; omega
    · obtain rfl : k = n := by omega
      have ho := Lib.hid hown
      have hb2 := Lib.hid hbel
      clear hown hbel hat
      go_wp2
      go_ret
      refine ⟨_, rfl, ?_, hb2.out⟩
      have hr := ho.out
      rw [row_upTo] at hr
      exact Bs_of_row hr (by omega) (fun i _ => by omega)
/-- Put's answer: the bytes, the error. -/
def PutOk (v n : Int) : Prop := 1 ≤ n ∧ n ≤ 7 ∧ 0 ≤ v ∧ v < pow256 n.toNat
instance (v n : Int) : Decidable (PutOk v n) := by unfold PutOk; infer_instance
def putB (v n : Int) : List Int := if PutOk v n then lo v n.toNat else []
def putE (v n : Int) : Int := if PutOk v n then 0 else 1
def RetPut (v n : Int) (w : World) (e : Ending) (w' : World) : Prop := ∃ r, e = .returned (.tuple #[r, .int .i64 (putE v n)]) ∧ Bs w' r (putB v n) ∧ Below w.heap.size w w'
theorem Bs_nil (w : World) : Bs w (.slice none 0 0) [] := ⟨by simp, by simp, .inl ⟨none, 0, rfl, fun _ => rfl, rfl⟩⟩
theorem RetPut_bad {v n : Int} (w : World) (h : ¬ PutOk v n) : RetPut v n w (.returned (.tuple #[.slice none 0 0, .int .i64 1])) w :=
  ⟨_, by rw [putE, if_neg h], by rw [putB, if_neg h]; exact Bs_nil w, Below.refl _ _⟩
theorem pow2_8 (N : Nat) : (2 : Int) ^ (8 * N) = pow256 N := by
  induction N with
  | zero => rfl
  | succ N ih => rw [Nat.mul_succ, Int.pow_add, ih, Int.mul_comm]; rfl
theorem shl_pow (N : Nat) (h : N ≤ 7) : wrap64 ((2 : Int) ^ (8 * N)) = pow256 N := by
  have h1 := pow256_pos N
  have h2 := pow256_small h
  rw [pow2_8]; unfold wrap64; omega
set_option maxHeartbeats 400000 in
theorem put_any (v n : Int) (w : World) (hv : v < 9223372036854775808) : Calls Tryz.prog 133 #[.int .i64 v, .int .i64 n] w (RetPut v n w) := by
  by_cases c1 : n < 1 ∨ 7 < n ∨ v < 0
  · have hb := Lib.hid (fun w => RetPut_bad (v := v) (n := n) w (by unfold PutOk; omega))
    rcases c1 with c1 | c1 | c1
    all_goals
      go_enter Tryz.func133, Tryz.ntmps133
      go_wp2
      all_goals
        go_ret2
        exact hb.out _
  · obtain ⟨N, rfl⟩ := Int.eq_ofNat_of_zero_le (show (0 : Int) ≤ n by omega)
    have n1 : (1 : Int) ≤ (N : Int) := by omega
    have n7 : (N : Int) ≤ 7 := by omega
    have v0 : 0 ≤ v := by omega
    have n1' : 1 ≤ N := by omega
    have n8' : N ≤ 8 := by omega
    clear c1
    by_cases c2 : v < pow256 N
    · have hg : Hid (PutOk v N) := ⟨n1, n7, v0, c2⟩
      rw [← shl_pow N (by omega)] at c2
      go_enter Tryz.func133, Tryz.ntmps133
      go_wp2_with (go_at_call 165; refine (spell_any v N _ v0 n1' n8').mono ?_; rintro e w' ⟨r, rfl, hr, hbel⟩)
      go_ret2
      exact ⟨r, by rw [putE, if_pos hg.out]; rfl, by rw [putB, if_pos hg.out]; exact hr, hbel⟩
    · have hb := Lib.hid (fun w => RetPut_bad (v := v) (n := N) w (by unfold PutOk; simp only [Int.toNat_natCast]; omega))
      rw [← shl_pow N (by omega)] at c2
      go_enter Tryz.func133, Tryz.ntmps133
      go_wp2
      go_ret2
      exact hb.out _
set_option maxHeartbeats 400000 in
theorem int_any (v : Int) (w : World) :
    Calls Tryz.prog 214 #[.int .i64 v] w (RetBs (lo (IntKind.u64.wrap v) 8) w) := by
  have h0 : 0 ≤ IntKind.u64.wrap v := by rw [IntKind.wrap_u64]; omega
  go_enter Tryz.func214, Tryz.ntmps214
  go_wp2_with (go_at_call 165; refine (spell_any _ 8 _ h0 (by omega) (by omega)).mono ?_; rintro e w' ⟨r, rfl, hr, hbel⟩)
  go_ret
  exact ⟨r, rfl, hr, hbel⟩
end Go.Proofs.YthnajpckhoomgaaGreat
namespace Go.Proofs.YthnajpckhoomgaaGreat
open Go.RowKit
set_option maxRecDepth 20000

theorem Bs_below {w w' : World} {v : Value} {xs : List Int} (h : Bs w v xs) (hb : Below w.heap.size w w') : Bs w' v xs := by
  obtain ⟨h1, h2, h3 | ⟨b, off, cap, h4, h5, h6⟩⟩ := h
  · exact ⟨h1, h2, .inl h3⟩
  · refine ⟨h1, h2, .inr ⟨b, off, cap, h4, h5, fun i hi => ?_⟩⟩
    have hc := h6 i hi
    rw [hb.cell (World.block_lt_of_cell? w _ hc)]
    exact hc
theorem Bs_of_own {w : World} {base n : Nat} {v : Value} {xs : List Int} (h : w.ownsRow base 5 1 v n (xs.map (Value.int .u8))) (hx : ∀ x ∈ xs, 0 ≤ x ∧ x < 256) (hn : xs.length ≤ 9223372036854775807) : Bs w v xs := by
  have hl : xs.length = n := by simpa using h.1
  refine ⟨hx, hn, ?_⟩
  rcases h.2 with ⟨h1, h2⟩ | ⟨g, cap, cur, rfl, _, hg, hnc, _, _, htake⟩
  · left; exact ⟨none, 0, h1, fun _ => rfl, List.length_eq_zero_iff.1 (by omega)⟩
  · right
    refine ⟨g, 0, cap, by rw [hl], by omega, fun i hi => ?_⟩
    rw [Nat.zero_add, h.cellAt i (by omega)]
    simp [List.getD, hi]
theorem World.ownsRow.len {w : World} {base n : Nat} {v : Value} {xs : List Int} (h : w.ownsRow base 5 1 v n (xs.map (Value.int .u8))) : n = xs.length := by simpa using h.1.symm
theorem news_of {w : World} {b off : Nat} {xs : List Int} (hc : ∀ i, i < xs.length → w.cell? ⟨b, off + i, none⟩ = some (.int .u8 (xs.getD i 0))) : ∀ j u, (xs.map (Value.int .u8))[j]? = some u → w.cell? ((⟨b, off, none⟩ : Addr).add j) = some u := by
  intro j u h
  have hj : j < xs.length := by
    rcases Nat.lt_or_ge j xs.length with h' | h'
    · exact h'
    · rw [List.getElem?_eq_none (by simpa using h')] at h; cases h
  have hadd : (⟨b, off, none⟩ : Addr).add j = ⟨b, off + j, none⟩ := by unfold Addr.add; split <;> simp_all
  rw [hadd, hc j hj]
  simp [hj] at h
  simp [List.getD, hj, h]
theorem ones (xs : List Int) : ∀ u ∈ xs.map (Value.int .u8), u.oneCell' = true := by
  intro u hu
  obtain ⟨_, _, rfl⟩ := List.mem_map.1 hu
  rfl
end Go.Proofs.YthnajpckhoomgaaGreat
namespace Go.Proofs.YthnajpckhoomgaaGreat
set_option maxRecDepth 100000
open Go.RowKit Go.WideShapes Go.ChangeShapes

/-- A type whose rows are looked at: what an element is, and its cells. -/
structure RowT where
  α : Type
  d : α
  cl : α → List Value
  K : Nat
  T : TypeId
  SL : TypeId
  zero : Value
  bytes : Nat
  hcl : ∀ y, (cl y).length = K
  hK : 0 < K
  hone : ∀ y, ∀ u ∈ cl y, u.oneCell' = true
  hSL : Tryz.prog.underlying SL = some (.slice T)
  hinfo : (Tryz.prog.info? T).map (fun i => (i.zero, i.size, i.bytes)) = some (some zero, K, bytes)
  hz : zero.cells.size = K
  hb : bytes ≤ 4096
  hc : Tryz.prog.cellsOf T = K
variable (R : RowT)

theorem add_spot' (b off k : Nat) : (⟨b, off, none⟩ : Addr).add k = ⟨b, off + k, none⟩ := by unfold Addr.add; split <;> simp_all
def gflat (ys : List R.α) : List Value := ys.flatMap R.cl
theorem gflat_len (ys : List R.α) : (gflat R ys).length = ys.length * R.K := by
  induction ys with
  | nil => simp [gflat]
  | cons y ys ih => simp only [gflat, List.flatMap_cons, List.length_append, List.length_cons, R.hcl] at *; rw [ih, Nat.succ_mul]; omega
theorem gflat_app (xs ys : List R.α) : gflat R (xs ++ ys) = gflat R xs ++ gflat R ys := by simp [gflat]
theorem gflat_one (y : R.α) : gflat R [y] = R.cl y := by simp [gflat]
theorem gflat_at : ∀ (ys : List R.α) (i j : Nat), i < ys.length → j < R.K → (gflat R ys)[i * R.K + j]? = (R.cl (ys.getD i R.d))[j]?
  | [], i, j, h, _ => by simp at h
  | y :: ys, 0, j, _, hj => by
    simp only [gflat, List.flatMap_cons, Nat.zero_mul, Nat.zero_add, List.getD_cons_zero]
    rw [List.getElem?_append_left (by rw [R.hcl]; exact hj)]
  | y :: ys, i + 1, j, h, hj => by
    have ih := gflat_at ys i j (by simpa using h) hj
    simp only [gflat, List.flatMap_cons, List.getD_cons_succ] at *
    rw [List.getElem?_append_right (by rw [R.hcl, Nat.succ_mul]; omega), R.hcl, show (i + 1) * R.K + j - R.K = i * R.K + j by rw [Nat.succ_mul]; omega]
    exact ih
theorem gflat_ones (ys : List R.α) : ∀ u ∈ gflat R ys, u.oneCell' = true := by
  intro u hu
  obtain ⟨y, _, hy⟩ := List.mem_flatMap.1 hu
  exact R.hone y u hy
/-- The cells of an element, wherever they lie. -/
def GC (w : World) (b o : Nat) (y : R.α) : Prop := ∀ j, j < R.K → w.cell? ⟨b, o + j, none⟩ = (R.cl y)[j]?
theorem GC.low {R : RowT} {w w' : World} {b o B : Nat} {y : R.α} (h : GC R w b o y) (hb : b < B) (hB : Below B w w') : GC R w' b o y := fun j hj => by
  rw [hB.cell (p := ⟨b, o + j, none⟩) hb]; exact h j hj
theorem gc_alloc (w : World) (y : R.α) (g : Nat) (hg : g = w.heap.size) (T : TypeId) : GC R (w.alloc (.cells (R.cl y).toArray T)) g 0 y := fun j hj => by
  subst hg
  rw [Nat.zero_add, cell_of_row _ _ _ _ _ _ (heap_alloc_new w _)]
  simp
/-- A slice that reads as ys. -/
def Gs (w : World) (v : Value) (ys : List R.α) : Prop :=
  (∃ a cap, v = .slice a 0 cap ∧ (a = none → cap = 0) ∧ ys = []) ∨
  ∃ b off cap, v = .slice (some ⟨b, off, none⟩) ys.length cap ∧ ys.length ≤ cap ∧ b < w.heap.size ∧ ∀ i, i < ys.length → GC R w b (off + i * R.K) (ys.getD i R.d)
variable {R}
theorem Gs.below {w w' : World} {v : Value} {ys : List R.α} (h : Gs R w v ys) (hb : Below w.heap.size w w') : Gs R w' v ys := by
  rcases h with h | ⟨b, off, cap, h1, h2, h3, h4⟩
  · exact .inl h
  · exact .inr ⟨b, off, cap, h1, h2, Nat.lt_of_lt_of_le h3 hb.size, fun i hi => (h4 i hi).low h3 hb⟩
theorem Gs.alloc {w : World} {v : Value} {ys : List R.α} (h : Gs R w v ys) (O : Obj) : Gs R (w.alloc O) v ys := h.below ((Below.refl _ _).alloc (Nat.le_refl _) O)
theorem Gs.form {w : World} {v : Value} {ys : List R.α} (h : Gs R w v ys) : ∃ a c, v = .slice a ys.length c := by
  rcases h with ⟨a, cap, h1, _, rfl⟩ | ⟨b, off, cap, h1, _⟩
  · exact ⟨a, cap, h1⟩
  · exact ⟨_, _, h1⟩
theorem Gs_nil (w : World) : Gs R w (.slice none 0 0) [] := .inl ⟨none, 0, rfl, fun _ => rfl, rfl⟩
theorem Gs.at {w : World} {a : Option Addr} {c : Nat} {ys : List R.α} (h : Gs R w (.slice a ys.length c) ys) {i : Nat} (hi : i < ys.length) : ∃ b off, a = some ⟨b, off, none⟩ ∧ b < w.heap.size ∧ GC R w b (off + i * R.K) (ys.getD i R.d) := by
  rcases h with ⟨a', cap, hv, _, rfl⟩ | ⟨b, off, cap, hv, _, hB, hc⟩
  · simp at hi
  · simp only [Value.slice.injEq] at hv
    exact ⟨b, off, hv.1, hB, hc i hi⟩
theorem Gs.all {w : World} {b off c : Nat} {ys : List R.α} (h : Gs R w (.slice (some ⟨b, off, none⟩) ys.length c) ys) {i : Nat} (hi : i < ys.length) : b < w.heap.size ∧ GC R w b (off + i * R.K) (ys.getD i R.d) := by
  obtain ⟨b', off', h1, h2⟩ := h.at hi
  simp only [Option.some.injEq, Addr.mk.injEq, and_true] at h1
  obtain ⟨rfl, rfl⟩ := h1
  exact h2
theorem gown_cell {w : World} {base n g cap : Nat} {xs : List Value} {e : TypeId} {size : Nat} (h : w.ownsRow base e size (.slice (some ⟨g, 0, none⟩) n cap) n xs) (j : Nat) (hj : j < n * size) : w.cell? ⟨g, j, none⟩ = xs[j]? := h.cellAt j hj
theorem Gs_of_own {w : World} {base n : Nat} {v : Value} {ys : List R.α} (h : w.ownsRow base R.T R.K v n (gflat R ys)) : Gs R w v ys ∧ n = ys.length := by
  have hn : n = ys.length := by
    have h1 := h.1
    rw [gflat_len] at h1
    exact (Nat.eq_of_mul_eq_mul_right R.hK h1).symm
  subst hn
  refine ⟨?_, rfl⟩
  rcases h.2 with ⟨h1, h2⟩ | ⟨g, cap, cur, rfl, _, hg, hnc, _, _, htake⟩
  · exact .inl ⟨none, 0, h1, fun _ => rfl, List.length_eq_zero_iff.1 h2⟩
  · refine .inr ⟨g, 0, cap, rfl, hnc, (Array.getElem?_eq_some_iff.1 hg).1, fun i hi j hj => ?_⟩
    have hlt : i * R.K + j < ys.length * R.K := by
      have : (i + 1) * R.K ≤ ys.length * R.K := Nat.mul_le_mul_right _ hi
      rw [Nat.succ_mul] at this
      omega
    rw [Nat.zero_add, gown_cell h (i * R.K + j) hlt, gflat_at R ys i j hi hj]
theorem gown_nil (w : World) (base : Nat) : w.ownsRow base R.T R.K (.slice none 0 0) 0 (gflat R []) := ⟨by simp [gflat], .inl ⟨rfl, rfl⟩⟩
theorem gown_below {w w' : World} {base size n : Nat} {e : TypeId} {v : Value} {xs : List Value} (h : w.ownsRow base e size v n xs) (hb : Below w.heap.size w w') : w'.ownsRow base e size v n xs := by
  refine ⟨h.1, ?_⟩
  rcases h.2 with h2 | ⟨g, cap, cur, rfl, h3, hg, rest⟩
  · exact .inl h2
  · exact .inr ⟨g, cap, cur, rfl, h3, (hb.block g (Array.getElem?_eq_some_iff.1 hg).1).trans hg, rest⟩
theorem gown_mono {w : World} {base B size n : Nat} {e : TypeId} {v : Value} {xs : List Value} (h : w.ownsRow base e size v n xs) (hB : B ≤ base) : w.ownsRow B e size v n xs := by
  rcases h.2 with h2 | ⟨g, cap, cur, h2, h3, h4⟩
  · exact ⟨h.1, .inl h2⟩
  · exact ⟨h.1, .inr ⟨g, cap, cur, h2, Nat.le_trans hB h3, h4⟩⟩
theorem gown_form {w : World} {base size n : Nat} {e : TypeId} {v : Value} {xs : List Value} (h : w.ownsRow base e size v n xs) : ∃ a c, v = .slice a n c := by
  rcases h.2 with ⟨rfl, rfl⟩ | ⟨g, cap, cur, rfl, _⟩
  · exact ⟨none, 0, rfl⟩
  · exact ⟨_, _, rfl⟩
theorem gown_prefix {w : World} {S size n m g cap : Nat} {e : TypeId} {xs ys : List Value} (h : w.ownsRow S e size (.slice (some ⟨g, 0, none⟩) (n + m) cap) (n + m) (xs ++ ys)) (hx : xs.length = n * size) : w.ownsRow S e size (.slice (some ⟨g, 0, none⟩) n cap) n xs := by
  refine ⟨hx, ?_⟩
  rcases h.2 with ⟨h1, _⟩ | ⟨g', cap', cur, hv, hb, hg, hnc, hcm, hcs, htake⟩
  · cases h1
  · simp only [Value.slice.injEq, Option.some.injEq, Addr.mk.injEq, and_true, true_and] at hv
    obtain ⟨rfl, rfl⟩ := hv
    refine .inr ⟨g, cap, cur, rfl, hb, hg, by omega, hcm, hcs, ?_⟩
    have h3 : (cur.toList.take ((n + m) * size)).take (n * size) = (xs ++ ys).take (n * size) := by rw [htake]
    rw [List.take_take, Nat.min_eq_left (Nat.mul_le_mul_right _ (Nat.le_add_right _ _)), ← hx, List.take_left] at h3
    rw [← hx]; exact h3
theorem gexec_append {ρ : Operand → Value} {o : Oper} {s x : Operand} {T : TypeId} {v u r : Value} {w w' : World} (ho : o.op = .call { callee := .builtin .append, args := #[s, x], argTypes := #[T, T] }) (hs : ρ s = v) (hx : ρ x = u)
    (hr : (Builtin.append_ #[T, T] o.type #[v, u]).run Tryz.prog w = .ok r w') : (execOp ρ o).run Tryz.prog w = .ok (.value r) w' := by
  unfold execOp
  simp only [ho, resolve, invoke, builtin, Sem.run_bind, Sem.run_pure, Result.andThen_ok, List.map_toArray, List.map_cons, List.map_nil, hs, hx, hr]
/-- One element more: the append as one operation's run. The elder row is there as it was. -/
theorem run_gapp (w : World) (ty : TypeId) (S : Nat) (v : Value) (xs : List R.α) (hown : w.ownsRow S R.T R.K v xs.length (gflat R xs)) (b : Nat) (y : R.α) (hy : GC R w b 0 y) (hl : xs.length ≤ 3000) (hS : S ≤ w.heap.size) :
    ∃ g cap w', (Builtin.append_ #[R.SL, R.SL] ty #[v, .slice (some ⟨b, 0, none⟩) 1 1]).run Tryz.prog w = .ok (.slice (some ⟨g, 0, none⟩) (xs.length + 1) cap) w' ∧ w'.ownsRow S R.T R.K (.slice (some ⟨g, 0, none⟩) (xs.length + 1) cap) (xs ++ [y]).length (gflat R (xs ++ [y])) ∧ w.grownBy w' v.ownBlock ∧ w'.ownsRow S R.T R.K v xs.length (gflat R xs) := by
  obtain ⟨i0, hi, hz0, hz1, hz2⟩ := info_parts R.hinfo
  have hzs := R.hz
  have hbb := R.hb
  have hpos := R.hK
  have e : gflat R (xs ++ [y]) = gflat R xs ++ R.cl y := by rw [gflat_app, gflat_one]
  have e2 : (xs ++ [y]).length = xs.length + 1 := by simp
  have hnews : ∀ j u, (R.cl y)[j]? = some u → w.cell? ((⟨b, 0, none⟩ : Addr).add j) = some u := fun j u hj => by
    have := (List.getElem?_eq_some_iff.1 hj).1
    rw [R.hcl] at this
    rw [add_spot', hy j this]; exact hj
  have hone : ∀ u ∈ R.cl y, u.oneCell' = true := R.hone y
  have hfl := gflat_len R xs
  have hcl1 : (R.cl y).length = 1 * R.K := by rw [R.hcl, Nat.one_mul]
  have hby : (xs.length + 1) * R.bytes ≤ 140737488355328 := Nat.le_trans (Nat.mul_le_mul (show xs.length + 1 ≤ 3001 by omega) hbb) (by decide)
  rw [e, e2]
  rcases hown.2 with ⟨rfl, h0⟩ | ⟨g, cap, cur, rfl, hg1, hg2, _⟩
  · obtain ⟨v', w', hr, h2, h3, _, _⟩ := run_append_own_at (P := Tryz.prog) w S R.SL ty R.T i0 R.zero R.K R.bytes R.hSL hi hz0 hz1 hz2 hzs hpos (.slice none 0 0) xs.length (gflat R xs) hown ⟨b, 0, none⟩ 1 1 (R.cl y) hcl1 hnews hone (by unfold maxLen; omega) hby hS
    obtain ⟨g, cap, rfl⟩ : ∃ g cap, v' = .slice (some ⟨g, 0, none⟩) (xs.length + 1) cap := by
      rcases h2.2 with ⟨_, h0⟩ | ⟨g, cap, _, rfl, _⟩
      · omega
      · exact ⟨g, cap, rfl⟩
    exact ⟨g, cap, w', hr, h2, h3, ⟨hown.1, .inl ⟨rfl, h0⟩⟩⟩
  · by_cases hroom : xs.length + 1 ≤ cap
    · obtain ⟨w', hr, h2, h3⟩ := run_append_fits (P := Tryz.prog) w S R.SL ty R.T i0 R.K R.hSL hi hz1 g xs.length cap (gflat R xs) hown ⟨b, 0, none⟩ 1 1 (R.cl y) hcl1 hnews hone hroom
      exact ⟨g, cap, w', hr, h2, h3, gown_prefix h2 hfl⟩
    · obtain ⟨v', w', hr, h2, h3⟩ := run_append_arg_grows (P := Tryz.prog) w R.SL ty R.T i0 R.zero R.K R.bytes R.hSL hi hz0 hz1 hz2 hzs hpos ⟨g, 0, none⟩ xs.length cap (gflat R xs) hfl (hown.cells rfl) ⟨b, 0, none⟩ 1 1 (R.cl y) hcl1 hnews (by omega) (by unfold maxLen; omega) hby
      obtain ⟨g', cap', rfl⟩ : ∃ g cap, v' = .slice (some ⟨g, 0, none⟩) (xs.length + 1) cap := by
        rcases h2.2 with ⟨_, h0⟩ | ⟨g, cap, _, rfl, _⟩
        · omega
        · exact ⟨g, cap, rfl⟩
      exact ⟨g', cap', w', hr, gown_mono h2 hS, ⟨h3.os, h3.tape, h3.output, h3.size, fun k hk _ => h3.block k hk (by simp)⟩, hown.kept h3 (.inr (by simp [Value.ownBlock]))⟩
theorem gs_trod {H : Type} {enc : TypeId × Value → H} {w : World} {base : Nat} {spare : Nat → Bool} {held : Bool} {f : Nat} {u : Value} {X : DataW H × List MemPlace}
    (hform : ∀ n' cs X, cs.length = R.K → DataW.trod enc Tryz.prog w base spare held n' R.T cs = some X → ∃ y : R.α, cs = R.cl y)
    (hf : DataW.trod enc Tryz.prog w base spare held f R.SL [u] = some X) : ∃ (a : Option Addr) (cap : Nat) (ys : List R.α), u = .slice a ys.length cap ∧ Gs R w u ys := by
  rcases Deep.open_slice R.hSL hf with ⟨hcs, _⟩ | ⟨x, l, c, m, n, D, Pl, hcs, _, hlc, _, hm, _, hel⟩
  · simp at hcs
    subst hcs
    exact ⟨none, 0, [], rfl, Gs_nil w⟩
  · simp at hcs
    subst hcs
    by_cases h0 : l = 0
    · subst h0
      exact ⟨_, c, [], rfl, .inl ⟨_, c, rfl, (fun h => by cases h), rfl⟩⟩
    · obtain ⟨b, off, spot⟩ := x
      have hlm : l ≤ m := by rw [hm]; split <;> omega
      have c12 := R.hc
      have hpos := R.hK
      have hsp : spot = none := by
        obtain ⟨cs', h1, h2⟩ := hel 0 (by omega)
        rw [c12] at h1
        obtain ⟨_, hl12, hcell⟩ := World.cells?_some h1
        obtain ⟨y, rfl⟩ := hform _ _ _ hl12 h2
        have hc0 := hcell 0 hpos
        rw [List.getElem?_eq_getElem (by rw [R.hcl]; exact hpos)] at hc0
        simpa [Addr.add] using World.cell?_spot hc0
      subst hsp
      have each : ∀ k, ∃ y : R.α, k < l → GC R w b (off + k * R.K) y ∧ b < w.heap.size := by
        intro k
        by_cases hk : k < l
        · obtain ⟨cs', h1, h2⟩ := hel k (by omega)
          rw [c12] at h1
          obtain ⟨_, hl12, hcell⟩ := World.cells?_some h1
          obtain ⟨y, rfl⟩ := hform _ _ _ hl12 h2
          have hB := World.cells?_block h1 hpos
          rw [add_spot'] at hcell hB
          exact ⟨y, fun _ => ⟨fun j hj => by have := hcell j (by first | exact hj | (rw [R.hcl]; exact hj)); rw [add_spot'] at this; exact this, hB⟩⟩
        · exact ⟨R.d, fun h => absurd h hk⟩
      obtain ⟨F, hF⟩ := Classical.skolem.1 each
      refine ⟨some ⟨b, off, none⟩, c, (List.range l).map F, by simp, .inr ⟨b, off, c, by simp, by simpa using hlc, (hF 0 (by omega)).2, fun i hi => ?_⟩⟩
      have hi' : i < l := by simpa using hi
      have e : ((List.range l).map F).getD i R.d = F i := by simp [List.getD, hi']
      rw [e]
      exact (hF i hi').1
def GX (row : Option Nat) (s k : Nat) (w w' : World) : Prop := if k = s then w.grownBy w' row else Below w.heap.size w w'
theorem GX_refl (row : Option Nat) (s k : Nat) (w : World) : GX row s k w w := by
  unfold GX
  by_cases h : k = s
  · rw [if_pos h]; exact ⟨rfl, rfl, rfl, Nat.le_refl _, fun _ _ _ => rfl⟩
  · rw [if_neg h]; exact Below.refl _ _
theorem GX_of {row : Option Nat} {s k : Nat} {w w' : World} (h : k ≠ s) (hb : Below w.heap.size w w') : GX row s k w w' := by unfold GX; rw [if_neg h]; exact hb
theorem GX_at {row : Option Nat} {s k : Nat} {w w' : World} (h : k = s) (hb : w.grownBy w' row) : GX row s k w w' := by unfold GX; rw [if_pos h]; exact hb
/-- A slice of one element in a new block. -/
def NewG (wo : World) (y : R.α) : Ty := fun u w => ∃ b, u = .slice (some ⟨b, 0, none⟩) 1 1 ∧ wo.heap.size ≤ b ∧ GC R w b 0 y
theorem NewG.keeps {wo : World} {y : R.α} {row : Option Nat} (hrow : ∀ b, row = some b → b < wo.heap.size) (s k : Nat) : T3.Keeps (GX row s) k (NewG wo y) := by
  rintro j _ u w w' ⟨b, h1, h2, h3⟩ hx
  have hlt : b < w.heap.size := by
    have := h3 0 R.hK
    have h4 : (R.cl y)[0]? ≠ none := by rw [List.getElem?_eq_getElem (by rw [R.hcl]; exact R.hK)]; simp
    cases hq : (R.cl y)[0]? with
    | none => exact absurd hq h4
    | some q => rw [hq] at this; exact World.block_lt_of_cell? w ⟨b, 0 + 0, none⟩ this
  refine ⟨b, h1, h2, fun i hi => ?_⟩
  rw [← h3 i hi]
  unfold GX at hx
  by_cases hj : j = s
  · rw [if_pos hj] at hx
    exact World.cell?_of_block (hx.block b hlt (fun e => by have := hrow b e.symm; omega))
  · rw [if_neg hj] at hx
    exact hx.cell (p := ⟨b, 0 + i, none⟩) hlt
/-- A row of the call's own. -/
def NewGRow (S : Nat) (zs : List R.α) (n : Nat) : Ty := fun u w => ∃ g cap, u = .slice (some ⟨g, 0, none⟩) n cap ∧ w.ownsRow S R.T R.K u zs.length (gflat R zs)
theorem NewGRow.keeps {S n : Nat} {zs : List R.α} {row : Option Nat} (s : Nat) : T3.Keeps (GX row s) s (NewGRow (R := R) S zs n) := by
  rintro j hj u w w' ⟨g, cap, h1, h2⟩ hx
  unfold GX at hx
  rw [if_neg hj] at hx
  exact ⟨g, cap, h1, gown_below h2 hx⟩
end Go.Proofs.YthnajpckhoomgaaGreat
namespace Go.Proofs.YthnajpckhoomgaaGreat
set_option maxRecDepth 100000
open Go.RowKit

theorem Bs_lit {w : World} (cs : List Int) (T : TypeId) (h : ∀ x ∈ cs, 0 ≤ x ∧ x < 256) (hl : cs.length ≤ 9) (o : Obj) (ho : o = .cells (cs.map (Value.int .u8)).toArray T) (g : Nat) (hg : g = w.heap.size) (n : Nat) (hn : n = cs.length) : Bs (w.alloc o) (.slice (some ⟨g, 0, none⟩) n n) cs := by
  subst ho hg hn
  refine ⟨h, by omega, .inr ⟨_, 0, _, rfl, Nat.le_refl _, fun i hi => ?_⟩⟩
  rw [cell_of_row _ _ _ _ _ _ (heap_alloc_new w _)]
  simp [List.getD, hi]
end Go.Proofs.YthnajpckhoomgaaGreat
namespace Go.Proofs.YthnajpckhoomgaaGreat
set_option maxRecDepth 100000
variable {P : Program} {ops : Array Oper} {C : World → Prop} {X : World → World → Prop} {a0 : Act}
theorem w_skipU {o : Oper} {rest : List Oper} {E : Tmp → Option Ty} {K : (Tmp → Option Ty) → Prop} {g : Nat} {d : Tmp} {want : Bool} (h1 : o.guard = some (g, want)) (h2 : (ops[g]?).bind (·.dst) = some d) (h3 : Known E a0 d undef)
    (hw : WalkT P ops C X a0 rest (push o (Is undef) E) K) : WalkT P ops C X a0 (o :: rest) E K :=
  ⟨Is undef, fun _ _ _ h _ => h, fun a w hC hf => by
    have hv := h3 a w (hf d (by simp [Oper.looksAt, h1, h2]))
    have hy : yielded ops a.tmps g = none := by
      unfold yielded
      rw [h2]
      simp only [Act.eval] at hv
      rcases Nat.lt_or_ge d a.tmps.size with h | h
      · simp [h] at hv
        simp [h, hv, undef]
      · simp [Array.getElem?_eq_none h]
    rw [if_neg (by simp [Region.wanted, h1, hy])]
    rfl, hw⟩
end Go.Proofs.YthnajpckhoomgaaGreat
namespace Go.Proofs.YthnajpckhoomgaaGreat
set_option maxRecDepth 100000
open Go Go.RowKit

/-- The blocks from D up to E stand as they stood. -/
structure Keep (D E : Nat) (W W' : World) : Prop where
  size : W.heap.size ≤ W'.heap.size
  same : ∀ k, D ≤ k → k < E → k < W.heap.size → W'.heap[k]? = W.heap[k]?
theorem Keep.refl (D E : Nat) (W : World) : Keep D E W W := ⟨Nat.le_refl _, fun _ _ _ _ => rfl⟩
theorem Keep.trans {D E : Nat} {A B C : World} (h : Keep D E A B) (k : Keep D E B C) : Keep D E A C :=
  ⟨Nat.le_trans h.size k.size, fun i h1 h2 h3 => (k.same i h1 h2 (Nat.lt_of_lt_of_le h3 h.size)).trans (h.same i h1 h2 h3)⟩
theorem Keep.mono {D E D' E' : Nat} {A B : World} (h : Keep D E A B) (hD : D ≤ D') (hE : E' ≤ E) : Keep D' E' A B :=
  ⟨h.size, fun i h1 h2 h3 => h.same i (Nat.le_trans hD h1) (Nat.lt_of_lt_of_le h2 hE) h3⟩
theorem Keep.alloc (D E : Nat) (W : World) (o : Obj) : Keep D E W (W.alloc o) := ⟨by simp, fun k _ _ h => Below.heap_alloc W o k h⟩
theorem Keep.grown {D E : Nat} {W W' : World} {row : Option Nat} (hg : W.grownBy W' row) (hr : ∀ r, row = some r → r < D ∨ E ≤ r) : Keep D E W W' :=
  ⟨hg.size, fun k h1 h2 h3 => hg.block k h3 (fun e => by have := hr k e.symm; omega)⟩
theorem Keep.setCell {D E : Nat} (W : World) (b j : Nat) (v : Value) (hb : b < D ∨ E ≤ b) : Keep D E W (W.setCell ⟨b, j, none⟩ v) :=
  ⟨by simp, fun k h1 h2 _ => Below.heap_setCell W ⟨b, j, none⟩ v k (by show k ≠ b; omega)⟩
theorem Keep.below {D E B : Nat} {W W' : World} (h : Below B W W') (hE : E ≤ B) : Keep D E W W' := ⟨h.size, fun k _ h2 _ => h.block k (Nat.lt_of_lt_of_le h2 hE)⟩
theorem Keep.cell {D E : Nat} {W W' : World} (h : Keep D E W W') {b j : Nat} (h1 : D ≤ b) (h2 : b < E) (h3 : b < W.heap.size) : W'.cell? ⟨b, j, none⟩ = W.cell? ⟨b, j, none⟩ := World.cell?_of_block (h.same b h1 h2 h3)
theorem Keep.frozen {D E : Nat} {W W' : World} (h : Keep D E W W') {b j : Nat} (h1 : D ≤ b) (h2 : b < E) (h3 : b < W.heap.size) : W'.frozen? ⟨b, j, none⟩ = W.frozen? ⟨b, j, none⟩ := World.frozen?_of_block (h.same b h1 h2 h3)
/-- It abides the turn of a block from D up to E, and new ones. -/
def AbK {β : Type} (D E : Nat) (I : β → World → Prop) : Prop := ∀ s W W' row, I s W → W.grownBy W' row → (∀ r, row = some r → D ≤ r ∧ r < E) → I s W'
theorem AbK.mono {β : Type} {D E D' E' : Nat} {I : β → World → Prop} (h : AbK D E I) (hD : D ≤ D') (hE : E' ≤ E) : AbK D' E' I :=
  fun s W W' row hs hg hr => h s W W' row hs hg (fun r e => by have := hr r e; omega)
theorem AbK.putObj {β : Type} {D E : Nat} {I : β → World → Prop} (h : AbK D E I) {s : β} {W : World} (l : Nat) (o : Obj) (hs : I s W) (h1 : D ≤ l) (h2 : l < E) : I s (W.putObj l o) :=
  h s W _ (some l) hs (grownBy_putObj' W l o) (fun r e => by cases e; exact ⟨h1, h2⟩)
theorem AbK.alloc {β : Type} {D E : Nat} {I : β → World → Prop} (h : AbK D E I) {s : β} {W : World} (o : Obj) (hs : I s W) : I s (W.alloc o) :=
  h s W _ none hs (World.grownBy_alloc W o none) (fun r e => by cases e)
/-- An iterator that hands on zs, one behind the other, out of p blocks of its own, as long as yield says so; of the round it asks that those blocks, those from c up to c2, and what lies below n₀, stand. -/
def SeqV {α : Type} (F : Fence) (n : Nat) (P : Program) (g : Nat) (lb : Array Value) (encs : α → Array Value) (n₀ c c2 p : Nat) (zs : List α) (w : World) : Prop :=
  ∀ (l : Nat) (J Jx : List α → World → Prop) (W : World), Below w.heap.size w W → AbK W.heap.size (W.heap.size + p) J → AbK W.heap.size (W.heap.size + p) Jx →
    (∀ pre x W1, J pre W1 → W.heap.size + p ≤ W1.heap.size → (pre ++ [x]) <+: zs → YieldAt F (n - 1) P l (encs x) W1 fun e W' =>
      ∃ q : Bool, e = .returned (.bool q) ∧ (q = true → J (pre ++ [x]) W' ∧ Keep c c2 W1 W' ∧ Keep W.heap.size (W.heap.size + p) W1 W' ∧ Below n₀ W1 W') ∧ (q = false → Jx (pre ++ [x]) W')) →
    J [] W →
    CallsIn F n P g (#[.func (.yield l) #[] #[]] ++ lb) W fun e W' => (∃ v, e = .returned v) ∧ (J zs W' ∨ ∃ pre, pre <+: zs ∧ Jx pre W')
/-- How the body of a round may be left. -/
def postV {α : Type} (c E n₀ : Nat) (I : List α → World → Prop) (Ix : Code → List α → World → Prop) (xs : List α) (W : World) : Exit → Act → World → Prop
  | .normal, _, W' => Keep c E W W' ∧ Below n₀ W W' ∧ I xs W'
  | .ret, _, W' => Keep c E W W' ∧ Ix .ret xs W'
  | .exit id, _, W' => Keep c E W W' ∧ Ix (.exit id) xs W'
  | .goto t, _, W' => Keep c E W W' ∧ Ix (.goto t) xs W'
  | .panic _, _, _ => False
  | .outgrown, _, _ => False
variable {F : Fence} {n : Nat} {P : Program}
/-- The statement. D: where the law's own blocks begin; E: where the iterator's end. -/
theorem wpIn_rangeFuncV {α : Type} {g : Operand} {ps : Array Tmp} {assign body : Code} {Q : Exit → Act → World → Prop} {a : Act} {w : World}
    (hro : F.round = none) (h1 : 1 ≤ n) {gf : Nat} {lb : Array Value} (hg : a.eval g = .func (.func gf) #[] lb) (hFg : F.fn gf) (eg : ∀ args w, (callFunc gf args).run P w = .ok (.enter gf args) w)
    {encs : α → Array Value} {n₀ c c2 p : Nat} {zs : List α} {w0 : World} (hseq : SeqV F (n - 1) P gf lb encs n₀ c c2 p zs w0) (hb0 : Below w0.heap.size w0 w) (hps : ∀ x, (encs x).size = ps.size)
    (D E : Nat) (hD : w.heap.size = D) (hE : E = D + 2 + p) (hn₀ : n₀ ≤ D) (hc : c ≤ D) (hc2 : c2 ≤ D)
    (I : List α → World → Prop) (Ix : Code → List α → World → Prop) (hI : AbK D E I) (hIx : ∀ ex, AbK D E (Ix ex)) (h0 : I [] w)
    (hround : ∀ (l : Nat) (pre : List α) (x : α) (W : World), I pre W → E ≤ W.heap.size → (pre ++ [x]) <+: zs →
      assign.wpIn (F.inRound l) (n - 1 - 1) P (Exit.then (fun a₁ W1 => Keep c E W W1 ∧ Below n₀ W W1 ∧ ∀ W2, W1.grownBy W2 (some (D + 1)) → body.wpIn (F.inRound l) (n - 1 - 1) P (postV c E n₀ I Ix (pre ++ [x]) W2) a₁ W2) (fun _ _ _ => False))
        { tmps := (ps.zip (encs x)).foldl (fun t (p, v) => t.setIfInBounds p v) a.tmps, defers := [] } W)
    (hdone : ∀ (W : World), I zs W → W.heap[D]? = some (.deferred (some [])) → Q .normal { a with defers := { target := .collected D, args := #[] } :: a.defers } W)
    (hstop : ∀ (ex : Code) (pre : List α) (W : World), pre <+: zs → Ix ex pre W → W.heap[D]? = some (.deferred (some [])) → ex.wpIn F n P Q { a with defers := { target := .collected D, args := #[] } :: a.defers } W) :
    (Code.rangeFunc g ps assign body).wpIn F n P Q a w := by
  subst hD
  refine wpIn_rangeFunc ?_
  intro fn hfn
  rw [hro]
  obtain ⟨rec, hrec⟩ : ∃ rec : LoopState → Option Code → Loop, rec = fun st pe => { state := st, pending := pe, fn, tmps := a.tmps, params := ps, assign, body, defers := w.heap.size } := ⟨_, rfl⟩
  obtain ⟨W1, hW1⟩ : ∃ W1, (w.alloc (.deferred (some []))).alloc (.loop (rec .ready none)) = W1 := ⟨_, rfl⟩
  have hL1 : W1.heap[w.heap.size + 1]? = some (.loop (rec .ready none)) := by
    rw [← hW1]; have := World.alloc_heap_new (w.alloc (.deferred (some []))) (.loop (rec .ready none)); rwa [World.size_alloc] at this
  have hK1 : W1.heap[w.heap.size]? = some (.deferred (some [])) := by
    rw [← hW1]; exact (Below.heap_alloc _ _ _ (by simp)).trans (World.alloc_heap_new w _)
  have hI1 : I [] W1 := by rw [← hW1]; exact hI.alloc _ (hI.alloc _ h0)
  have hb1 : Below w0.heap.size w0 W1 := by
    rw [← hW1]; exact hb0.trans ((((Below.refl _ w).alloc (Nat.le_refl _) _).alloc (by simp) _).mono hb0.size)
  have hs1 : W1.heap.size = w.heap.size + 2 := by rw [← hW1]; simp
  have hEE : W1.heap.size + p = E := by omega
  refine ⟨w.heap.size + 1, [{ target := .collected w.heap.size, args := #[] }], W1, { target := .fn (.func gf) lb, args := #[.func (.yield (w.heap.size + 1)) #[] #[]] }, W1, gf,
    #[.func (.yield (w.heap.size + 1)) #[] #[]] ++ lb, W1, ?_, ?_, ?_, ?_, fun _ => h1, ?_⟩
  · rw [← hW1, hrec]; exact run_enterLoop_outer _ _ _ _ _
  · simp only [resolve, hg]
    simp [go_sem]
  · intro f' hf'; simp [Target.leads] at hf'; subst hf'; exact hFg
  · simp [invoke, go_sem, eg]
  · have keep2 : ∀ {A B : World} {row : Option Nat} {k : Nat} {o : Obj}, k < w.heap.size + 2 → A.grownBy B row → (∀ r, row = some r → W1.heap.size ≤ r ∧ r < W1.heap.size + p) → A.heap[k]? = some o → B.heap[k]? = some o := fun hk hg' hr h =>
      (hg'.block _ (Array.getElem?_eq_some_iff.1 h).1 (fun e => by have := hr _ e.symm; omega)).trans h
    refine (hseq (w.heap.size + 1)
      (fun pre W => I pre W ∧ W.heap[w.heap.size + 1]? = some (.loop (rec .ready none)) ∧ W.heap[w.heap.size]? = some (.deferred (some [])))
      (fun pre W => ∃ c, Ix c pre W ∧ W.heap[w.heap.size + 1]? = some (.loop (rec .done (some c))) ∧ W.heap[w.heap.size]? = some (.deferred (some [])))
      W1 hb1
      (fun s A B row hs hg' hr => ⟨hI s A B row hs.1 hg' (fun r e => by have := hr r e; omega), keep2 (by omega) hg' hr hs.2.1, keep2 (by omega) hg' hr hs.2.2⟩)
      (fun s A B row hs hg' hr => by
        obtain ⟨c, hc, hl, hk⟩ := hs
        exact ⟨c, hIx c s A B row hc hg' (fun r e => by have := hr r e; omega), keep2 (by omega) hg' hr hl, keep2 (by omega) hg' hr hk⟩)
      ?_ ⟨hI1, hL1, hK1⟩).mono ?_
    · rintro pre x W ⟨hi, hl, hk⟩ hsz hpre
      rw [hEE] at hsz
      have hlt : w.heap.size + 1 < W.heap.size := (Array.getElem?_eq_some_iff.1 hl).1
      have hy := run_yield (P := P) (args := encs x) hl (by rw [hrec]; exact hps x)
      rw [hrec] at hy
      refine ⟨fn, _, assign, body, hy, roundIn_of_wpIn hfn (wpIn_mono (hround _ pre x W hi hsz hpre) ?_)⟩
      rintro e a₁ W2 hp
      cases e with
      | normal =>
        obtain ⟨hk2, hb2, hbody⟩ := hp
        have hl2 : W2.heap[w.heap.size + 1]? = some (.loop (rec .ready none)) := (hk2.same _ (by omega) (by omega) hlt).trans hl
        have hd2 : W2.heap[w.heap.size]? = some (.deferred (some [])) := (hk2.same _ (by omega) (by omega) (by omega)).trans hk
        have hlt2 : w.heap.size + 1 < W2.heap.size := (Array.getElem?_eq_some_iff.1 hl2).1
        refine ⟨_, run_beginRound hl2 (by rw [hrec]), ?_⟩
        obtain ⟨B2, hB2⟩ : ∃ B2, B2 = W2.putObj (w.heap.size + 1) (.loop { rec .ready none with state := .busy }) := ⟨_, rfl⟩
        have hgB : W2.grownBy B2 (some (w.heap.size + 1)) := by rw [hB2]; exact grownBy_putObj' _ _ _
        have hlB : B2.heap[w.heap.size + 1]? = some (.loop { rec .ready none with state := .busy }) := by rw [hB2]; exact World.putObj_heap_same hlt2
        have hdB : B2.heap[w.heap.size]? = some (.deferred (some [])) := by rw [hB2]; exact (World.putObj_heap_other (by omega)).trans hd2
        rw [← hB2]
        refine wpIn_mono (hbody B2 hgB) ?_
        have fin : ∀ (jump : Option Code) (W3 : World), Keep c E B2 W3 →
            (Instr.endRound (w.heap.size + 1) jump).run P W3 = .ok (.bool jump.isNone) (W3.putObj (w.heap.size + 1) (.loop (rec (if jump.isNone then .ready else .done) jump))) ∧
            (W3.putObj (w.heap.size + 1) (.loop (rec (if jump.isNone then .ready else .done) jump))).heap[w.heap.size + 1]? = some (.loop (rec (if jump.isNone then .ready else .done) jump)) ∧
            (W3.putObj (w.heap.size + 1) (.loop (rec (if jump.isNone then .ready else .done) jump))).heap[w.heap.size]? = some (.deferred (some [])) := fun jump W3 hk3 => by
          have hl3 := (hk3.same (w.heap.size + 1) (by omega) (by omega) (Array.getElem?_eq_some_iff.1 hlB).1).trans hlB
          have hd3 := (hk3.same w.heap.size (by omega) (by omega) (Array.getElem?_eq_some_iff.1 hdB).1).trans hdB
          have := run_endRound (P := P) jump hl3
          rw [hrec] at this ⊢
          exact ⟨this, World.putObj_heap_same (Array.getElem?_eq_some_iff.1 hl3).1, (World.putObj_heap_other (by omega)).trans hd3⟩
        rintro e a3 W3 hp
        cases e with
        | normal =>
          obtain ⟨hk3, hb3, hi3⟩ := hp
          obtain ⟨hr, hl4, hk4⟩ := fin none W3 hk3
          refine ⟨_, _, hr, true, rfl, fun _ => ⟨⟨hI.putObj _ _ hi3 (by omega) (by omega), hl4, hk4⟩, ?_, ?_, ?_⟩, fun h => by cases h⟩
          · exact (((hk2.mono (Nat.le_refl _) (by omega)).trans (Keep.grown hgB (fun r e => by cases e; omega))).trans (hk3.mono (Nat.le_refl _) (by omega))).trans (Keep.grown (grownBy_putObj' _ _ _) (fun r e => by cases e; omega))
          · rw [hEE, hs1]
            exact (((hk2.mono (by omega) (Nat.le_refl _)).trans (Keep.grown hgB (fun r e => by cases e; omega))).trans (hk3.mono (by omega) (Nat.le_refl _))).trans (Keep.grown (grownBy_putObj' _ _ _) (fun r e => by cases e; omega))
          · exact ((hb2.grown hgB (by have := hk2.size; omega) (fun k e => by cases e; omega)).trans hb3).grown (grownBy_putObj' _ _ _) (by have := hk3.size; have := hgB.size; omega) (fun k e => by cases e; omega)
        | ret =>
          obtain ⟨hk3, hi3⟩ := hp
          obtain ⟨hr, hl4, hk4⟩ := fin (some .ret) W3 hk3
          exact ⟨_, _, hr, false, rfl, (fun h => by cases h), fun _ => ⟨.ret, (hIx _).putObj _ _ hi3 (by omega) (by omega), hl4, hk4⟩⟩
        | exit id =>
          obtain ⟨hk3, hi3⟩ := hp
          obtain ⟨hr, hl4, hk4⟩ := fin (some (.exit id)) W3 hk3
          exact ⟨_, _, hr, false, rfl, (fun h => by cases h), fun _ => ⟨.exit id, (hIx _).putObj _ _ hi3 (by omega) (by omega), hl4, hk4⟩⟩
        | goto t =>
          obtain ⟨hk3, hi3⟩ := hp
          obtain ⟨hr, hl4, hk4⟩ := fin (some (.goto t)) W3 hk3
          exact ⟨_, _, hr, false, rfl, (fun h => by cases h), fun _ => ⟨.goto t, (hIx _).putObj _ _ hi3 (by omega) (by omega), hl4, hk4⟩⟩
        | panic ch => exact hp.elim
        | outgrown => exact hp.elim
      | ret => exact hp.elim
      | exit id => exact hp.elim
      | goto t => exact hp.elim
      | panic ch => exact hp.elim
      | outgrown => exact hp.elim
    · rintro e W2 ⟨⟨v, rfl⟩, (⟨hi, hl, hk⟩ | ⟨pre, hSp, c, hi, hl, hk⟩)⟩
      · exact ⟨none, _, by have := run_endLoop (P := P) hl (by rw [hrec]; simp); rw [hrec] at this; exact this, hdone _ (hI.putObj _ _ hi (by omega) (by omega)) ((World.putObj_heap_other (by omega)).trans hk)⟩
      · exact ⟨some c, _, by have := run_endLoop (P := P) hl (by rw [hrec]; simp); rw [hrec] at this; exact this, hstop c pre _ hSp ((hIx c).putObj _ _ hi (by omega) (by omega)) ((World.putObj_heap_other (by omega)).trans hk)⟩
end Go.Proofs.YthnajpckhoomgaaGreat
namespace Go.Proofs.YthnajpckhoomgaaGreat
set_option maxRecDepth 100000
open Go.RowKit

/-- A builtin append, by its run. -/
theorem app_go {ops : Array Oper} {rest : List Oper} {o : Oper} {a : Act} {Q : Exit → Act → World → Prop} {w : World} (hg : o.guard = none) (s x : Operand) (t : TypeId)
    (hop : o.op = Op.call { callee := Callee.builtin Builtin.append, args := #[s, x], argTypes := #[t, t] }) (v u r : Value) (w' : World) (hs : a.eval s = v) (hx : a.eval x = u)
    (hr : (Builtin.append_ #[t, t] o.type #[v, u]).run Tryz.prog w = .ok r w') (h : wpList Tryz.prog ops Q rest (a.put o.dst r) w') : wpList Tryz.prog ops Q (o :: rest) a w := by
  refine wpList_plain hg fun K hK => ?_
  unfold Oper.wp
  rw [gexec_append hop hs hx hr]
  exact hK _ _ h
end Go.Proofs.YthnajpckhoomgaaGreat
namespace Go.Proofs.YthnajpckhoomgaaGreat
set_option maxRecDepth 100000
open Go.RowKit

/-- A value that is a slice of numbers whose elements read as xs. -/
def Zs (w : World) (v : Value) (xs : List Int) : Prop :=
  xs.length ≤ 9223372036854775807 ∧
  ((∃ a cap, v = .slice a 0 cap ∧ (a = none → cap = 0) ∧ xs = []) ∨
   ∃ b off cap, v = .slice (some ⟨b, off, none⟩) xs.length cap ∧ xs.length ≤ cap ∧ ∀ i, i < xs.length → w.cell? ⟨b, off + i, none⟩ = some (.int .i64 (xs.getD i 0)))
theorem Zs_below {w w' : World} {v : Value} {xs : List Int} (h : Zs w v xs) (hb : Below w.heap.size w w') : Zs w' v xs := by
  obtain ⟨hl, h | ⟨b, off, cap, hv, hcap, hc⟩⟩ := h
  · exact ⟨hl, .inl h⟩
  · refine ⟨hl, .inr ⟨b, off, cap, hv, hcap, fun i hi => ?_⟩⟩
    have := hc i hi
    rw [hb.cell (World.block_lt_of_cell? w _ this)]; exact this
theorem is_lit (w : World) (xs : List Int) (T : TypeId) (g n : Nat) (hg : g = w.heap.size) (hn : n = xs.length) (hl : xs.length ≤ 1000) (o : Obj) (ho : o = .cells (xs.map (Value.int .i64)).toArray T) : Zs (w.alloc o) (.slice (some ⟨g, 0, none⟩) n n) xs := by
  subst hg; subst hn; subst ho
  refine ⟨by omega, .inr ⟨w.heap.size, 0, xs.length, rfl, Nat.le_refl _, fun i hi => ?_⟩⟩
  simp [List.getD, hi]
theorem z_ret_int {k : IntKind} {a b : Int} (h : a = b) : Ending.returned (.int k a) = .returned (.int k b) := by rw [h]
theorem ret_bool {a b : Bool} (h : a = b) : Ending.returned (.bool a) = .returned (.bool b) := by rw [h]
/-- n and all of the first k. -/
def sumTo (n : Int) (xs : List Int) (k : Nat) : Int := (n + (xs.take k).sum) % 65536
theorem sumTo_bd (n : Int) (xs : List Int) (k : Nat) : 0 ≤ sumTo n xs k ∧ sumTo n xs k < 65536 := by unfold sumTo; omega
theorem sumTo_succ (n : Int) (xs : List Int) (k : Nat) (h : k < xs.length) : sumTo n xs (k + 1) = (sumTo n xs k + (xs.getD k 0) % 65536) % 65536 := by
  unfold sumTo
  rw [List.take_succ_eq_append_getElem h, List.sum_append]
  have : xs.getD k 0 = xs[k] := by simp [List.getD, h]
  rw [this]
  simp
  omega
theorem wrap16 (x : Int) : IntKind.u16.wrap x = x % 65536 := by rw [IntKind.wrap_u16]
set_option maxHeartbeats 400000 in
theorem and_any (n : Int) (v : Value) (xs : List Int) (w : World) (h0 : 0 ≤ n) (h1 : n < 65536) (hv : Zs w v xs) :
    Calls Tryz.prog 148 #[.int .u16 n, v] w fun e w' => e = .returned (.int .i64 ((n + xs.sum) % 65536)) ∧ w = w' := by
  obtain ⟨hl, ⟨a, cap, rfl, -, rfl⟩ | ⟨b, off, cap, rfl, hcap, hc⟩⟩ := hv
  · go_enter Tryz.func148, Tryz.ntmps148
    go_wp2
    go_loop [0, 9] (fun p i => p = .int .u16 n ∧ i = .int .i64 0) (fun _ _ => 0)
    case atStart => exact ⟨rfl, rfl⟩
    case round =>
      obtain ⟨rfl, rfl⟩ := hrel
      go_wp2
      go_ret
      exact ⟨z_ret_int (by omega), rfl⟩
  · have e0 : sumTo n xs 0 = n := by simp [sumTo]; omega
    have eN : sumTo n xs xs.length = (n + xs.sum) % 65536 := by simp [sumTo]
    rw [← eN]
    clear eN
    have E0 := Lib.hid e0
    clear e0
    go_enter Tryz.func148, Tryz.ntmps148
    go_wp2
    go_loop [0, 9] (fun p i => ∃ k : Nat, k ≤ xs.length ∧ i = .int .i64 k ∧ p = .int .u16 (sumTo n xs k)) (fun _ i => xs.length - (intOf i).toNat)
    case atStart => exact ⟨0, Nat.zero_le _, rfl, by rw [E0.out]⟩
    case round =>
      obtain ⟨k, hk, rfl, rfl⟩ := hrel
      obtain ⟨b1, b2⟩ := sumTo_bd n xs k
      by_cases hlt : k < xs.length
      · have hck := hc k hlt
        have hs := Lib.hid (sumTo_succ n xs k hlt)
        generalize xs.getD k 0 = c at *
        clear hc
        go_wp2
        go_round
        case rel => exact ⟨k + 1, by omega, by go_num, by rw [hs.out]; simp only [wrap16]⟩
        case measure => simp [intOf]; omega
      · obtain rfl : k = xs.length := by omega
        clear hc
        go_wp2
        go_ret
        exact ⟨rfl, rfl⟩
end Go.Proofs.YthnajpckhoomgaaGreat
namespace Go.Proofs.YthnajpckhoomgaaGreat
open Go.Shelf
def lay189_ren : Go.Shelf.Ren := ⟨fun | 189 => 235 | 125 => 249 | 257 => 248 | 128 => 269 | 129 => 270 | 294 => 260 | 295 => 261 | 296 => 262 | 297 => 263 | 298 => 264 | 299 => 265 | 216 => 266 | 300 => 267 | 301 => 268 | 328 => 278 | 329 => 279 | 330 => 280 | 331 => 281 | 332 => 282 | 215 => 283 | 343 => 284 | n => n, fun | 28 => 94 | 3 => 3 | 46 => 276 | 0 => 0 | 51 => 87 | 53 => 247 | 4 => 4 | 183 => 337 | 182 => 336 | 131 => 341 | 5 => 5 | 9 => 9 | 218 => 347 | 222 => 350 | 228 => 352 | 229 => 353 | n => n, fun | n => n⟩
theorem lay189 : Go.Proofs.Lays.n189 Tryz.prog lay189_ren := {
  mixed := by kernel_rfl
  f125 := Tryz.func249.trans (congrArg some (by kernel_rfl))
  f128 := Tryz.func269.trans (congrArg some (by kernel_rfl))
  f129 := Tryz.func270.trans (congrArg some (by kernel_rfl))
  f189 := Tryz.func235.trans (congrArg some (by kernel_rfl))
  f215 := Tryz.func283.trans (congrArg some (by kernel_rfl))
  f216 := Tryz.func266.trans (congrArg some (by kernel_rfl))
  f257 := Tryz.func248.trans (congrArg some (by kernel_rfl))
  f294 := Tryz.func260.trans (congrArg some (by kernel_rfl))
  f295 := Tryz.func261.trans (congrArg some (by kernel_rfl))
  f296 := Tryz.func262.trans (congrArg some (by kernel_rfl))
  f297 := Tryz.func263.trans (congrArg some (by kernel_rfl))
  f298 := Tryz.func264.trans (congrArg some (by kernel_rfl))
  f299 := Tryz.func265.trans (congrArg some (by kernel_rfl))
  f300 := Tryz.func267.trans (congrArg some (by kernel_rfl))
  f301 := Tryz.func268.trans (congrArg some (by kernel_rfl))
  f328 := Tryz.func278.trans (congrArg some (by kernel_rfl))
  f329 := Tryz.func279.trans (congrArg some (by kernel_rfl))
  f330 := Tryz.func280.trans (congrArg some (by kernel_rfl))
  f331 := Tryz.func281.trans (congrArg some (by kernel_rfl))
  f332 := Tryz.func282.trans (congrArg some (by kernel_rfl))
  f343 := Tryz.func284.trans (congrArg some (by kernel_rfl))
  t0 := Tryz.underlying0
  a0 := Tryz.isAgg0
  z0 := Tryz.sizeOf0
  v0 := Tryz.zeroValue0
  t3 := Tryz.underlying3
  a3 := Tryz.isAgg3
  z3 := Tryz.sizeOf3
  v3 := Tryz.zeroValue3
  t4 := Tryz.underlying4
  a4 := Tryz.isAgg4
  z4 := Tryz.sizeOf4
  v4 := Tryz.zeroValue4
  t5 := Tryz.underlying5
  a5 := Tryz.isAgg5
  z5 := Tryz.sizeOf5
  v5 := Tryz.zeroValue5
  t9 := Tryz.underlying9
  a9 := Tryz.isAgg9
  z9 := Tryz.sizeOf9
  v9 := Tryz.zeroValue9
  t28 := Tryz.underlying94
  a28 := Tryz.isAgg94
  z28 := Tryz.sizeOf94
  v28 := Tryz.zeroValue94
  t46 := Tryz.underlying276
  a46 := Tryz.isAgg276
  z46 := Tryz.sizeOf276
  v46 := Tryz.zeroValue276
  t51 := Tryz.underlying87
  a51 := Tryz.isAgg87
  z51 := Tryz.sizeOf87
  v51 := Tryz.zeroValue87
  t53 := Tryz.underlying247
  a53 := Tryz.isAgg247
  z53 := Tryz.sizeOf247
  v53 := Tryz.zeroValue247
  t131 := Tryz.underlying341
  a131 := Tryz.isAgg341
  z131 := Tryz.sizeOf341
  v131 := Tryz.zeroValue341
  t182 := Tryz.underlying336
  a182 := Tryz.isAgg336
  z182 := Tryz.sizeOf336
  v182 := Tryz.zeroValue336
  t183 := Tryz.underlying337
  a183 := Tryz.isAgg337
  z183 := Tryz.sizeOf337
  v183 := Tryz.zeroValue337
  t218 := Tryz.underlying347
  a218 := Tryz.isAgg347
  z218 := Tryz.sizeOf347
  v218 := Tryz.zeroValue347
  t222 := Tryz.underlying350
  a222 := Tryz.isAgg350
  z222 := Tryz.sizeOf350
  v222 := Tryz.zeroValue350
  t228 := Tryz.underlying352
  a228 := Tryz.isAgg352
  z228 := Tryz.sizeOf352
  v228 := Tryz.zeroValue352
  t229 := Tryz.underlying353
  a229 := Tryz.isAgg353
  z229 := Tryz.sizeOf353
  v229 := Tryz.zeroValue353 }
open Go.Sort Go.RowKit in
theorem lib_Sort_int (blk off cap : Nat) (zs : List Int) (w : World) (hH : Holds (Value.int .i64) w blk off zs.toArray) (hblk : blk < w.heap.size) (hsz : zs.length < 4611686018427387904) :
    Calls Tryz.prog 235 #[.slice (some ⟨blk, off, none⟩) zs.length cap] w fun e w' =>
      e = .returned (.tuple #[]) ∧ ∃ n os, w' = grow (putRow (Value.int .i64) (Sort.ahead w n) blk off (zs.mergeSort fun x y => decide (x ≤ y)).toArray) os := Any.slices_Sort_int lay189 blk off cap zs w hH hblk hsz
def layNm220_ren : Go.Shelf.Ren := ⟨fun | 20 => 236 | n => n, fun | 22 => 94 | 3 => 3 | 4 => 4 | 0 => 0 | n => n, fun | n => n⟩
theorem layNm220 : Go.Proofs.Lays2.n20 Tryz.prog layNm220_ren := {
  mixed := by kernel_rfl
  f20 := Tryz.func236.trans (congrArg some (by kernel_rfl))
  t0 := Tryz.underlying0
  a0 := Tryz.isAgg0
  z0 := Tryz.sizeOf0
  v0 := Tryz.zeroValue0
  t3 := Tryz.underlying3
  a3 := Tryz.isAgg3
  z3 := Tryz.sizeOf3
  v3 := Tryz.zeroValue3
  t4 := Tryz.underlying4
  a4 := Tryz.isAgg4
  z4 := Tryz.sizeOf4
  v4 := Tryz.zeroValue4
  t22 := Tryz.underlying94
  a22 := Tryz.isAgg94
  z22 := Tryz.sizeOf94
  v22 := Tryz.zeroValue94
  i3 := by kernel_rfl }
open Go.RowKit Go.Lib Go.Sort in
open Go.RowKit Go.Lib Go.Sort in
theorem lib_Compact_int (blk off cap : Nat) (zs : List Int) (w : World) (hH : Holds (Value.int .i64) w blk off zs.toArray) (hsz : zs.length ≤ 9223372036854775807) (hcap : zs.length ≤ cap) :
    Calls Tryz.prog 236 #[.slice (some ⟨blk, off, none⟩) zs.length cap] w fun e w' => e = .returned (.slice (some ⟨blk, off, none⟩) (Lib.compact zs).length cap) ∧ ∃ q, w' = putRow (Value.int .i64) (Sort.ahead w q) blk off (Lib.compact zs ++ List.replicate (zs.length - (Lib.compact zs).length) 0).toArray := Any.slices_Compact_int layNm220 blk off cap zs w hH hsz hcap
open Go.RowKit Go.Lib Go.Sort in
open Go.RowKit Go.Sort in
def layKeys_ren : Go.Shelf.Ren := ⟨fun | 7 => 213 | 10 => 238 | n => n, fun | 23 => 131 | 26 => 3 | 3 => 51 | 28 => 292 | 0 => 0 | 27 => 291 | 33 => 134 | 4 => 4 | n => n, fun | n => n⟩
theorem layKeys : Go.Proofs.SlLaysZI.n7 Tryz.prog layKeys_ren := {
  mixed := by kernel_rfl
  f7 := ⟨Tryz.f213.name, by decide, Tryz.func213.trans (congrArg some (by kernel_rfl))⟩
  f10 := ⟨Tryz.f238.name, by decide, Tryz.func238.trans (congrArg some (by kernel_rfl))⟩
  t0 := Tryz.underlying0
  a0 := Tryz.isAgg0
  z0 := Tryz.sizeOf0
  v0 := Tryz.zeroValue0
  t4 := Tryz.underlying4
  a4 := Tryz.isAgg4
  z4 := Tryz.sizeOf4
  v4 := Tryz.zeroValue4
  t23 := Tryz.underlying131
  a23 := Tryz.isAgg131
  z23 := Tryz.sizeOf131
  v23 := Tryz.zeroValue131
  t26 := Tryz.underlying3
  a26 := Tryz.isAgg3
  z26 := Tryz.sizeOf3
  v26 := Tryz.zeroValue3
  t27 := Tryz.underlying291
  a27 := Tryz.isAgg291
  z27 := Tryz.sizeOf291
  v27 := Tryz.zeroValue291
  t28 := Tryz.underlying292
  a28 := Tryz.isAgg292
  z28 := Tryz.sizeOf292
  v28 := Tryz.zeroValue292
  t33 := Tryz.underlying134
  a33 := Tryz.isAgg134
  z33 := Tryz.sizeOf134
  v33 := Tryz.zeroValue134 }
def layCol_ren : Go.Shelf.Ren := ⟨fun | 8 => 212 | 11 => 237 | n => n, fun | 26 => 3 | 28 => 292 | 24 => 94 | 0 => 0 | 33 => 134 | 4 => 4 | n => n, fun | n => n⟩
theorem layCol : Go.Proofs.SlLaysZI.n8 Tryz.prog layCol_ren := {
  mixed := by kernel_rfl
  f8 := ⟨Tryz.f212.name, by decide, Tryz.func212.trans (congrArg some (by kernel_rfl))⟩
  f11 := ⟨Tryz.f237.name, by decide, Tryz.func237.trans (congrArg some (by kernel_rfl))⟩
  t0 := Tryz.underlying0
  a0 := Tryz.isAgg0
  z0 := Tryz.sizeOf0
  v0 := Tryz.zeroValue0
  t24 := Tryz.underlying94
  a24 := Tryz.isAgg94
  z24 := Tryz.sizeOf94
  v24 := Tryz.zeroValue94
  t26 := Tryz.underlying3
  a26 := Tryz.isAgg3
  z26 := Tryz.sizeOf3
  v26 := Tryz.zeroValue3
  t28 := Tryz.underlying292
  a28 := Tryz.isAgg292
  z28 := Tryz.sizeOf292
  v28 := Tryz.zeroValue292
  i26 := by kernel_rfl }
end Go.Proofs.YthnajpckhoomgaaGreat
namespace Go.Proofs.YthnajpckhoomgaaGreat
set_option maxRecDepth 100000
set_option linter.unusedVariables false
open Go.RowKit
def Imp9 (b : Bool) (P : Prop) : Prop := b = true → P
theorem idx5_0 (b1 b2 b3 b4 : Bool) (w : World) : (Instr.index 271 (.agg #[.bool false, .bool b1, .bool b2, .bool b3, .bool b4]) (.int .i64 0)).run Tryz.prog w = .ok (.bool false) w := by kernel_rfl
theorem idx5_1 (b1 b2 b3 b4 : Bool) (w : World) : (Instr.index 271 (.agg #[.bool false, .bool b1, .bool b2, .bool b3, .bool b4]) (.int .i64 1)).run Tryz.prog w = .ok (.bool b1) w := by kernel_rfl
theorem idx5_2 (b1 b2 b3 b4 : Bool) (w : World) : (Instr.index 271 (.agg #[.bool false, .bool b1, .bool b2, .bool b3, .bool b4]) (.int .i64 2)).run Tryz.prog w = .ok (.bool b2) w := by kernel_rfl
theorem idx5_3 (b1 b2 b3 b4 : Bool) (w : World) : (Instr.index 271 (.agg #[.bool false, .bool b1, .bool b2, .bool b3, .bool b4]) (.int .i64 3)).run Tryz.prog w = .ok (.bool b3) w := by kernel_rfl
theorem idx5_4 (b1 b2 b3 b4 : Bool) (w : World) : (Instr.index 271 (.agg #[.bool false, .bool b1, .bool b2, .bool b3, .bool b4]) (.int .i64 4)).run Tryz.prog w = .ok (.bool b4) w := by kernel_rfl
end Go.Proofs.YthnajpckhoomgaaGreat
