/- The contracts of what makes bytes. No conditions. -/
import Derived.Test.YtfiaghfaijlfjaaGreatRead
import Derived.WalkSpells
namespace Go.Proofs.YtfiaghfaijlfjaaGreat
set_option maxRecDepth 100000
open Go.RowKit

theorem Tryz.info5 : (Tryz.prog.info? 5).map (fun i => (i.zero, i.size, i.bytes)) = some (some (.int .u8 0), 1, 1) := by kernel_rfl
theorem store_any (b : Nat) (x v : Int) (w : World) (hc : w.cell? ⟨b, 0, none⟩ = some (.int .u64 x)) (hf : w.frozen? ⟨b, 0, none⟩ = false) :
    Calls Tryz.prog 144 #[.pointer (some ⟨b, 0, none⟩), .int .u64 v] w fun e w' => e = .returned (.tuple #[]) ∧ w' = w.setCell ⟨b, 0, none⟩ (.int .u64 v) := by
  have hs := run_call_store (P := Tryz.prog) Tryz.func146 (by kernel_rfl) (by kernel_rfl) (by kernel_rfl) (by kernel_rfl) (k := .u64) (y := v) hc hf
  go_enter Tryz.func144, Tryz.ntmps144
  go_wp2
  go_end0
  exact ⟨rfl, rfl⟩
theorem load_any (b : Nat) (x : Int) (w : World) (hc : w.cell? ⟨b, 0, none⟩ = some (.int .u64 x)) :
    Calls Tryz.prog 145 #[.pointer (some ⟨b, 0, none⟩)] w fun e w' => e = .returned (.int .u64 x) ∧ w = w' := by
  have hl := run_call_load (P := Tryz.prog) Tryz.func147 (by kernel_rfl) (by kernel_rfl) (by kernel_rfl) .u64 (by kernel_rfl) hc
  go_enter Tryz.func145, Tryz.ntmps145
  go_wp2
  go_ret
  exact ⟨rfl, rfl⟩
/-- The n lowest bytes of a number, the highest first. -/
def lo (v : Int) (n : Nat) : List Int := (List.range n).map fun i => v / 256 ^ (n - 1 - i) % 256
theorem two_pow8 (v : Int) (m : Nat) : v / 256 ^ m % 256 = v / 2 ^ (8 * m) % 256 := by
  rw [Int.pow_mul]; rfl
/-- n bytes by their places. -/
def row (F : Nat → Int) (n : Nat) : List Value := (List.range n).map fun i => Value.int .u8 (F i)
theorem row_len (F : Nat → Int) (n : Nat) : (row F n).length = n := by simp [row]
theorem row_get (F : Nat → Int) (n k : Nat) (h : k < n) : (row F n)[k]? = some (.int .u8 (F k)) := by simp [row, h]
theorem row_set (F G : Nat → Int) (n k : Nat) (x : Int) (hk : G k = x) (ho : ∀ i, i < n → i ≠ k → G i = F i) : (row F n).set k (.int .u8 x) = row G n := by
  apply List.ext_getElem?
  intro i
  rw [List.getElem?_set]
  by_cases hi : i < n
  · rw [row_get _ _ _ hi, row_get _ _ _ hi, row_len]
    by_cases e : k = i
    · subst e; rw [if_pos rfl, if_pos hi, hk]
    · rw [if_neg e, ho i hi (fun h => e h.symm)]
  · rw [List.getElem?_eq_none (by rw [row_len]; omega), List.getElem?_eq_none (by rw [row_len]; omega), row_len]
    by_cases e : k = i
    · subst e; rw [if_pos rfl, if_neg hi]
    · rw [if_neg e]
theorem row_congr {F G : Nat → Int} {n : Nat} (h : ∀ i, i < n → F i = G i) : row F n = row G n :=
  List.map_congr_left fun i hi => by rw [h i (List.mem_range.1 hi)]
/-- The first k places filled; the places from k on filled. -/
def upTo (L : Nat → Int) (k i : Nat) : Int := if i < k then L i else 0
def downTo (L : Nat → Int) (k i : Nat) : Int := if k ≤ i then L i else 0
theorem row_up (L : Nat → Int) (n k : Nat) : (row (upTo L k) n).set k (.int .u8 (L k)) = row (upTo L (k + 1)) n := by
  refine row_set _ _ _ _ _ ?_ ?_
  · simp [upTo]
  · intro i _ hne
    by_cases h : i < k
    · simp only [upTo]; rw [if_pos h, if_pos (by omega)]
    · simp only [upTo]; rw [if_neg h, if_neg (by omega)]
theorem row_down (L : Nat → Int) (n k : Nat) : (row (downTo L (k + 1)) n).set k (.int .u8 (L k)) = row (downTo L k) n := by
  refine row_set _ _ _ _ _ ?_ ?_
  · simp [downTo]
  · intro i _ hne
    by_cases h : k ≤ i
    · simp only [downTo]; rw [if_pos h, if_pos (by omega)]
    · simp only [downTo]; rw [if_neg h, if_neg (by omega)]
theorem row_upTo (L : Nat → Int) (n : Nat) : row (upTo L n) n = row L n := row_congr fun i h => by simp only [upTo]; rw [if_pos h]
theorem row_upTo0 (L : Nat → Int) (n : Nat) : row (upTo L 0) n = row (fun _ => 0) n := row_congr fun i h => by simp [upTo]
theorem row_downTo (L : Nat → Int) (n : Nat) : row (downTo L 0) n = row L n := row_congr fun i h => by simp [downTo]
theorem row_downToN (L : Nat → Int) (n : Nat) : row (downTo L n) n = row (fun _ => 0) n := row_congr fun i h => by simp only [downTo]; rw [if_neg (by omega)]
theorem row_zero (n : Nat) : (madeCells (Value.int IntKind.u8 0).cells (n * 1)).toList = row (fun _ => 0) n := by
  have e : (Value.int IntKind.u8 0).cells = #[.int .u8 0] := rfl
  apply List.ext_getElem?
  intro i
  by_cases h : i < n
  · rw [row_get _ _ _ h, e]; simp [madeCells, h, Nat.mod_one]
  · rw [List.getElem?_eq_none (by simp [madeCells]; omega), List.getElem?_eq_none (by rw [row_len]; omega)]
/-- An owned row of bytes, as bytes that read so. -/
theorem Bs_of_row {w : World} {base g n : Nat} {F : Nat → Int} (h : w.ownsRow base 5 1 (.slice (some ⟨g, 0, none⟩) n n) n (row F n)) (hn : n ≤ 9223372036854775807) (hF : ∀ i, i < n → 0 ≤ F i ∧ F i < 256) :
    Bs w (.slice (some ⟨g, 0, none⟩) n n) ((List.range n).map F) := by
  refine ⟨fun x hx => ?_, by simpa using hn, .inr ⟨g, 0, n, by simp, by simp, fun i hi => ?_⟩⟩
  · obtain ⟨i, hi, rfl⟩ := List.mem_map.1 hx
    exact hF i (List.mem_range.1 hi)
  · have hi' : i < n := by simpa using hi
    rw [Nat.zero_add, h.cellAt i (by omega), row_get _ _ _ hi']
    simp [List.getD, hi']
/-- It returns a slice that reads as xs, and nothing that was there has changed. -/
def RetBs (xs : List Int) (w : World) (e : Ending) (w' : World) : Prop := ∃ r, e = .returned r ∧ Bs w' r xs ∧ Below w.heap.size w w'
set_option maxHeartbeats 400000 in
theorem spell_any (v : Int) (n : Nat) (w : World) (_ : 0 ≤ v) (h1 : 1 ≤ n) (h8 : n ≤ 8) :
    Calls Tryz.prog 136 #[.int .u64 v, .int .i64 n] w (RetBs (lo v n) w) := by
  obtain ⟨i0, hi, hz0, hz1, hz2⟩ := info_parts Tryz.info5
  go_enter Tryz.func136, Tryz.ntmps136
  go_wp2_with (first
    | (go_at_call 144; refine (store_any _ 0 v _ (by simp) (by simp)).mono ?_; rintro e w' ⟨rfl, rfl⟩)
    | (at_make; go_must (refine wpList_make_full _ rfl _ _ 140 rfl (w.heap.size + 1) 5 i0 (.int .u8 0) 1 Tryz.underlying140 hi hz0 hz1 _ _ _ _ n rfl rfl rfl rfl (by rw [hz2]; omega) (by unfold maxLen; omega) (by simp) ?_); intro w1 hown hgrow))
  rw [row_zero] at hown
  have hbel : Below w.heap.size w w1 := (((Below.refl _ w).alloc (Nat.le_refl _) _).grown hgrow (by simp) (by simp))
  have hat : w1.cell? ⟨w.heap.size, 0, none⟩ = some (.int .u64 v) := hgrow.cell (by simp) (by simp)
  clear hgrow
  go_loopw [7, 14] (fun _ i wr => ∃ k : Nat, k ≤ n ∧ i = .int .i64 k ∧ wr.ownsRow (w.heap.size + 1) 5 1 (.slice (some ⟨w.heap.size + 1, 0, none⟩) n n) n (row (upTo (fun i => v / 256 ^ (n - 1 - i) % 256) k) n) ∧ Below w.heap.size w wr ∧ wr.cell? ⟨w.heap.size, 0, none⟩ = some (.int .u64 v)) (fun _ i _ => n - (intOf i).toNat)
  case atStart => exact ⟨0, Nat.zero_le _, rfl, by rw [row_upTo0]; simpa using hown, hbel, hat⟩
  case round =>
    clear hbel hat hown
    obtain ⟨k, hk, rfl, hown, hbel, hat⟩ := hrel
    by_cases hlt : k < n
    · have hcell := hown.cellAt k (by omega)
      rw [row_get _ _ _ hlt] at hcell
      have hfz := hown.frozenAt k
      have hst := Lib.hid (hown.stored k)
      have hb2 := Lib.hid hbel
      clear hown hbel
      go_wp2_with (go_at_call 145; refine (load_any _ v _ hat).mono ?_; rintro e w' ⟨rfl, rfl⟩)
      go_roundw
      case rel =>
        refine ⟨k + 1, by omega, by go_num, ?_, hb2.out.setCell (by simp) _, by rw [World.cell?_setCell_other _ _ _ _ (by simp)]; exact hat⟩
        rw [← row_up, two_pow8]
        exact (hst.out _).1
      case measure => simp [intOf]; omega
    · obtain rfl : k = n := by omega
      have ho := Lib.hid hown
      have hb2 := Lib.hid hbel
      clear hown hbel hat
      go_wp2
      go_ret
      refine ⟨_, rfl, ?_, hb2.out⟩
      have hr := ho.out
      rw [row_upTo] at hr
      exact Bs_of_row hr (by omega) (fun i _ => by omega)

/-- Put's answer: the bytes, the error. -/
def PutOk (v n : Int) : Prop := 1 ≤ n ∧ n ≤ 7 ∧ 0 ≤ v ∧ v < pow256 n.toNat
instance (v n : Int) : Decidable (PutOk v n) := by unfold PutOk; infer_instance
def putB (v n : Int) : List Int := if PutOk v n then lo v n.toNat else []
def putE (v n : Int) : Int := if PutOk v n then 0 else 1
def RetPut (v n : Int) (w : World) (e : Ending) (w' : World) : Prop := ∃ r, e = .returned (.tuple #[r, .int .i64 (putE v n)]) ∧ Bs w' r (putB v n) ∧ Below w.heap.size w w'
theorem Bs_nil (w : World) : Bs w (.slice none 0 0) [] := ⟨by simp, by simp, .inl ⟨none, 0, rfl, fun _ => rfl, rfl⟩⟩
theorem RetPut_bad {v n : Int} (w : World) (h : ¬ PutOk v n) : RetPut v n w (.returned (.tuple #[.slice none 0 0, .int .i64 1])) w :=
  ⟨_, by rw [putE, if_neg h], by rw [putB, if_neg h]; exact Bs_nil w, Below.refl _ _⟩
theorem pow2_8 (N : Nat) : (2 : Int) ^ (8 * N) = pow256 N := by
  induction N with
  | zero => rfl
  | succ N ih => rw [Nat.mul_succ, Int.pow_add, ih, Int.mul_comm]; rfl
theorem shl_pow (N : Nat) (h : N ≤ 7) : wrap64 ((2 : Int) ^ (8 * N)) = pow256 N := by
  have h1 := pow256_pos N
  have h2 := pow256_small h
  rw [pow2_8]; unfold wrap64; omega
set_option maxHeartbeats 400000 in
theorem put_any (v n : Int) (w : World) (hv : v < 9223372036854775808) : Calls Tryz.prog 126 #[.int .i64 v, .int .i64 n] w (RetPut v n w) := by
  by_cases c1 : n < 1 ∨ 7 < n ∨ v < 0
  · have hb := Lib.hid (fun w => RetPut_bad (v := v) (n := n) w (by unfold PutOk; omega))
    rcases c1 with c1 | c1 | c1
    all_goals
      go_enter Tryz.func126, Tryz.ntmps126
      go_wp2
      all_goals
        go_ret2
        exact hb.out _
  · obtain ⟨N, rfl⟩ := Int.eq_ofNat_of_zero_le (show (0 : Int) ≤ n by omega)
    have n1 : (1 : Int) ≤ (N : Int) := by omega
    have n7 : (N : Int) ≤ 7 := by omega
    have v0 : 0 ≤ v := by omega
    have n1' : 1 ≤ N := by omega
    have n8' : N ≤ 8 := by omega
    clear c1
    by_cases c2 : v < pow256 N
    · have hg : Hid (PutOk v N) := ⟨n1, n7, v0, c2⟩
      rw [← shl_pow N (by omega)] at c2
      go_enter Tryz.func126, Tryz.ntmps126
      go_wp2_with (go_at_call 136; refine (spell_any v N _ v0 n1' n8').mono ?_; rintro e w' ⟨r, rfl, hr, hbel⟩)
      go_ret2
      exact ⟨r, by rw [putE, if_pos hg.out]; rfl, by rw [putB, if_pos hg.out]; exact hr, hbel⟩
    · have hb := Lib.hid (fun w => RetPut_bad (v := v) (n := N) w (by unfold PutOk; simp only [Int.toNat_natCast]; omega))
      rw [← shl_pow N (by omega)] at c2
      go_enter Tryz.func126, Tryz.ntmps126
      go_wp2
      go_ret2
      exact hb.out _
set_option maxHeartbeats 400000 in
theorem int_any (v : Int) (w : World) :
    Calls Tryz.prog 124 #[.int .i64 v] w (RetBs (lo (IntKind.u64.wrap v) 8) w) := by
  have h0 : 0 ≤ IntKind.u64.wrap v := by rw [IntKind.wrap_u64]; omega
  go_enter Tryz.func124, Tryz.ntmps124
  go_wp2_with (go_at_call 136; refine (spell_any _ 8 _ h0 (by omega) (by omega)).mono ?_; rintro e w' ⟨r, rfl, hr, hbel⟩)
  go_ret
  exact ⟨r, rfl, hr, hbel⟩
end Go.Proofs.YtfiaghfaijlfjaaGreat

