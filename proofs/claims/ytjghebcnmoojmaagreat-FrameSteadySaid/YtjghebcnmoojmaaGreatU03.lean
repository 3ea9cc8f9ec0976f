/- The contracts of what makes bytes. No conditions. The reference's Int, and rows joined: their contracts. No conditions. Two heights, two levels: whether they are alike. No conditions. Types that are made as a program runs: how many cells they have. Over any program. No conditions. Rows of structs, of whatever type: in memory, as arguments, in memory of their own; an element behind them. No conditions but on lengths. The document's examples: awake answers true. No conditions. Plain mathematics: bytes of numbers, put and got; lists of bytes as strings. No conditions. -/
import Derived.Test.YtjghebcnmoojmaaGreatU01
import Derived.Test.YtjghebcnmoojmaaGreatU02
import Derived.WalkSpells
import Derived.Laws.AppendOwnNone
import Derived.Laws.StructEq
import Derived.ChangeMade
import Derived.Deep.Slices
import Derived.Deep.RegionLaw
import Derived.Maps.AppendAt
import Derived.Laws.OwnMore
import Derived.ArgAppend
import Derived.WalkKit
import Derived.LoopTactic
import Derived.Lib.Hide
namespace Go.Proofs.YtjghebcnmoojmaaGreat
set_option maxRecDepth 100000
open Go.RowKit

theorem Tryz.info5 : (Tryz.prog.info? 5).map (fun i => (i.zero, i.size, i.bytes)) = some (some (.int .u8 0), 1, 1) := by kernel_rfl
theorem store_any (b : Nat) (x v : Int) (w : World) (hc : w.cell? ⟨b, 0, none⟩ = some (.int .u64 x)) (hf : w.frozen? ⟨b, 0, none⟩ = false) :
  Calls Tryz.prog 83 #[.pointer (some ⟨b, 0, none⟩), .int .u64 v] w fun e w' => e = .returned (.tuple #[]) ∧ w' = w.setCell ⟨b, 0, none⟩ (.int .u64 v) := by
 have hs := run_call_store (P := Tryz.prog) Tryz.func107 (by kernel_rfl) (by kernel_rfl) (by kernel_rfl) (by kernel_rfl) (k := .u64) (y := v) hc hf
 go_enter Tryz.func83, Tryz.ntmps83
 go_wp2
 go_end0
 exact ⟨rfl, rfl⟩
theorem load_any (b : Nat) (x : Int) (w : World) (hc : w.cell? ⟨b, 0, none⟩ = some (.int .u64 x)) :
  Calls Tryz.prog 84 #[.pointer (some ⟨b, 0, none⟩)] w fun e w' => e = .returned (.int .u64 x) ∧ w = w' := by
 have hl := run_call_load (P := Tryz.prog) Tryz.func108 (by kernel_rfl) (by kernel_rfl) (by kernel_rfl) .u64 (by kernel_rfl) hc
 go_enter Tryz.func84, Tryz.ntmps84
 go_wp2
 go_ret
 exact ⟨rfl, rfl⟩
def lo (v : Int) (n : Nat) : List Int := (List.range n).map fun i => v / 256 ^ (n - 1 - i) % 256
theorem two_pow8 (v : Int) (m : Nat) : v / 256 ^ m % 256 = v / 2 ^ (8 * m) % 256 := by
 rw [Int.pow_mul]; rfl
def row (F : Nat → Int) (n : Nat) : List Value := (List.range n).map fun i => Value.int .u8 (F i)
theorem row_len (F : Nat → Int) (n : Nat) : (row F n).length = n := by simp [row]
theorem row_get (F : Nat → Int) (n k : Nat) (h : k < n) : (row F n)[k]? = some (.int .u8 (F k)) := by simp [row, h]
theorem row_set (F G : Nat → Int) (n k : Nat) (x : Int) (hk : G k = x) (ho : ∀ i, i < n → i ≠ k → G i = F i) : (row F n).set k (.int .u8 x) = row G n := by
 apply List.ext_getElem?
 intro i
 rw [List.getElem?_set]
 by_cases hi : i < n
 ·rw [row_get _ _ _ hi, row_get _ _ _ hi, row_len]
  by_cases e : k = i
  ·subst e; rw [if_pos rfl, if_pos hi, hk]
  ·rw [if_neg e, ho i hi (fun h => e h.symm)]
 ·rw [List.getElem?_eq_none (by rw [row_len]; omega), List.getElem?_eq_none (by rw [row_len]; omega), row_len]
  by_cases e : k = i
  ·subst e; rw [if_pos rfl, if_neg hi]
  ·rw [if_neg e]
theorem row_congr {F G : Nat → Int} {n : Nat} (h : ∀ i, i < n → F i = G i) : row F n = row G n :=
 List.map_congr_left fun i hi => by rw [h i (List.mem_range.1 hi)]
def upTo (L : Nat → Int) (k i : Nat) : Int := if i < k then L i else 0
theorem row_up (L : Nat → Int) (n k : Nat) : (row (upTo L k) n).set k (.int .u8 (L k)) = row (upTo L (k + 1)) n := by
 refine row_set _ _ _ _ _ ?_ ?_
 ·simp [upTo]
 ·intro i _ hne
  by_cases h : i < k
  ·simp only [upTo]; rw [if_pos h, if_pos (by omega)]
  ·simp only [upTo]; rw [if_neg h, if_neg (by omega)]
theorem row_upTo (L : Nat → Int) (n : Nat) : row (upTo L n) n = row L n := row_congr fun i h => by simp only [upTo]; rw [if_pos h]
theorem row_upTo0 (L : Nat → Int) (n : Nat) : row (upTo L 0) n = row (fun _ => 0) n := row_congr fun i h => by simp [upTo]
theorem row_zero (n : Nat) : (madeCells (Value.int IntKind.u8 0).cells (n * 1)).toList = row (fun _ => 0) n := by
 have e : (Value.int IntKind.u8 0).cells = #[.int .u8 0] := rfl
 apply List.ext_getElem?
 intro i
 by_cases h : i < n
 ·rw [row_get _ _ _ h, e]; simp [madeCells, h, Nat.mod_one]
 ·rw [List.getElem?_eq_none (by simp [madeCells]; omega), List.getElem?_eq_none (by rw [row_len]; omega)]
theorem Bs_of_row {w : World} {base g n : Nat} {F : Nat → Int} (h : w.ownsRow base 5 1 (.slice (some ⟨g, 0, none⟩) n n) n (row F n)) (hn : n ≤ 9223372036854775807) (hF : ∀ i, i < n → 0 ≤ F i ∧ F i < 256) :
  Bs w (.slice (some ⟨g, 0, none⟩) n n) ((List.range n).map F) := by
 refine ⟨fun x hx => ?_, by simpa using hn, .inr ⟨g, 0, n, by simp, by simp, fun i hi => ?_⟩⟩
 ·obtain ⟨i, hi, rfl⟩ := List.mem_map.1 hx
  exact hF i (List.mem_range.1 hi)
 ·have hi' : i < n := by simpa using hi
  rw [Nat.zero_add, h.cellAt i (by omega), row_get _ _ _ hi']
  simp [List.getD, hi']
def RetBs (xs : List Int) (w : World) (e : Ending) (w' : World) : Prop := ∃ r, e = .returned r ∧ Bs w' r xs ∧ Below w.heap.size w w'
set_option maxHeartbeats 400000 in
theorem spell_any (v : Int) (n : Nat) (w : World) (_ : 0 ≤ v) (h1 : 1 ≤ n) (h8 : n ≤ 8) :
  Calls Tryz.prog 65 #[.int .u64 v, .int .i64 n] w (RetBs (lo v n) w) := by
 obtain ⟨i0, hi, hz0, hz1, hz2⟩ := info_parts Tryz.info5
 go_enter Tryz.func65, Tryz.ntmps65
 go_wp2_with (first
  | (go_at_call 83; refine (store_any _ 0 v _ (by simp) (by simp)).mono ?_; rintro e w' ⟨rfl, rfl⟩)
  | (at_make; go_must (refine wpList_make_full _ rfl _ _ 26 rfl (w.heap.size + 1) 5 i0 (.int .u8 0) 1 Tryz.underlying26 hi hz0 hz1 _ _ _ _ n rfl rfl rfl rfl (by rw [hz2]; omega) (by unfold maxLen; omega) (by simp) ?_); intro w1 hown hgrow))
 rw [row_zero] at hown
 have hbel : Below w.heap.size w w1 := (((Below.refl _ w).alloc (Nat.le_refl _) _).grown hgrow (by simp) (by simp))
 have hat : w1.cell? ⟨w.heap.size, 0, none⟩ = some (.int .u64 v) := hgrow.cell (by simp) (by simp)
 clear hgrow
 go_loopw [7, 14] (fun _ i wr => ∃ k : Nat, k ≤ n ∧ i = .int .i64 k ∧ wr.ownsRow (w.heap.size + 1) 5 1 (.slice (some ⟨w.heap.size + 1, 0, none⟩) n n) n (row (upTo (fun i => v / 256 ^ (n - 1 - i) % 256) k) n) ∧ Below w.heap.size w wr ∧ wr.cell? ⟨w.heap.size, 0, none⟩ = some (.int .u64 v)) (fun _ i _ => n - (intOf i).toNat)
 case atStart => exact ⟨0, Nat.zero_le _, rfl, by rw [row_upTo0]; simpa using hown, hbel, hat⟩
 case round =>
  clear hbel hat hown
  obtain ⟨k, hk, rfl, hown, hbel, hat⟩ := hrel
  by_cases hlt : k < n
  ·have hcell := hown.cellAt k (by omega)
   rw [row_get _ _ _ hlt] at hcell
   have hfz := hown.frozenAt k
   have hst := Lib.hid (hown.stored k)
   have hb2 := Lib.hid hbel
   clear hown hbel
   go_wp2_with (go_at_call 84; refine (load_any _ v _ hat).mono ?_; rintro e w' ⟨rfl, rfl⟩)
   go_roundw
   case rel =>
    refine ⟨k + 1, by omega, by go_num, ?_, hb2.out.setCell (by simp) _, by rw [World.cell?_setCell_other _ _ _ _ (by simp)]; exact hat⟩
    rw [← row_up, two_pow8]
    exact (hst.out _).1
   case measure => simp [intOf]; omega
  ·obtain rfl : k = n := by omega
   have ho := Lib.hid hown
   have hb2 := Lib.hid hbel
   clear hown hbel hat
   go_wp2
   go_ret
   refine ⟨_, rfl, ?_, hb2.out⟩
   have hr := ho.out
   rw [row_upTo] at hr
   exact Bs_of_row hr (by omega) (fun i _ => by omega)
def PutOk (v n : Int) : Prop := 1 ≤ n ∧ n ≤ 7 ∧ 0 ≤ v ∧ v < pow256 n.toNat
instance (v n : Int) : Decidable (PutOk v n) := by unfold PutOk; infer_instance
def putB (v n : Int) : List Int := if PutOk v n then lo v n.toNat else []
def putE (v n : Int) : Int := if PutOk v n then 0 else 1
def RetPut (v n : Int) (w : World) (e : Ending) (w' : World) : Prop := ∃ r, e = .returned (.tuple #[r, .int .i64 (putE v n)]) ∧ Bs w' r (putB v n) ∧ Below w.heap.size w w'
theorem Bs_nil (w : World) : Bs w (.slice none 0 0) [] := ⟨by simp, by simp, .inl ⟨none, 0, rfl, fun _ => rfl, rfl⟩⟩
theorem RetPut_bad {v n : Int} (w : World) (h : ¬ PutOk v n) : RetPut v n w (.returned (.tuple #[.slice none 0 0, .int .i64 1])) w :=
 ⟨_, by rw [putE, if_neg h], by rw [putB, if_neg h]; exact Bs_nil w, Below.refl _ _⟩
theorem pow2_8 (N : Nat) : (2 : Int) ^ (8 * N) = pow256 N := by
 induction N with
 | zero => rfl
 | succ N ih => rw [Nat.mul_succ, Int.pow_add, ih, Int.mul_comm]; rfl
theorem shl_pow (N : Nat) (h : N ≤ 7) : wrap64 ((2 : Int) ^ (8 * N)) = pow256 N := by
 have h1 := pow256_pos N
 have h2 := pow256_small h
 rw [pow2_8]; unfold wrap64; omega
set_option maxHeartbeats 400000 in
theorem put_any (v n : Int) (w : World) (hv : v < 9223372036854775808) : Calls Tryz.prog 42 #[.int .i64 v, .int .i64 n] w (RetPut v n w) := by
 by_cases c1 : n < 1 ∨ 7 < n ∨ v < 0
 ·have hb := Lib.hid (fun w => RetPut_bad (v := v) (n := n) w (by unfold PutOk; omega))
  rcases c1 with c1 | c1 | c1
  all_goals
   go_enter Tryz.func42, Tryz.ntmps42
   go_wp2
   all_goals
    go_ret2
    exact hb.out _
 ·obtain ⟨N, rfl⟩ := Int.eq_ofNat_of_zero_le (show (0 : Int) ≤ n by omega)
  have n1 : (1 : Int) ≤ (N : Int) := by omega
  have n7 : (N : Int) ≤ 7 := by omega
  have v0 : 0 ≤ v := by omega
  have n1' : 1 ≤ N := by omega
  have n8' : N ≤ 8 := by omega
  clear c1
  by_cases c2 : v < pow256 N
  ·have hg : Hid (PutOk v N) := ⟨n1, n7, v0, c2⟩
   rw [← shl_pow N (by omega)] at c2
   go_enter Tryz.func42, Tryz.ntmps42
   go_wp2_with (go_at_call 65; refine (spell_any v N _ v0 n1' n8').mono ?_; rintro e w' ⟨r, rfl, hr, hbel⟩)
   go_ret2
   exact ⟨r, by rw [putE, if_pos hg.out]; rfl, by rw [putB, if_pos hg.out]; exact hr, hbel⟩
  ·have hb := Lib.hid (fun w => RetPut_bad (v := v) (n := N) w (by unfold PutOk; simp only [Int.toNat_natCast]; omega))
   rw [← shl_pow N (by omega)] at c2
   go_enter Tryz.func42, Tryz.ntmps42
   go_wp2
   go_ret2
   exact hb.out _
set_option maxHeartbeats 400000 in
theorem int_any (v : Int) (w : World) :
  Calls Tryz.prog 132 #[.int .i64 v] w (RetBs (lo (IntKind.u64.wrap v) 8) w) := by
 have h0 : 0 ≤ IntKind.u64.wrap v := by rw [IntKind.wrap_u64]; omega
 go_enter Tryz.func132, Tryz.ntmps132
 go_wp2_with (go_at_call 65; refine (spell_any _ 8 _ h0 (by omega) (by omega)).mono ?_; rintro e w' ⟨r, rfl, hr, hbel⟩)
 go_ret
 exact ⟨r, rfl, hr, hbel⟩
end Go.Proofs.YtjghebcnmoojmaaGreat

namespace Go.Proofs.YtjghebcnmoojmaaGreat
open Go.RowKit
set_option maxRecDepth 20000

theorem Bs_below {w w' : World} {v : Value} {xs : List Int} (h : Bs w v xs) (hb : Below w.heap.size w w') : Bs w' v xs := by
 obtain ⟨h1, h2, h3 | ⟨b, off, cap, h4, h5, h6⟩⟩ := h
 ·exact ⟨h1, h2, .inl h3⟩
 ·refine ⟨h1, h2, .inr ⟨b, off, cap, h4, h5, fun i hi => ?_⟩⟩
  have hc := h6 i hi
  rw [hb.cell (World.block_lt_of_cell? w _ hc)]
  exact hc
theorem Bs_of_own {w : World} {base n : Nat} {v : Value} {xs : List Int} (h : w.ownsRow base 5 1 v n (xs.map (Value.int .u8))) (hx : ∀ x ∈ xs, 0 ≤ x ∧ x < 256) (hn : xs.length ≤ 9223372036854775807) : Bs w v xs := by
 have hl : xs.length = n := by simpa using h.1
 refine ⟨hx, hn, ?_⟩
 rcases h.2 with ⟨h1, h2⟩ | ⟨g, cap, cur, rfl, _, hg, hnc, _, _, htake⟩
 ·left; exact ⟨none, 0, h1, fun _ => rfl, List.length_eq_zero_iff.1 (by omega)⟩
 ·right
  refine ⟨g, 0, cap, by rw [hl], by omega, fun i hi => ?_⟩
  rw [Nat.zero_add, h.cellAt i (by omega)]
  simp [List.getD, hi]
theorem World.ownsRow.len {w : World} {base n : Nat} {v : Value} {xs : List Int} (h : w.ownsRow base 5 1 v n (xs.map (Value.int .u8))) : n = xs.length := by simpa using h.1.symm
theorem news_of {w : World} {b off : Nat} {xs : List Int} (hc : ∀ i, i < xs.length → w.cell? ⟨b, off + i, none⟩ = some (.int .u8 (xs.getD i 0))) : ∀ j u, (xs.map (Value.int .u8))[j]? = some u → w.cell? ((⟨b, off, none⟩ : Addr).add j) = some u := by
 intro j u h
 have hj : j < xs.length := by
  rcases Nat.lt_or_ge j xs.length with h' | h'
  ·exact h'
  ·rw [List.getElem?_eq_none (by simpa using h')] at h; cases h
 have hadd : (⟨b, off, none⟩ : Addr).add j = ⟨b, off + j, none⟩ := by unfold Addr.add; split <;> simp_all
 rw [hadd, hc j hj]
 simp [hj] at h
 simp [List.getD, hj, h]
theorem ones (xs : List Int) : ∀ u ∈ xs.map (Value.int .u8), u.oneCell' = true := by
 intro u hu
 obtain ⟨_, _, rfl⟩ := List.mem_map.1 hu
 rfl
end Go.Proofs.YtjghebcnmoojmaaGreat

namespace Go.Proofs.YtjghebcnmoojmaaGreat
set_option maxRecDepth 100000
open Go.RowKit

theorem eqF_cell {P : Program} {w : World} {d : Nat} {xs ys : Array Value} {f : Field} {fs : List Field} {x y : Value} {T : TypeId} {off : Nat} {e : Bool}
  (h : (f.name == "_", f.type, f.offset) = (false, T, off)) (ha : (isAgg T).run P w = .ok false w) (hx : xs[off]? = some x) (hy : ys[off]? = some y) (he : (Op.equalIn d T x y).run P w = .ok e w) :
  (Op.eqFields d xs ys (f :: fs)).run P w = if e then (Op.eqFields d xs ys fs).run P w else .ok false w := by
 simp only [Prod.mk.injEq, beq_eq_false_iff_ne] at h
 obtain ⟨h1, h2, h3⟩ := h
 have p : ∀ (zs : Array Value) (z : Value), zs[off]? = some z → (part T zs off).run P w = .ok z w := by
  intro zs z hz
  simp only [part, Sem.run_bind, ha, Result.andThen_ok, Bool.false_eq_true, if_false, hz, Sem.run_pure]
 simp only [Op.eqFields, h2, h3]
 rw [if_pos h1]
 simp only [Sem.run_bind, p xs x hx, p ys y hy, he, Result.andThen_ok, Sem.run_ite, Sem.run_pure]
 cases e <;> simp
theorem under23 : Tryz.prog.underlying 59 = some (.struct (Tryz.prog.fieldsOf 59)) := by kernel_rfl
theorem fields23 : ((Tryz.prog.fieldsOf 59).toList.map fun f => (f.name == "_", f.type, f.offset)) = [(false, 4, 0), (false, 3, 1), (false, 3, 2), (false, 3, 3), (false, 3, 4), (false, 3, 5)] := by kernel_rfl
theorem run_eq23 (n m : Bool) (t o r d i t' o' r' d' i' : Int) (w : World) :
  (Op.equalIn 10000 59 (.agg #[.bool n, .int .i64 t, .int .i64 o, .int .i64 r, .int .i64 d, .int .i64 i]) (.agg #[.bool m, .int .i64 t', .int .i64 o', .int .i64 r', .int .i64 d', .int .i64 i'])).run Tryz.prog w
   = .ok (n == m && (t == t' && (o == o' && (r == r' && (d == d' && i == i'))))) w := by
 rw [run_equalIn_agg w 9999 59 _ _ under23 (by kernel_rfl)]
 have hf := fields23
 generalize (Tryz.prog.fieldsOf 59).toList = fs at *
 have a3 : (isAgg 3).run Tryz.prog w = .ok false w := by kernel_rfl
 have a4 : (isAgg 4).run Tryz.prog w = .ok false w := by kernel_rfl
 obtain ⟨f0, _, rfl, g0, hf⟩ := List.map_eq_cons_iff.1 hf
 obtain ⟨f1, _, rfl, g1, hf⟩ := List.map_eq_cons_iff.1 hf
 obtain ⟨f2, _, rfl, g2, hf⟩ := List.map_eq_cons_iff.1 hf
 obtain ⟨f3, _, rfl, g3, hf⟩ := List.map_eq_cons_iff.1 hf
 obtain ⟨f4, _, rfl, g4, hf⟩ := List.map_eq_cons_iff.1 hf
 obtain ⟨f5, _, rfl, g5, hf⟩ := List.map_eq_cons_iff.1 hf
 obtain rfl := List.map_eq_nil_iff.1 hf
 rw [eqF_cell g0 a4 rfl rfl (run_equalIn_bool' w 9998 4 n m (by kernel_rfl)), eqF_cell g1 a3 rfl rfl (run_equalIn_int w 9998 3 .i64 .i64 t t' (by kernel_rfl)),
  eqF_cell g2 a3 rfl rfl (run_equalIn_int w 9998 3 .i64 .i64 o o' (by kernel_rfl)), eqF_cell g3 a3 rfl rfl (run_equalIn_int w 9998 3 .i64 .i64 r r' (by kernel_rfl)),
  eqF_cell g4 a3 rfl rfl (run_equalIn_int w 9998 3 .i64 .i64 d d' (by kernel_rfl)), eqF_cell g5 a3 rfl rfl (run_equalIn_int w 9998 3 .i64 .i64 i i' (by kernel_rfl))]
 simp only [Op.eqFields, Sem.run_pure]
 cases n == m <;> cases t == t' <;> cases o == o' <;> cases r == r' <;> cases d == d' <;> cases i == i' <;> rfl
def eqH (n : Bool) (t o r d i : Int) (m : Bool) (t' o' r' d' i' : Int) : Bool := n == m && (t == t' && (o == o' && (r == r' && (d == d' && i == i'))))
theorem eqH_iff {n : Bool} {t o r d i : Int} {m : Bool} {t' o' r' d' i' : Int} : eqH n t o r d i m t' o' r' d' i' = true ↔ n = m ∧ t = t' ∧ o = o' ∧ r = r' ∧ d = d' ∧ i = i' := by
 simp [eqH]
theorem guard23 (op : BinOp) (x y : Operand) (xs ys : Array Value) (w : World) : (eqGuard op 59 x y (.agg xs) (.agg ys)).run Tryz.prog w = .ok () w :=
 run_eqGuard_agg w op 59 x y xs ys (by kernel_rfl)
theorem eql23 (n m : Bool) (t o r d i t' o' r' d' i' : Int) (w : World) :
  (binOp .eql 59 (.agg #[.bool n, .int .i64 t, .int .i64 o, .int .i64 r, .int .i64 d, .int .i64 i]) (.agg #[.bool m, .int .i64 t', .int .i64 o', .int .i64 r', .int .i64 d', .int .i64 i'])).run Tryz.prog w
   = .ok (.bool (eqH n t o r d i m t' o' r' d' i')) w := by
 rw [run_eql_struct, run_eq23]; rfl
theorem neq23 (n m : Bool) (t o r d i t' o' r' d' i' : Int) (w : World) :
  (binOp .neq 59 (.agg #[.bool n, .int .i64 t, .int .i64 o, .int .i64 r, .int .i64 d, .int .i64 i]) (.agg #[.bool m, .int .i64 t', .int .i64 o', .int .i64 r', .int .i64 d', .int .i64 i'])).run Tryz.prog w
   = .ok (.bool (!eqH n t o r d i m t' o' r' d' i')) w := by
 rw [run_neq_struct, run_eq23]; rfl
theorem under25 : Tryz.prog.underlying 61 = some (.struct (Tryz.prog.fieldsOf 61)) := by kernel_rfl
theorem fields25 : ((Tryz.prog.fieldsOf 61).toList.map fun f => (f.name == "_", f.type, f.offset)) = [(false, 3, 0), (false, 3, 1), (false, 3, 2)] := by kernel_rfl
def eqL (t o r t' o' r' : Int) : Bool := t == t' && (o == o' && r == r')
theorem eqL_iff {t o r t' o' r' : Int} : eqL t o r t' o' r' = true ↔ t = t' ∧ o = o' ∧ r = r' := by simp [eqL]
theorem run_eq25 (t o r t' o' r' : Int) (w : World) :
  (Op.equalIn 10000 61 (.agg #[.int .i64 t, .int .i64 o, .int .i64 r]) (.agg #[.int .i64 t', .int .i64 o', .int .i64 r'])).run Tryz.prog w = .ok (eqL t o r t' o' r') w := by
 rw [run_equalIn_agg w 9999 61 _ _ under25 (by kernel_rfl)]
 have hf := fields25
 generalize (Tryz.prog.fieldsOf 61).toList = fs at *
 have a3 : (isAgg 3).run Tryz.prog w = .ok false w := by kernel_rfl
 obtain ⟨f1, _, rfl, g1, hf⟩ := List.map_eq_cons_iff.1 hf
 obtain ⟨f2, _, rfl, g2, hf⟩ := List.map_eq_cons_iff.1 hf
 obtain ⟨f3, _, rfl, g3, hf⟩ := List.map_eq_cons_iff.1 hf
 obtain rfl := List.map_eq_nil_iff.1 hf
 rw [eqF_cell g1 a3 rfl rfl (run_equalIn_int w 9998 3 .i64 .i64 t t' (by kernel_rfl)), eqF_cell g2 a3 rfl rfl (run_equalIn_int w 9998 3 .i64 .i64 o o' (by kernel_rfl)), eqF_cell g3 a3 rfl rfl (run_equalIn_int w 9998 3 .i64 .i64 r r' (by kernel_rfl))]
 simp only [Op.eqFields, Sem.run_pure, eqL]
 cases t == t' <;> cases o == o' <;> cases r == r' <;> rfl
theorem guard25 (op : BinOp) (x y : Operand) (xs ys : Array Value) (w : World) : (eqGuard op 61 x y (.agg xs) (.agg ys)).run Tryz.prog w = .ok () w :=
 run_eqGuard_agg w op 61 x y xs ys (by kernel_rfl)
theorem eql25 (t o r t' o' r' : Int) (w : World) :
  (binOp .eql 61 (.agg #[.int .i64 t, .int .i64 o, .int .i64 r]) (.agg #[.int .i64 t', .int .i64 o', .int .i64 r'])).run Tryz.prog w = .ok (.bool (eqL t o r t' o' r')) w := by
 rw [run_eql_struct, run_eq25]; rfl
end Go.Proofs.YtjghebcnmoojmaaGreat

namespace Go.Proofs.YtjghebcnmoojmaaGreat
set_option maxRecDepth 100000

theorem beyond {P : Program} {t : TypeId} {u : TypeDesc} (ht : ¬ t < P.types.size) (h : P.underlying t = some u) :
  ∃ d i, Made.reckon (Made.infoAt P.toTables 99) d = some i ∧ i.desc = u ∧ P.cellsOf t = i.size ∧ P.underlyingId t = t ∧ u.tableOnly = false := by
 unfold Program.underlying at h
 cases hi : P.info? t with
 | none => rw [hi] at h; cases h
 | some i =>
  have hto := Tables.info?_beyond ht hi
  have hnn : ∀ n v, i.desc ≠ .named n v := fun n v e => by rw [e] at hto; cases hto
  rw [hi] at h
  have hu : i.desc = u := by
   split at h
   ·rename_i n v hh
    cases hh
    exact absurd rfl (hnn _ _)
   ·rename_i j hj hh
    cases hh
    simpa using h
   ·cases ‹some i = none›
  have hid : P.underlyingId t = t := by
   unfold Program.underlyingId
   rw [hi]
   split
   ·rename_i n v hh
    cases hh
    exact absurd rfl (hnn _ _)
   ·rfl
  have hc : P.cellsOf t = i.size := by unfold Program.cellsOf; rw [hi]; rfl
  unfold Tables.info? at hi
  rw [if_neg ht] at hi
  unfold Made.depth at hi
  unfold Made.infoAt at hi
  rw [if_neg ht] at hi
  simp only [Option.bind_eq_some_iff] at hi
  obtain ⟨d, _, hr⟩ := hi
  exact ⟨d, i, hr, hu, hc, hid, by rw [← hu]; exact hto⟩
end Go.Proofs.YtjghebcnmoojmaaGreat

namespace Go.Proofs.YtjghebcnmoojmaaGreat
set_option maxRecDepth 100000
open Go.RowKit Go.WideShapes Go.ChangeShapes

structure RowT where
 α : Type
 d : α
 cl : α → List Value
 K : Nat
 T : TypeId
 SL : TypeId
 zero : Value
 bytes : Nat
 hcl : ∀ y, (cl y).length = K
 hK : 0 < K
 hone : ∀ y, ∀ u ∈ cl y, u.oneCell' = true
 hSL : Tryz.prog.underlying SL = some (.slice T)
 hinfo : (Tryz.prog.info? T).map (fun i => (i.zero, i.size, i.bytes)) = some (some zero, K, bytes)
 hz : zero.cells.size = K
 hb : bytes ≤ 4096
 hc : Tryz.prog.cellsOf T = K
variable (R : RowT)

theorem add_spot' (b off k : Nat) : (⟨b, off, none⟩ : Addr).add k = ⟨b, off + k, none⟩ := by unfold Addr.add; split <;> simp_all
def gflat (ys : List R.α) : List Value := ys.flatMap R.cl
theorem gflat_len (ys : List R.α) : (gflat R ys).length = ys.length * R.K := by
 induction ys with
 | nil => simp [gflat]
 | cons y ys ih => simp only [gflat, List.flatMap_cons, List.length_append, List.length_cons, R.hcl] at *; rw [ih, Nat.succ_mul]; omega
theorem gflat_app (xs ys : List R.α) : gflat R (xs ++ ys) = gflat R xs ++ gflat R ys := by simp [gflat]
theorem gflat_one (y : R.α) : gflat R [y] = R.cl y := by simp [gflat]
theorem gflat_at : ∀ (ys : List R.α) (i j : Nat), i < ys.length → j < R.K → (gflat R ys)[i * R.K + j]? = (R.cl (ys.getD i R.d))[j]?
 | [], i, j, h, _ => by simp at h
 | y :: ys, 0, j, _, hj => by
  simp only [gflat, List.flatMap_cons, Nat.zero_mul, Nat.zero_add, List.getD_cons_zero]
  rw [List.getElem?_append_left (by rw [R.hcl]; exact hj)]
 | y :: ys, i + 1, j, h, hj => by
  have ih := gflat_at ys i j (by simpa using h) hj
  simp only [gflat, List.flatMap_cons, List.getD_cons_succ] at *
  rw [List.getElem?_append_right (by rw [R.hcl, Nat.succ_mul]; omega), R.hcl, show (i + 1) * R.K + j - R.K = i * R.K + j by rw [Nat.succ_mul]; omega]
  exact ih
theorem gflat_ones (ys : List R.α) : ∀ u ∈ gflat R ys, u.oneCell' = true := by
 intro u hu
 obtain ⟨y, _, hy⟩ := List.mem_flatMap.1 hu
 exact R.hone y u hy
def GC (w : World) (b o : Nat) (y : R.α) : Prop := ∀ j, j < R.K → w.cell? ⟨b, o + j, none⟩ = (R.cl y)[j]?
theorem GC.low {R : RowT} {w w' : World} {b o B : Nat} {y : R.α} (h : GC R w b o y) (hb : b < B) (hB : Below B w w') : GC R w' b o y := fun j hj => by
 rw [hB.cell (p := ⟨b, o + j, none⟩) hb]; exact h j hj
theorem gc_alloc (w : World) (y : R.α) (g : Nat) (hg : g = w.heap.size) (T : TypeId) : GC R (w.alloc (.cells (R.cl y).toArray T)) g 0 y := fun j hj => by
 subst hg
 rw [Nat.zero_add, cell_of_row _ _ _ _ _ _ (heap_alloc_new w _)]
 simp
def Gs (w : World) (v : Value) (ys : List R.α) : Prop :=
 (∃ a cap, v = .slice a 0 cap ∧ (a = none → cap = 0) ∧ ys = []) ∨
 ∃ b off cap, v = .slice (some ⟨b, off, none⟩) ys.length cap ∧ ys.length ≤ cap ∧ b < w.heap.size ∧ ∀ i, i < ys.length → GC R w b (off + i * R.K) (ys.getD i R.d)
variable {R}
theorem Gs.below {w w' : World} {v : Value} {ys : List R.α} (h : Gs R w v ys) (hb : Below w.heap.size w w') : Gs R w' v ys := by
 rcases h with h | ⟨b, off, cap, h1, h2, h3, h4⟩
 ·exact .inl h
 ·exact .inr ⟨b, off, cap, h1, h2, Nat.lt_of_lt_of_le h3 hb.size, fun i hi => (h4 i hi).low h3 hb⟩
theorem Gs.alloc {w : World} {v : Value} {ys : List R.α} (h : Gs R w v ys) (O : Obj) : Gs R (w.alloc O) v ys := h.below ((Below.refl _ _).alloc (Nat.le_refl _) O)
theorem Gs.form {w : World} {v : Value} {ys : List R.α} (h : Gs R w v ys) : ∃ a c, v = .slice a ys.length c := by
 rcases h with ⟨a, cap, h1, _, rfl⟩ | ⟨b, off, cap, h1, _⟩
 ·exact ⟨a, cap, h1⟩
 ·exact ⟨_, _, h1⟩
theorem Gs_nil (w : World) : Gs R w (.slice none 0 0) [] := .inl ⟨none, 0, rfl, fun _ => rfl, rfl⟩
theorem Gs.at {w : World} {a : Option Addr} {c : Nat} {ys : List R.α} (h : Gs R w (.slice a ys.length c) ys) {i : Nat} (hi : i < ys.length) : ∃ b off, a = some ⟨b, off, none⟩ ∧ b < w.heap.size ∧ GC R w b (off + i * R.K) (ys.getD i R.d) := by
 rcases h with ⟨a', cap, hv, _, rfl⟩ | ⟨b, off, cap, hv, _, hB, hc⟩
 ·simp at hi
 ·simp only [Value.slice.injEq] at hv
  exact ⟨b, off, hv.1, hB, hc i hi⟩
theorem Gs.all {w : World} {b off c : Nat} {ys : List R.α} (h : Gs R w (.slice (some ⟨b, off, none⟩) ys.length c) ys) {i : Nat} (hi : i < ys.length) : b < w.heap.size ∧ GC R w b (off + i * R.K) (ys.getD i R.d) := by
 obtain ⟨b', off', h1, h2⟩ := h.at hi
 simp only [Option.some.injEq, Addr.mk.injEq, and_true] at h1
 obtain ⟨rfl, rfl⟩ := h1
 exact h2
theorem gown_cell {w : World} {base n g cap : Nat} {xs : List Value} {e : TypeId} {size : Nat} (h : w.ownsRow base e size (.slice (some ⟨g, 0, none⟩) n cap) n xs) (j : Nat) (hj : j < n * size) : w.cell? ⟨g, j, none⟩ = xs[j]? := h.cellAt j hj
theorem Gs_of_own {w : World} {base n : Nat} {v : Value} {ys : List R.α} (h : w.ownsRow base R.T R.K v n (gflat R ys)) : Gs R w v ys ∧ n = ys.length := by
 have hn : n = ys.length := by
  have h1 := h.1
  rw [gflat_len] at h1
  exact (Nat.eq_of_mul_eq_mul_right R.hK h1).symm
 subst hn
 refine ⟨?_, rfl⟩
 rcases h.2 with ⟨h1, h2⟩ | ⟨g, cap, cur, rfl, _, hg, hnc, _, _, htake⟩
 ·exact .inl ⟨none, 0, h1, fun _ => rfl, List.length_eq_zero_iff.1 h2⟩
 ·refine .inr ⟨g, 0, cap, rfl, hnc, (Array.getElem?_eq_some_iff.1 hg).1, fun i hi j hj => ?_⟩
  have hlt : i * R.K + j < ys.length * R.K := by
   have : (i + 1) * R.K ≤ ys.length * R.K := Nat.mul_le_mul_right _ hi
   rw [Nat.succ_mul] at this
   omega
  rw [Nat.zero_add, gown_cell h (i * R.K + j) hlt, gflat_at R ys i j hi hj]
theorem grow_ext {ys zs : List R.α} (hl : ys.length = zs.length) (h : ∀ i, i < ys.length → ys.getD i R.d = zs.getD i R.d) : ys = zs := by
 refine List.ext_getElem hl fun i h1 h2 => ?_
 have := h i h1
 simpa [List.getD, h1, h2] using this
theorem gown_nil (w : World) (base : Nat) : w.ownsRow base R.T R.K (.slice none 0 0) 0 (gflat R []) := ⟨by simp [gflat], .inl ⟨rfl, rfl⟩⟩
theorem gown_below {w w' : World} {base size n : Nat} {e : TypeId} {v : Value} {xs : List Value} (h : w.ownsRow base e size v n xs) (hb : Below w.heap.size w w') : w'.ownsRow base e size v n xs := by
 refine ⟨h.1, ?_⟩
 rcases h.2 with h2 | ⟨g, cap, cur, rfl, h3, hg, rest⟩
 ·exact .inl h2
 ·exact .inr ⟨g, cap, cur, rfl, h3, (hb.block g (Array.getElem?_eq_some_iff.1 hg).1).trans hg, rest⟩
theorem gown_mono {w : World} {base B size n : Nat} {e : TypeId} {v : Value} {xs : List Value} (h : w.ownsRow base e size v n xs) (hB : B ≤ base) : w.ownsRow B e size v n xs := by
 rcases h.2 with h2 | ⟨g, cap, cur, h2, h3, h4⟩
 ·exact ⟨h.1, .inl h2⟩
 ·exact ⟨h.1, .inr ⟨g, cap, cur, h2, Nat.le_trans hB h3, h4⟩⟩
theorem gown_form {w : World} {base size n : Nat} {e : TypeId} {v : Value} {xs : List Value} (h : w.ownsRow base e size v n xs) : ∃ a c, v = .slice a n c := by
 rcases h.2 with ⟨rfl, rfl⟩ | ⟨g, cap, cur, rfl, _⟩
 ·exact ⟨none, 0, rfl⟩
 ·exact ⟨_, _, rfl⟩
theorem gown_prefix {w : World} {S size n m g cap : Nat} {e : TypeId} {xs ys : List Value} (h : w.ownsRow S e size (.slice (some ⟨g, 0, none⟩) (n + m) cap) (n + m) (xs ++ ys)) (hx : xs.length = n * size) : w.ownsRow S e size (.slice (some ⟨g, 0, none⟩) n cap) n xs := by
 refine ⟨hx, ?_⟩
 rcases h.2 with ⟨h1, _⟩ | ⟨g', cap', cur, hv, hb, hg, hnc, hcm, hcs, htake⟩
 ·cases h1
 ·simp only [Value.slice.injEq, Option.some.injEq, Addr.mk.injEq, and_true, true_and] at hv
  obtain ⟨rfl, rfl⟩ := hv
  refine .inr ⟨g, cap, cur, rfl, hb, hg, by omega, hcm, hcs, ?_⟩
  have h3 : (cur.toList.take ((n + m) * size)).take (n * size) = (xs ++ ys).take (n * size) := by rw [htake]
  rw [List.take_take, Nat.min_eq_left (Nat.mul_le_mul_right _ (Nat.le_add_right _ _)), ← hx, List.take_left] at h3
  rw [← hx]; exact h3
theorem gexec_append {ρ : Operand → Value} {o : Oper} {s x : Operand} {T : TypeId} {v u r : Value} {w w' : World} (ho : o.op = .call { callee := .builtin .append, args := #[s, x], argTypes := #[T, T] }) (hs : ρ s = v) (hx : ρ x = u)
  (hr : (Builtin.append_ #[T, T] o.type #[v, u]).run Tryz.prog w = .ok r w') : (execOp ρ o).run Tryz.prog w = .ok (.value r) w' := by
 unfold execOp
 simp only [ho, resolve, invoke, builtin, Sem.run_bind, Sem.run_pure, Result.andThen_ok, List.map_toArray, List.map_cons, List.map_nil, hs, hx, hr]
theorem run_gapp (w : World) (ty : TypeId) (S : Nat) (v : Value) (xs : List R.α) (hown : w.ownsRow S R.T R.K v xs.length (gflat R xs)) (b : Nat) (y : R.α) (hy : GC R w b 0 y) (hl : xs.length ≤ 3000) (hS : S ≤ w.heap.size) :
  ∃ g cap w', (Builtin.append_ #[R.SL, R.SL] ty #[v, .slice (some ⟨b, 0, none⟩) 1 1]).run Tryz.prog w = .ok (.slice (some ⟨g, 0, none⟩) (xs.length + 1) cap) w' ∧ w'.ownsRow S R.T R.K (.slice (some ⟨g, 0, none⟩) (xs.length + 1) cap) (xs ++ [y]).length (gflat R (xs ++ [y])) ∧ w.grownBy w' v.ownBlock ∧ w'.ownsRow S R.T R.K v xs.length (gflat R xs) := by
 obtain ⟨i0, hi, hz0, hz1, hz2⟩ := info_parts R.hinfo
 have hzs := R.hz
 have hbb := R.hb
 have hpos := R.hK
 have e : gflat R (xs ++ [y]) = gflat R xs ++ R.cl y := by rw [gflat_app, gflat_one]
 have e2 : (xs ++ [y]).length = xs.length + 1 := by simp
 have hnews : ∀ j u, (R.cl y)[j]? = some u → w.cell? ((⟨b, 0, none⟩ : Addr).add j) = some u := fun j u hj => by
  have := (List.getElem?_eq_some_iff.1 hj).1
  rw [R.hcl] at this
  rw [add_spot', hy j this]; exact hj
 have hone : ∀ u ∈ R.cl y, u.oneCell' = true := R.hone y
 have hfl := gflat_len R xs
 have hcl1 : (R.cl y).length = 1 * R.K := by rw [R.hcl, Nat.one_mul]
 have hby : (xs.length + 1) * R.bytes ≤ 140737488355328 := Nat.le_trans (Nat.mul_le_mul (show xs.length + 1 ≤ 3001 by omega) hbb) (by decide)
 rw [e, e2]
 rcases hown.2 with ⟨rfl, h0⟩ | ⟨g, cap, cur, rfl, hg1, hg2, _⟩
 ·obtain ⟨v', w', hr, h2, h3, _, _⟩ := run_append_own_at (P := Tryz.prog) w S R.SL ty R.T i0 R.zero R.K R.bytes R.hSL hi hz0 hz1 hz2 hzs hpos (.slice none 0 0) xs.length (gflat R xs) hown ⟨b, 0, none⟩ 1 1 (R.cl y) hcl1 hnews hone (by unfold maxLen; omega) hby hS
  obtain ⟨g, cap, rfl⟩ : ∃ g cap, v' = .slice (some ⟨g, 0, none⟩) (xs.length + 1) cap := by
   rcases h2.2 with ⟨_, h0⟩ | ⟨g, cap, _, rfl, _⟩
   ·omega
   ·exact ⟨g, cap, rfl⟩
  exact ⟨g, cap, w', hr, h2, h3, ⟨hown.1, .inl ⟨rfl, h0⟩⟩⟩
 ·by_cases hroom : xs.length + 1 ≤ cap
  ·obtain ⟨w', hr, h2, h3⟩ := run_append_fits (P := Tryz.prog) w S R.SL ty R.T i0 R.K R.hSL hi hz1 g xs.length cap (gflat R xs) hown ⟨b, 0, none⟩ 1 1 (R.cl y) hcl1 hnews hone hroom
   exact ⟨g, cap, w', hr, h2, h3, gown_prefix h2 hfl⟩
  ·obtain ⟨v', w', hr, h2, h3⟩ := run_append_arg_grows (P := Tryz.prog) w R.SL ty R.T i0 R.zero R.K R.bytes R.hSL hi hz0 hz1 hz2 hzs hpos ⟨g, 0, none⟩ xs.length cap (gflat R xs) hfl (hown.cells rfl) ⟨b, 0, none⟩ 1 1 (R.cl y) hcl1 hnews (by omega) (by unfold maxLen; omega) hby
   obtain ⟨g', cap', rfl⟩ : ∃ g cap, v' = .slice (some ⟨g, 0, none⟩) (xs.length + 1) cap := by
    rcases h2.2 with ⟨_, h0⟩ | ⟨g, cap, _, rfl, _⟩
    ·omega
    ·exact ⟨g, cap, rfl⟩
   exact ⟨g', cap', w', hr, gown_mono h2 hS, ⟨h3.os, h3.tape, h3.output, h3.size, fun k hk _ => h3.block k hk (by simp)⟩, hown.kept h3 (.inr (by simp [Value.ownBlock]))⟩
theorem gapp1_any {ops : Array Oper} {rest : List Oper} {o : Oper} {a : Act} {Q : Exit → Act → World → Prop} {W : World} (hgd : o.guard = none) (s x : Operand)
  (ho : o.op = .call { callee := .builtin .append, args := #[s, x], argTypes := #[R.SL, R.SL] }) (w : World) (y : R.α) (T : TypeId) (hW : W = w.alloc (.cells (R.cl y).toArray T)) (S : Nat) (v : Value) (xs : List R.α)
  (hs : a.eval s = v) (hx : a.eval x = .slice (some ⟨w.heap.size, 0, none⟩) 1 1) (hown : w.ownsRow S R.T R.K v xs.length (gflat R xs)) (hl : xs.length ≤ 3000) (hS : S ≤ w.heap.size)
  (h : ∀ g cap w', w'.ownsRow S R.T R.K (.slice (some ⟨g, 0, none⟩) (xs.length + 1) cap) (xs ++ [y]).length (gflat R (xs ++ [y])) → Below S w w' → wpList Tryz.prog ops Q rest (a.put o.dst (.slice (some ⟨g, 0, none⟩) (xs.length + 1) cap)) w') : wpList Tryz.prog ops Q (o :: rest) a W := by
 subst hW
 have hb : Below S w (w.alloc (.cells (R.cl y).toArray T)) := (Below.refl S w).alloc hS _
 obtain ⟨g, cap, w', hr, h2, h3, _⟩ := run_gapp (w.alloc (.cells (R.cl y).toArray T)) o.type S v xs (hown.alloc _) w.heap.size y (gc_alloc R w y _ rfl T) hl (by simp; omega)
 refine wpList_plain hgd fun K hK => ?_
 unfold Oper.wp
 rw [gexec_append ho hs hx hr]
 exact hK _ _ (h g cap w' h2 (hb.grown h3 (by simp; omega) (fun k hk => (hown.lt k hk).1)))
end Go.Proofs.YtjghebcnmoojmaaGreat

namespace Go.Proofs.YtjghebcnmoojmaaGreat
set_option maxRecDepth 100000
open Go.RowKit

theorem run_conv_zero (w : World) (p : Option Addr) (c : Nat) : (convert 26 9 (.slice p 0 c)).run Tryz.prog w = .ok (.string ByteArray.empty) w := by
 cases p with
 | none => exact run_convert_bytes_nil w 26 5 Tryz.underlying26 Tryz.underlying5 0 c 9 Tryz.underlying9
 | some x =>
  have hl : (loadCells x 0).run Tryz.prog w = .ok (([] : List Int).map (Value.int .u8)).toArray w := run_loadCells_list (P := Tryz.prog) w x [] (fun j v hj => by cases hj)
  rw [run_convert_bytes_string w 26 9 5 _ 0 c Tryz.underlying26 Tryz.underlying5 Tryz.underlying9, run_bytesToString w _ 0 c [] hl]
  rfl
theorem Bs_conv {w : World} {v : Value} {xs : List Int} (h : Bs w v xs) : (convert 26 9 v).run Tryz.prog w = .ok (.string (strOfNums xs)) w := by
 obtain ⟨h1, h2, ⟨a, cap, rfl, -, rfl⟩ | ⟨b, off, cap, rfl, h5, h6⟩⟩ := h
 ·exact run_conv_zero w a cap
 ·exact run_convert_bytes_arg w 26 5 Tryz.underlying26 Tryz.underlying5 b off _ cap xs rfl h6 9 Tryz.underlying9
theorem Bs_lit {w : World} (cs : List Int) (T : TypeId) (h : ∀ x ∈ cs, 0 ≤ x ∧ x < 256) (hl : cs.length ≤ 9) (o : Obj) (ho : o = .cells (cs.map (Value.int .u8)).toArray T) (g : Nat) (hg : g = w.heap.size) (n : Nat) (hn : n = cs.length) : Bs (w.alloc o) (.slice (some ⟨g, 0, none⟩) n n) cs := by
 subst ho hg hn
 refine ⟨h, by omega, .inr ⟨_, 0, _, rfl, Nat.le_refl _, fun i hi => ?_⟩⟩
 rw [cell_of_row _ _ _ _ _ _ (heap_alloc_new w _)]
 simp [List.getD, hi]
end Go.Proofs.YtjghebcnmoojmaaGreat

namespace Go.Proofs.YtjghebcnmoojmaaGreat
set_option maxRecDepth 100000
open Go.RowKit

theorem lo_succ (v : Int) (n : Nat) : lo v (n + 1) = lo (v / 256) n ++ [v % 256] := by
 unfold lo
 rw [List.range_succ, List.map_append]
 congr 1
 ·refine List.map_congr_left fun i hi => ?_
  have hi' := List.mem_range.1 hi
  rw [show n + 1 - 1 - i = (n - 1 - i) + 1 from by omega, Int.pow_succ, Int.mul_comm, ← Int.ediv_ediv_of_nonneg (by omega)]
 ·simp
theorem lo_len (v : Int) (n : Nat) : (lo v n).length = n := by simp [lo]
theorem lo_bytes (v : Int) (n : Nat) : ∀ x ∈ lo v n, 0 ≤ x ∧ x < 256 := by
 intro x hx
 obtain ⟨i, _, rfl⟩ := List.mem_map.1 hx
 omega
theorem be_lo (v : Int) (n : Nat) : be (lo v n) = v % pow256 n := by
 induction n generalizing v with
 | zero => simp [lo, be, pow256]
 | succ n ih =>
  rw [lo_succ, be_snoc, ih]
  have h1 := Int.emod_add_mul_ediv v 256
  have hp := pow256_pos n
  have h2 := Int.emod_add_mul_ediv (v / 256) (pow256 n)
  have h3 : v % (256 * pow256 n) = 256 * (v / 256 % pow256 n) + v % 256 := by
   have e : v = (256 * (v / 256 % pow256 n) + v % 256) + (256 * pow256 n) * (v / 256 / pow256 n) := by
    rw [Int.mul_assoc]; omega
   conv => lhs; rw [e]
   rw [Int.add_mul_emod_self_left]
   have b1 := Int.emod_nonneg (v / 256) (b := pow256 n) (by omega)
   have b2 := Int.emod_lt_of_pos (v / 256) (b := pow256 n) (by omega)
   exact Int.emod_eq_of_lt (by omega) (by omega)
  simp only [pow256]
  rw [h3]
theorem lo_be (xs : List Int) (h : ∀ x ∈ xs, 0 ≤ x ∧ x < 256) : lo (be xs) xs.length = xs := by
  have key : ∀ n (l : List Int), l.length = n → (∀ x ∈ l, 0 ≤ x ∧ x < 256) → lo (be l) l.length = l := by
    intro n
    induction n with
    | zero => intro l hl _; obtain rfl := List.length_eq_zero_iff.1 hl; rfl
    | succ n ih =>
      intro l hl h
      have hne : l ≠ [] := by intro e; subst e; simp at hl
      have e := (List.dropLast_concat_getLast hne).symm
      have hd : l.dropLast.length = n := by simp [hl]
      have hp := ih l.dropLast hd (fun x hx => h x (List.dropLast_subset _ hx))
      have hq := h (l.getLast hne) (List.getLast_mem hne)
      rw [hl, lo_succ]
      rw [hd] at hp
      have e1 : be l = 256 * be l.dropLast + l.getLast hne := by conv => lhs; rw [e]
                                                                 exact be_snoc _ _
      rw [e1, show (256 * be l.dropLast + l.getLast hne) / 256 = be l.dropLast from by omega, show (256 * be l.dropLast + l.getLast hne) % 256 = l.getLast hne from by omega, hp]
      exact e.symm
  exact key _ xs rfl h
theorem be_putB {v n : Int} (h : PutOk v n) : be (putB v n) = v := by
 rw [putB, if_pos h, be_lo]; exact Int.emod_eq_of_lt h.2.2.1 h.2.2.2
theorem putB_len {v n : Int} (h : PutOk v n) : (putB v n).length = n.toNat := by rw [putB, if_pos h, lo_len]
theorem seg_mid (f b m : List Int) : segN (f ++ (b ++ m)) f.length b.length = be b := by
 unfold segN; rw [List.drop_left, List.take_left]
theorem back_get (f m : List Int) {v n : Int} (h : PutOk v n) : getS (f ++ (putB v n ++ m)) f.length n = (v, (f.length : Int) + n, 0) := by
 have hl := putB_len h
 have hs := seg_mid f (putB v n) m
 rw [be_putB h, hl] at hs
 obtain ⟨h1, h2, _, _⟩ := h
 unfold getS
 have e : ((f ++ (putB v n ++ m)).length : Int) = f.length + n + m.length := by simp [hl]; omega
 rw [if_neg (by rw [e]; omega), if_neg (by rw [e]; omega), Int.toNat_natCast, hs]
theorem back_getInt (f m : List Int) {v : Int} (h : -9223372036854775808 ≤ v) (h' : v < 9223372036854775808) : getIntS (f ++ (lo (IntKind.u64.wrap v) 8 ++ m)) f.length = (v, (f.length : Int) + 8, 0) := by
 have hs := seg_mid f (lo (IntKind.u64.wrap v) 8) m
 rw [be_lo, lo_len] at hs
 unfold getIntS
 have e : ((f ++ (lo (IntKind.u64.wrap v) 8 ++ m)).length : Int) = f.length + 8 + m.length := by simp [lo_len]; omega
 have e8 : pow256 8 = 18446744073709551616 := by decide
 rw [if_neg (by rw [e]; omega), if_neg (by rw [e]; omega), Int.toNat_natCast, hs, e8, IntKind.wrap_u64]
 refine Prod.ext ?_ rfl
 simp only [wrap64]
 omega
end Go.Proofs.YtjghebcnmoojmaaGreat
