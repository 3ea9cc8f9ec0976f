/- Plain words on bytes in memory, and the checksums' contracts. No conditions. The contracts of what only reads: the reference's sum, the powers, reading a number. No conditions. The reference's readers: their contracts. No conditions. -/
import Derived.Test.YtjghebcnmoojmaaGreatRows
import Derived.WalkKit
import Derived.ProofKit
import Derived.OpenShut
import Derived.ShutString
import Derived.ChangeOld
import Derived.Below
import Derived.LoopTactic
import Derived.Lib.Hide
import Derived.Outline
import Derived.Laws.BytesArg
namespace Go.Proofs.YtjghebcnmoojmaaGreat
set_option maxRecDepth 100000
open Go.RowKit

def Bs (w : World) (v : Value) (xs : List Int) : Prop :=
 (∀ x ∈ xs, 0 ≤ x ∧ x < 256) ∧ xs.length ≤ 9223372036854775807 ∧
 ((∃ a cap, v = .slice a 0 cap ∧ (a = none → cap = 0) ∧ xs = []) ∨
 ∃ b off cap, v = .slice (some ⟨b, off, none⟩) xs.length cap ∧ xs.length ≤ cap ∧ ∀ i, i < xs.length → w.cell? ⟨b, off + i, none⟩ = some (.int .u8 (xs.getD i 0)))
def stepS (p : Int × Int) (x : Int) : Int × Int := ((p.1 + x) % 251, (p.2 + (p.1 + x) % 251) % 251)
def sumP (xs : List Int) : Int × Int := xs.foldl stepS (1, 0)
def sumN (xs : List Int) : Int := 256 * (sumP xs).2 + (sumP xs).1
theorem sumP_bd (xs : List Int) : 0 ≤ (sumP xs).1 ∧ (sumP xs).1 < 251 ∧ 0 ≤ (sumP xs).2 ∧ (sumP xs).2 < 251 := by
 have key : ∀ (l : List Int) (p : Int × Int), (0 ≤ p.1 ∧ p.1 < 251 ∧ 0 ≤ p.2 ∧ p.2 < 251) →
   0 ≤ (l.foldl stepS p).1 ∧ (l.foldl stepS p).1 < 251 ∧ 0 ≤ (l.foldl stepS p).2 ∧ (l.foldl stepS p).2 < 251 := by
  intro l
  induction l with
  | nil => intro p h; exact h
  | cons x l ih => intro p h; exact ih _ ⟨by simp only [stepS]; omega, by simp only [stepS]; omega, by simp only [stepS]; omega, by simp only [stepS]; omega⟩
 exact key xs (1, 0) ⟨by decide, by decide, by decide, by decide⟩
theorem sumP_snoc (xs : List Int) (k : Nat) (h : k < xs.length) : sumP (xs.take (k + 1)) = stepS (sumP (xs.take k)) (xs.getD k 0) := by
 unfold sumP
 rw [List.take_succ_eq_append_getElem h, List.foldl_append]
 simp [List.getD, h]
theorem val_int {k : IntKind} {a b : Int} (h : a = b) : Value.int k a = .int k b := by rw [h]
theorem Bs_at {w : World} {xs : List Int} {b off : Nat} (hx : ∀ x ∈ xs, 0 ≤ x ∧ x < 256) (hc : ∀ i, i < xs.length → w.cell? ⟨b, off + i, none⟩ = some (.int .u8 (xs.getD i 0))) (k : Nat) (h : k < xs.length) :
  ∃ c : Int, Hid (xs.getD k 0 = c) ∧ 0 ≤ c ∧ c < 256 ∧ w.cell? ⟨b, off + k, none⟩ = some (.int .u8 c) := by
 have e : xs.getD k 0 = xs[k] := by simp [List.getD, h]
 have := hx xs[k] (List.getElem_mem h)
 exact ⟨xs[k], e, this.1, this.2, by rw [hc k h, e]⟩
set_option maxHeartbeats 400000 in
theorem sum_any (v : Value) (xs : List Int) (w : World) (hv : Bs w v xs) :
  Calls Tryz.prog 24 #[v] w fun e w' => e = .returned (.int .i64 (sumN xs)) ∧ w = w' := by
 obtain ⟨hx, hl, ⟨a, cap, rfl, -, rfl⟩ | ⟨b, off, cap, rfl, hcap, hc⟩⟩ := hv
 ·go_enter Tryz.func24, Tryz.ntmps24
  go_wp2
  go_loop [3, 4, 6, 9] (fun p q _ i => p = .int .i64 1 ∧ q = .int .i64 0 ∧ i = .int .i64 0) (fun _ _ _ _ => 0)
  case atStart => exact ⟨rfl, rfl, rfl⟩
  case round =>
   obtain ⟨rfl, rfl, rfl⟩ := hrel
   go_wp2
   go_ret
   exact ⟨rfl, rfl⟩
 ·go_enter Tryz.func24, Tryz.ntmps24
  go_wp2
  go_loop [3, 4, 6, 9] (fun p q _ i => ∃ k : Nat, k ≤ xs.length ∧ i = .int .i64 k ∧ p = .int .i64 (sumP (xs.take k)).1 ∧ q = .int .i64 (sumP (xs.take k)).2) (fun _ _ _ i => xs.length - (intOf i).toNat)
  case atStart => exact ⟨0, Nat.zero_le _, rfl, rfl, rfl⟩
  case round =>
   obtain ⟨k, hk, rfl, rfl, rfl⟩ := hrel
   obtain ⟨h1, h2, h3, h4⟩ := sumP_bd (xs.take k)
   by_cases hlt : k < xs.length
   ·obtain ⟨c, hg, b1, b2, hck⟩ := Bs_at hx hc k hlt
    have hs := Lib.hid (sumP_snoc xs k hlt)
    clear hx hc
    go_wp2
    go_round
    case rel => exact ⟨k + 1, by omega, by go_num, by rw [hs.out, hg.out]; rfl, by rw [hs.out, hg.out]; rfl⟩
    case measure => simp [intOf]; omega
   ·obtain rfl : k = xs.length := by omega
    rw [List.take_length] at h1 h2 h3 h4
    go_wp2
    go_ret
    exact ⟨rfl, rfl⟩
end Go.Proofs.YtjghebcnmoojmaaGreat

namespace Go.Proofs.YtjghebcnmoojmaaGreat
set_option maxRecDepth 100000
open Go.RowKit

def pow256 : Nat → Int
 | 0 => 1
 | n + 1 => 256 * pow256 n
theorem pow256_pos (n : Nat) : 1 ≤ pow256 n := by
 induction n with
 | zero => decide
 | succ n ih => simp only [pow256]; omega
theorem pow256_le {n m : Nat} (h : n ≤ m) : pow256 n ≤ pow256 m := by
  induction m with
  | zero => obtain rfl : n = 0 := by omega
            exact Int.le_refl _
  | succ m ih =>
    rcases Nat.lt_or_ge m n with h' | h'
    · obtain rfl : n = m + 1 := by omega
      exact Int.le_refl _
    · have := ih h'; have := pow256_pos m; simp only [pow256]; omega
theorem pow256_seven : pow256 7 = 72057594037927936 := by decide
theorem pow256_small {n : Nat} (h : n ≤ 7) : pow256 n ≤ 72057594037927936 := by
 have := pow256_le h; rw [pow256_seven] at this; exact this
def be (xs : List Int) : Int := xs.foldl (fun a x => 256 * a + x) 0
theorem be_snoc (xs : List Int) (c : Int) : be (xs ++ [c]) = 256 * be xs + c := by simp [be, List.foldl_append]
theorem be_bd (xs : List Int) (hx : ∀ x ∈ xs, 0 ≤ x ∧ x < 256) : 0 ≤ be xs ∧ be xs < pow256 xs.length := by
 have key : ∀ n (l : List Int), l.length = n → (∀ x ∈ l, 0 ≤ x ∧ x < 256) → 0 ≤ be l ∧ be l < pow256 l.length := by
  intro n
  induction n with
  | zero => intro l hl _; obtain rfl := List.length_eq_zero_iff.1 hl; exact ⟨by decide, by decide⟩
  | succ n ih =>
   intro l hl h
   have hne : l ≠ [] := by intro e; subst e; simp at hl
   have e := (List.dropLast_concat_getLast hne).symm
   have hd : l.dropLast.length = n := by simp [hl]
   have hp := ih l.dropLast hd (fun x hx => h x (List.dropLast_subset _ hx))
   have hq := h (l.getLast hne) (List.getLast_mem hne)
   rw [e, be_snoc]
   simp only [List.length_append, List.length_cons, List.length_nil, hd, pow256] at hp ⊢
   have : pow256 (n + (0 + 1)) = 256 * pow256 n := rfl
   omega
 exact key _ xs rfl hx
theorem shl_or (B c : Int) (h0 : 0 ≤ B) (h1 : B < 72057594037927936) (b1 : 0 ≤ c) (b2 : c < 256) : bits .or .u64 (IntKind.u64.wrap (B * 256)) c = 256 * B + c := by
 have e : IntKind.u64.wrap (B * 256) = B * 256 := by rw [IntKind.wrap_u64]; omega
 rw [e, bits_join .u64 64 (by decide) (fun n h1 h2 => by rw [IntKind.wrap_u64]; exact Int.emod_eq_of_lt h1 (by simpa using h2)) 8 (B * 256) c (by omega) (by omega) (by omega) b1 (by omega) (by omega)]
 omega
theorem be_step (xs : List Int) (k j : Nat) (h : k + j < xs.length) : be ((xs.drop k).take (j + 1)) = 256 * be ((xs.drop k).take j) + xs.getD (k + j) 0 := by
 rw [List.take_succ_eq_append_getElem (by simp; omega), be_snoc]
 simp [List.getD, h]
theorem seg_bytes {xs : List Int} (hx : ∀ x ∈ xs, 0 ≤ x ∧ x < 256) (k j : Nat) : ∀ x ∈ (xs.drop k).take j, 0 ≤ x ∧ x < 256 :=
 fun x h => hx x (List.drop_subset _ _ (List.take_subset _ _ h))
theorem be_seg_bd {xs : List Int} (hx : ∀ x ∈ xs, 0 ≤ x ∧ x < 256) (k j : Nat) (h : j ≤ 7) : 0 ≤ be ((xs.drop k).take j) ∧ be ((xs.drop k).take j) < 72057594037927936 := by
 have h1 := be_bd _ (seg_bytes hx k j)
 have h2 : pow256 ((xs.drop k).take j).length ≤ 72057594037927936 := pow256_small (by simp; omega)
 omega
set_option maxHeartbeats 400000 in
theorem read_ok (v : Value) (xs : List Int) (k n : Nat) (w : World) (hv : Bs w v xs) (h1 : 1 ≤ n) (h8 : n ≤ 8) (hk : k + n ≤ xs.length) :
  Calls Tryz.prog 72 #[v, .int .i64 k, .int .i64 n] w fun e w' => e = .returned (.tuple #[.int .i64 (wrap64 (be ((xs.drop k).take n))), .int .i64 ((k : Int) + (n : Int)), .int .i64 0]) ∧ w = w' := by
 obtain ⟨hx, hl, ⟨a, cap, rfl, -, rfl⟩ | ⟨b, off, cap, rfl, hcap, hc⟩⟩ := hv
 ·simp at hk; omega
 ·have i1 : (k : Int) ≤ (xs.length : Int) := by omega
  have i2 : (n : Int) ≤ (xs.length : Int) - (k : Int) := by omega
  have i3 : (k : Int) + (n : Int) ≤ (cap : Int) := by omega
  go_enter Tryz.func72, Tryz.ntmps72
  go_wp2
  go_loop [9, 11, 33] (fun a _ i => ∃ j : Nat, j ≤ n ∧ i = .int .i64 j ∧ a = .int .u64 (be ((xs.drop k).take j))) (fun _ _ i => n - (intOf i).toNat)
  case atStart => exact ⟨0, Nat.zero_le _, rfl, rfl⟩
  case round =>
   obtain ⟨j, hj, rfl, rfl⟩ := hrel
   by_cases hlt : j < n
   ·obtain ⟨c, hg, b1, b2, hck⟩ := Bs_at hx hc (k + j) (by omega)
    have hs := Lib.hid (be_step xs k j (by omega))
    have hd := Lib.hid (be_seg_bd hx k j (by omega))
    rw [← Nat.add_assoc] at hck
    clear hx hc
    go_wp2
    go_round
    case rel => exact ⟨j + 1, by omega, by go_num, val_int (by rw [hs.out, hg.out]; exact shl_or _ _ hd.out.1 hd.out.2 b1 b2)⟩
    case measure => simp [intOf]; omega
   ·obtain rfl : j = n := by omega
    clear hx hc
    go_wp2
    go_ret3
    exact ⟨rfl, rfl⟩
set_option maxHeartbeats 400000 in
theorem read_arg (v : Value) (xs : List Int) (k n : Int) (w : World) (hv : Bs w v xs) (hk : k < 0 ∨ (xs.length : Int) < k) :
  Calls Tryz.prog 72 #[v, .int .i64 k, .int .i64 n] w fun e w' => e = .returned (.tuple #[.int .i64 0, .int .i64 0, .int .i64 1]) ∧ w = w' := by
 obtain ⟨hx, hl, ⟨a, cap, rfl, -, rfl⟩ | ⟨b, off, cap, rfl, hcap, hc⟩⟩ := hv
 all_goals
  first | simp only [List.length_nil, Int.ofNat_zero] at hk | skip
  rcases hk with hk | hk
 all_goals
  go_enter Tryz.func72, Tryz.ntmps72
  go_wp2
  go_ret3
  exact ⟨rfl, rfl⟩
set_option maxHeartbeats 400000 in
theorem read_more (v : Value) (xs : List Int) (k n : Int) (w : World) (hv : Bs w v xs) (h0 : 0 ≤ k) (hk : k ≤ (xs.length : Int)) (hn : (xs.length : Int) - k < n) :
  Calls Tryz.prog 72 #[v, .int .i64 k, .int .i64 n] w fun e w' => e = .returned (.tuple #[.int .i64 0, .int .i64 0, .int .i64 6]) ∧ w = w' := by
 obtain ⟨hx, hl, ⟨a, cap, rfl, -, rfl⟩ | ⟨b, off, cap, rfl, hcap, hc⟩⟩ := hv
 ·simp only [List.length_nil] at hk hn
  have hk0 : k = 0 := by omega
  subst hk0
  have hn' : (0 : Int) < n := by omega
  clear hn
  go_enter Tryz.func72, Tryz.ntmps72
  go_wp2
  go_ret3
  exact ⟨rfl, rfl⟩
 ·go_enter Tryz.func72, Tryz.ntmps72
  go_wp2
  go_ret3
  exact ⟨rfl, rfl⟩
def segN (xs : List Int) (k n : Nat) : Int := be ((xs.drop k).take n)
def getS (xs : List Int) (k n : Int) : Int × Int × Int :=
 if n < 1 ∨ 7 < n ∨ k < 0 ∨ (xs.length : Int) < k then (0, 0, 1)
 else if (xs.length : Int) - k < n then (0, 0, 6)
 else (segN xs k.toNat n.toNat, k + n, 0)
def getIntS (xs : List Int) (k : Int) : Int × Int × Int :=
 if k < 0 ∨ (xs.length : Int) < k then (0, 0, 1)
 else if (xs.length : Int) - k < 8 then (0, 0, 6)
 else (wrap64 (segN xs k.toNat 8), k + 8, 0)
def tri (r : Int × Int × Int) : Value := .tuple #[.int .i64 r.1, .int .i64 r.2.1, .int .i64 r.2.2]
theorem wrap64_seven {xs : List Int} (hx : ∀ x ∈ xs, 0 ≤ x ∧ x < 256) (k n : Nat) (h : n ≤ 7) : wrap64 (segN xs k n) = segN xs k n := by
 have := be_seg_bd hx k n h
 unfold wrap64 segN
 omega
set_option maxHeartbeats 400000 in
theorem get_any (v : Value) (xs : List Int) (k n : Int) (w : World) (hv : Bs w v xs) :
  Calls Tryz.prog 53 #[v, .int .i64 k, .int .i64 n] w fun e w' => e = .returned (tri (getS xs k n)) ∧ w = w' := by
 by_cases c1 : n < 1 ∨ 7 < n
 ·have hf : tri (getS xs k n) = .tuple #[.int .i64 0, .int .i64 0, .int .i64 1] := by
   unfold getS; rw [if_pos (by omega)]; rfl
  rw [hf]
  clear hf
  rcases c1 with c1 | c1
  all_goals
   go_enter Tryz.func53, Tryz.ntmps53
   go_wp2
   go_ret3
   exact ⟨rfl, rfl⟩
 ·have n1 : 1 ≤ n := by omega
  have n7 : n ≤ 7 := by omega
  clear c1
  by_cases c2 : k < 0 ∨ (xs.length : Int) < k
  ·have hf : tri (getS xs k n) = .tuple #[.int .i64 0, .int .i64 0, .int .i64 1] := by
    unfold getS; rw [if_pos (by omega)]; rfl
   rw [hf]
   clear hf
   have H := Lib.hid c2
   clear c2
   go_enter Tryz.func53, Tryz.ntmps53
   go_wp2_with (go_at_call 72; refine (read_arg v xs k n _ hv H.out).mono ?_; rintro e w' ⟨rfl, rfl⟩)
   go_ret3
   exact ⟨rfl, rfl⟩
  ·have k0 : 0 ≤ k := by omega
   have k1 : k ≤ (xs.length : Int) := by omega
   clear c2
   by_cases c3 : (xs.length : Int) - k < n
   ·have hf : tri (getS xs k n) = .tuple #[.int .i64 0, .int .i64 0, .int .i64 6] := by
     unfold getS; rw [if_neg (by omega), if_pos c3]; rfl
    rw [hf]
    clear hf
    go_enter Tryz.func53, Tryz.ntmps53
    go_wp2_with (go_at_call 72; refine (read_more v xs k n _ hv k0 k1 c3).mono ?_; rintro e w' ⟨rfl, rfl⟩)
    go_ret3
    exact ⟨rfl, rfl⟩
   ·obtain ⟨K, rfl⟩ := Int.eq_ofNat_of_zero_le k0
    obtain ⟨N, rfl⟩ := Int.eq_ofNat_of_zero_le (show (0 : Int) ≤ n by omega)
    have hf : Hid (tri (getS xs K N) = .tuple #[.int .i64 (wrap64 (be ((xs.drop K).take N))), .int .i64 ((K : Int) + (N : Int)), .int .i64 0]) := by
     unfold getS; rw [if_neg (by omega), if_neg c3]
     have := wrap64_seven hv.1 K N (by omega)
     unfold segN at this
     simp only [tri, Int.toNat_natCast]
     rw [this]
     rfl
    go_enter Tryz.func53, Tryz.ntmps53
    go_wp2_with (go_at_call 72; refine (read_ok v xs K N _ hv (by omega) (by omega) (by omega)).mono ?_; rintro e w' ⟨rfl, rfl⟩)
    go_ret3
    exact ⟨congrArg Ending.returned hf.out.symm, rfl⟩
set_option maxHeartbeats 400000 in
theorem getInt_any (v : Value) (xs : List Int) (k : Int) (w : World) (hv : Bs w v xs) :
  Calls Tryz.prog 153 #[v, .int .i64 k] w fun e w' => e = .returned (tri (getIntS xs k)) ∧ w = w' := by
 by_cases c2 : k < 0 ∨ (xs.length : Int) < k
 ·have hf : tri (getIntS xs k) = .tuple #[.int .i64 0, .int .i64 0, .int .i64 1] := by
   unfold getIntS; rw [if_pos (by omega)]; rfl
  rw [hf]
  clear hf
  have H := Lib.hid c2
  clear c2
  go_enter Tryz.func153, Tryz.ntmps153
  go_wp2_with (go_at_call 72; refine (read_arg v xs k 8 _ hv H.out).mono ?_; rintro e w' ⟨rfl, rfl⟩)
  go_ret3
  exact ⟨rfl, rfl⟩
 ·have k0 : 0 ≤ k := by omega
  have k1 : k ≤ (xs.length : Int) := by omega
  clear c2
  by_cases c3 : (xs.length : Int) - k < 8
  ·have hf : tri (getIntS xs k) = .tuple #[.int .i64 0, .int .i64 0, .int .i64 6] := by
    unfold getIntS; rw [if_neg (by omega), if_pos c3]; rfl
   rw [hf]
   clear hf
   go_enter Tryz.func153, Tryz.ntmps153
   go_wp2_with (go_at_call 72; refine (read_more v xs k 8 _ hv k0 k1 c3).mono ?_; rintro e w' ⟨rfl, rfl⟩)
   go_ret3
   exact ⟨rfl, rfl⟩
  ·obtain ⟨K, rfl⟩ := Int.eq_ofNat_of_zero_le k0
   have hf : Hid (tri (getIntS xs K) = .tuple #[.int .i64 (wrap64 (be ((xs.drop K).take 8))), .int .i64 ((K : Int) + ((8 : Nat) : Int)), .int .i64 0]) := by
    unfold getIntS; rw [if_neg (by omega), if_neg c3]; rfl
   go_enter Tryz.func153, Tryz.ntmps153
   go_wp2_with (go_at_call 72; refine (read_ok v xs K 8 _ hv (by omega) (by omega) (by omega)).mono ?_; rintro e w' ⟨rfl, rfl⟩)
   go_ret3
   exact ⟨congrArg Ending.returned hf.out.symm, rfl⟩
end Go.Proofs.YtjghebcnmoojmaaGreat

namespace Go.Proofs.YtjghebcnmoojmaaGreat
set_option maxRecDepth 100000
open Go.RowKit

theorem seg_step {xs : List Int} (k j : Nat) (h : k + j < xs.length) : segN xs k (j + 1) = 256 * segN xs k j + xs.getD (k + j) 0 := be_step xs k j h
theorem seg_bd {xs : List Int} (hx : ∀ x ∈ xs, 0 ≤ x ∧ x < 256) (k j : Nat) : 0 ≤ segN xs k j ∧ segN xs k j < pow256 j := by
 have h1 := be_bd _ (seg_bytes hx k j)
 have h2 := pow256_le (n := ((xs.drop k).take j).length) (m := j) (by simp; omega)
 unfold segN
 omega
theorem getD_byte {xs : List Int} (hx : ∀ x ∈ xs, 0 ≤ x ∧ x < 256) {k : Nat} (h : k < xs.length) : 0 ≤ xs.getD k 0 ∧ xs.getD k 0 < 256 := by
 have e : xs.getD k 0 = xs[k] := by simp [List.getD, h]
 rw [e]; exact hx _ (List.getElem_mem h)
end Go.Proofs.YtjghebcnmoojmaaGreat
