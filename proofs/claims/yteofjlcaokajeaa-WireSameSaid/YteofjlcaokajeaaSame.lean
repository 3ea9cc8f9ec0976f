/-
  thalweglaw01.WireSame: for any bytes b and numbers at, n the law answers true; no condition.
-/
import Derived.Test.YteofjlcaokajeaaRows
import Derived.Test.YteofjlcaokajeaaPlain
import Derived.Test.YteofjlcaokajeaaTyped
import Derived.BigQuiet
import Derived.Deep.QuietTactic
import Derived.IntWalk
import Derived.WalkKit
import Derived.ProofKit
import Derived.OpenShut
import Derived.ShutString
import Derived.ChangeOld
import Derived.Below
namespace Go.Proofs.Yteofjlcaokajeaa.wireSame
open Go.ChangeShapes Go.WideShapes Go.ChangeAt Go.RowKit
open Go.ChangeMaps (open_string shut_string)
set_option linter.unusedVariables false
set_option linter.unusedSimpArgs false

theorem own : ownKnob Try.prog.godebug = none := by kernel_rfl
theorem laidOut : laidOutB Try.prog = true := by kernel_rfl

def IsRow (k : IntKind) (w : World) (a : Option Addr) (len cap : Nat) (zs : List Int) : Prop :=
  (a = none ∧ len = 0 ∧ cap = 0 ∧ zs = []) ∨
  ∃ x, a = some x ∧ len ≤ cap ∧ cap ≤ maxLen ∧ zs.length = cap ∧ (∀ i, i < zs.length → w.cell? (x.add i) = some (.int k (zs.getD i 0))) ∧ ∀ n ∈ zs, (Lit.int k n).wf = true

theorem bs_of {w : World} {a : Option Addr} {len cap : Nat} {zs : List Int} (h : IsRow .u8 w a len cap zs) : Bs w (.slice a len cap) (zs.take len) ∧ (zs.take len).length = len := by
  rcases h with ⟨rfl, rfl, rfl, rfl⟩ | ⟨x, rfl, hl, hm, hz, hcell, hwz⟩
  · exact ⟨Bs_nil w, rfl⟩
  · have hlen : (zs.take len).length = len := by rw [List.length_take]; omega
    refine ⟨⟨fun n hn => ?_, by rw [hlen]; unfold maxLen at hm; omega, ?_⟩, hlen⟩
    · have := hwz n (List.take_subset _ _ hn)
      have b := bounds_u8 this
      omega
    · by_cases h0 : len = 0
      · subst h0; exact .inl ⟨some x, cap, rfl, (fun h => by cases h), by simp⟩
      · right
        obtain ⟨b, off, spot⟩ := x
        have hc := hcell 0 (by omega)
        have hspot : spot = none := by simpa [Addr.add] using World.cell?_spot hc
        subst hspot
        refine ⟨b, off, cap, by rw [hlen], by rw [hlen]; exact hl, fun i hi => ?_⟩
        have hi' : i < len := by omega
        have := hcell i (by omega)
        have hadd : (⟨b, off, none⟩ : Addr).add i = ⟨b, off + i, none⟩ := by unfold Addr.add; split <;> simp_all
        rw [hadd] at this
        rw [this]
        simp [List.getD, hi']
/-- Part of a row of bytes, as a string, in any world that holds the old cells. -/
theorem part_conv {w W : World} {b off K N : Nat} {xs : List Int} (hc : ∀ i, i < xs.length → w.cell? ⟨b, off + i, none⟩ = some (.int .u8 (xs.getD i 0))) (hW : Below w.heap.size w W) (h : K + N ≤ xs.length) (L C : Nat) (hL : L = N) :
    (convert 22 9 (.slice (some ⟨b, off + K, none⟩) L C)).run Try.prog W = .ok (.string (strOfNums ((xs.drop K).take N))) W := by
  subst hL
  refine run_convert_bytes_arg W 22 5 Try.underlying22 Try.underlying5 b (off + K) L C ((xs.drop K).take L) (by simp; omega) (fun i hi => ?_) 9 Try.underlying9
  have h1 := hc (K + i) (by omega)
  rw [Nat.add_assoc, hW.cell (World.block_lt_of_cell? w _ h1), h1]
  simp [List.getD, hi]
theorem drewN_below (w : World) (n : Nat) : Below w.heap.size w (w.drewN n) := ⟨by simp [World.drewN], by simp [World.drewN], by simp [World.drewN], by simp [World.drewN], fun k _ => by simp [World.drewN]⟩
theorem seg_eight {xs : List Int} {K : Nat} (hx : ∀ x ∈ xs, 0 ≤ x ∧ x < 256) (h : K + 8 ≤ xs.length) : lo (IntKind.u64.wrap (wrap64 (segN xs K 8))) 8 = (xs.drop K).take 8 := by
  have h1 := lo_be ((xs.drop K).take 8) (seg_bytes hx K 8)
  have h2 := seg_bd hx K 8
  have e8 : pow256 8 = 18446744073709551616 := by decide
  rw [show ((xs.drop K).take 8).length = 8 by simp; omega] at h1
  have e : IntKind.u64.wrap (wrap64 (segN xs K 8)) = segN xs K 8 := by
    rw [e8] at h2
    rw [IntKind.wrap_u64]; unfold wrap64; omega
  rw [e]; exact h1

set_option maxHeartbeats 4000000 in
theorem walk (a0 : Option Addr) (len0 cap0 : Nat) (z0 : List Int) (a1 : Int) (a2 : Int) (w : World) (w0 : IsRow .u8 w a0 len0 cap0 z0) (w1 : (Lit.int .i64 a1).wf = true) (w2 : (Lit.int .i64 a2).wf = true) :
    Calls Try.prog 6 #[.slice a0 len0 cap0, .int .i64 a1, .int .i64 a2] w fun e w' => e = .returned (.bool true) ∧ Below w.heap.size w w' := by
  obtain ⟨hb, hlen⟩ := bs_of w0
  generalize z0.take len0 = xs at hb hlen
  subst hlen
  clear w0
  by_cases hbig : (500 : Int) < (xs.length : Int)
  · go_enter Try.func6, Try.ntmps6
    go_wp2_with fail
    go_ret
    exact ⟨rfl, Below.refl _ _⟩
  have hsm : (xs.length : Int) ≤ 500 := by omega
  clear hbig
  by_cases hE : a2 < 1 ∨ 7 < a2 ∨ a1 < 0 ∨ (xs.length : Int) < a1 ∨ (xs.length : Int) - a1 < a2
  · obtain ⟨e1, he, he1⟩ : ∃ e1 : Int, getS xs a1 a2 = (0, 0, e1) ∧ (e1 == 0) = false := by
      by_cases h : a2 < 1 ∨ 7 < a2 ∨ a1 < 0 ∨ (xs.length : Int) < a1
      · exact ⟨1, by unfold getS; rw [if_pos h], rfl⟩
      · exact ⟨6, by unfold getS; rw [if_neg h, if_pos (by omega)], rfl⟩
    have HG := Lib.hid he
    clear he hE
    by_cases hF : a1 < 0 ∨ (xs.length : Int) < a1 ∨ (xs.length : Int) - a1 < 8
    · obtain ⟨z, hz, hz1⟩ : ∃ z : Int, getIntS xs a1 = (0, 0, z) ∧ (z == 0) = false := by
        by_cases h : a1 < 0 ∨ (xs.length : Int) < a1
        · exact ⟨1, by unfold getIntS; rw [if_pos h], rfl⟩
        · exact ⟨6, by unfold getIntS; rw [if_neg h, if_pos (by omega)], rfl⟩
      have HZ := Lib.hid hz
      clear hz hF
      go_enter Try.func6, Try.ntmps6
      go_wp2_with fail
      refine (get_any _ xs a1 a2 _ hb).mono ?_
      rintro e W1 ⟨rfl, rfl⟩
      rw [HG.out]
      unfold tri
      go_wp2_with fail
      refine (getInt_any _ xs a1 _ hb).mono ?_
      rintro e W1 ⟨rfl, rfl⟩
      rw [HZ.out]
      unfold tri
      go_wp2_with fail
      go_quiet (fail)
      have HB3 := Lib.hid (drewN_below w nq)
      generalize w.drewN nq = W3 at HB3 ⊢
      go_wp2_with fail
      refine (awake_any _).mono ?_
      rintro e W5 ⟨rfl, hb5⟩
      have H5 := Lib.hid (HB3.out.trans (hb5.mono HB3.out.size))
      clear hb5
      go_wp2_with fail
      go_ret
      exact ⟨rfl, H5.out⟩
    · obtain ⟨K, rfl⟩ := Int.eq_ofNat_of_zero_le (show (0 : Int) ≤ a1 by omega)
      have h8 : K + 8 ≤ xs.length := by omega
      clear hF
      have hb0 := hb
      obtain ⟨_, _, ⟨a, cap, hv, _, rfl⟩ | ⟨b, off, cap, hv, hcap, hc⟩⟩ := hb0
      · simp at h8
      injection hv with hv1 hv2 hv3
      subst hv1 hv3
      clear hv2
      have i1 : (K : Int) ≤ (xs.length : Int) := by omega
      go_enter Try.func6, Try.ntmps6
      go_wp2_with fail
      refine (get_any _ xs K a2 _ hb).mono ?_
      rintro e W1 ⟨rfl, rfl⟩
      rw [HG.out]
      unfold tri
      go_wp2_with fail
      refine (getInt_any _ xs K _ hb).mono ?_
      rintro e W1 ⟨rfl, rfl⟩
      rw [show getIntS xs K = (wrap64 (segN xs K 8), (K : Int) + 8, 0) by unfold getIntS; rw [if_neg (by omega), if_neg (by omega)]; rfl]
      unfold tri
      have hlo := Lib.hid (show lo (IntKind.u64.wrap (wrap64 (segN xs K 8))) 8 = (xs.drop K).take 8 from seg_eight hb.1 h8)
      have HB2 := Lib.hid (Below.refl w.heap.size w)
      have HC := Lib.hid hc
      clear hc
      have i6 : ¬ cap0 = K := by omega
      have k1 : IntKind.i64.wrap ((K : Int) + 8) = (K : Int) + 8 := IntWalk.i64_in _ (by omega)
      have k2 : (0 : Int) ≤ (K : Int) + 8 := by omega
      have k3 : ((K : Int) + 8).toNat = K + 8 := by omega
      have k4 : (K : Int) + 8 ≤ (cap0 : Int) := by omega
      have k6 : ¬ (xs.length : Int) < (K : Int) + 8 := by omega
      generalize hI : strOfNums ((xs.drop K).take 8) = I
      have hS8 : ∀ W, Below w.heap.size w W → (convert 22 9 (.slice (some ⟨b, off + K, none⟩) 8 (cap0 - K))).run Try.prog W = .ok (.string I) W := fun W hW => by rw [← hI]; exact part_conv HC.out (HB2.out.trans (hW.mono HB2.out.size)) h8 8 _ rfl
      have hrefl : ∀ W : World, Below W.heap.size W W := fun W => Below.refl _ _
      go_wp2_with fail
      refine wp_region_typed (C := fun W => Below w.heap.size w W) (X := fun W W' => Below W.heap.size W W') (n := 92) (by kernel_rfl) (by kernel_rfl) rfl hrefl (Below.refl _ _).drew ?_
      refine w_copy hrefl (.tmp 12) (.inl rfl) (.int .i64 0) (.inl rfl) (fun ρ w _ hf => hf 12 (by decide)) ?_
      refine w_is hrefl (.bool true) (.inl rfl) (fun ρ w hC hc hfn hf => by have e66 : ρ (.tmp 66) = .int .i64 0 := hf 66 (by decide); simp [execOp, go_sem, hc, e66]) ?_
      refine w_copy hrefl (.tmp 67) (.inl rfl) (.bool true) (.inl rfl) (fun ρ w _ hf => hf 67 (by decide)) ?_
      refine w_copy hrefl (.tmp 11) (.inl rfl) (.int .i64 ((K : Int) + 8)) (.inr ⟨2, 68, true, rfl, rfl, known_is rfl⟩) (fun ρ w _ hf => hf 11 (by decide)) ?_
      refine w_copy hrefl (.tmp 1) (.inl rfl) (.int .i64 (K : Int)) (.inr ⟨2, 68, true, rfl, rfl, known_is rfl⟩) (fun ρ w _ hf => hf 1 (by decide)) ?_
      refine w_is hrefl (.int .i64 ((K : Int) + 8)) (.inr ⟨2, 68, true, rfl, rfl, known_is rfl⟩) (fun ρ w hC hc hfn hf => by have e70 : ρ (.tmp 70) = .int .i64 (K : Int) := hf 70 (by decide); simp [execOp, go_sem, hc, e70, k1]) ?_
      refine w_is hrefl (.bool false) (.inr ⟨2, 68, true, rfl, rfl, known_is rfl⟩) (fun ρ w hC hc hfn hf => by have e69 : ρ (.tmp 69) = .int .i64 ((K : Int) + 8) := hf 69 (by decide); have e71 : ρ (.tmp 71) = .int .i64 ((K : Int) + 8) := hf 71 (by decide); simp [execOp, go_sem, hc, e69, e71]) ?_
      refine w_copy hrefl (.tmp 72) (.inl rfl) (.bool false) (.inr ⟨2, 68, true, rfl, rfl, known_is rfl⟩) (fun ρ w _ hf => hf 72 (by decide)) ?_
      refine w_copy hrefl (.tmp 11) (.inl rfl) (.int .i64 ((K : Int) + 8)) (.inr ⟨7, 73, false, rfl, rfl, known_is rfl⟩) (fun ρ w _ hf => hf 11 (by decide)) ?_
      refine w_copy hrefl (.tmp 0) (.inl rfl) (.slice (some ⟨b, off, none⟩) xs.length cap0) (.inr ⟨7, 73, false, rfl, rfl, known_is rfl⟩) (fun ρ w _ hf => hf 0 (by decide)) ?_
      refine w_is hrefl (.int .i64 (xs.length : Int)) (.inr ⟨7, 73, false, rfl, rfl, known_is rfl⟩) (fun ρ w hC hc hfn hf => by have e75 : ρ (.tmp 75) = .slice (some ⟨b, off, none⟩) xs.length cap0 := hf 75 (by decide); simp [execOp, go_sem, hc, e75, resolve, invoke, builtin]) ?_
      refine w_is hrefl (.bool false) (.inr ⟨7, 73, false, rfl, rfl, known_is rfl⟩) (fun ρ w hC hc hfn hf => by have e74 : ρ (.tmp 74) = .int .i64 ((K : Int) + 8) := hf 74 (by decide); have e76 : ρ (.tmp 76) = .int .i64 (xs.length : Int) := hf 76 (by decide); simp [execOp, go_sem, hc, e74, e76, k6]) ?_
      refine w_is hrefl (.bool false) (.inr ⟨2, 68, true, rfl, rfl, known_is rfl⟩) (fun ρ w hC hc hfn hf => by have e73 : ρ (.tmp 73) = .bool false := hf 73 (by decide); have e77 : ρ (.tmp 77) = .bool false := hf 77 (by decide); simp [execOp, go_sem, hc, e73, e77]) ?_
      refine w_copy hrefl (.tmp 78) (.inl rfl) (.bool false) (.inr ⟨2, 68, true, rfl, rfl, known_is rfl⟩) (fun ρ w _ hf => hf 78 (by decide)) ?_
      refine w_copy hrefl (.tmp 10) (.inl rfl) (.int .i64 (wrap64 (segN xs K 8))) (.inr ⟨13, 79, false, rfl, rfl, known_is rfl⟩) (fun ρ w _ hf => hf 10 (by decide)) ?_
      refine w_call (fun v w => Bs w v ((xs.drop K).take 8)) (fun _ _ _ h hb => Bs_below h hb) 14 (.inr ⟨13, 79, false, rfl, rfl, known_is rfl⟩) (fun ρ w hC hc hfn hf => by have e80 : ρ (.tmp 80) = .int .i64 (wrap64 (segN xs K 8)) := hf 80 (by decide); exact ⟨#[.int .i64 (wrap64 (segN xs K 8))], by simp [execOp, resolve, invoke, go_sem, hc, hfn, e80], ((int_any _ w).mono fun e w' ⟨r, he, hr, hb⟩ => ⟨_, he, hC.trans (hb.mono hC.size), hb, hlo.out ▸ hr⟩)⟩) ?_
      refine w_is hrefl (.string I) (.inr ⟨13, 79, false, rfl, rfl, known_is rfl⟩) (fun ρ w hC hc hfn hf => by have e81 := Bs_conv (hf 81 (by decide)); simp [execOp, go_sem, e81, hI]) ?_
      refine w_copy hrefl (.tmp 0) (.inl rfl) (.slice (some ⟨b, off, none⟩) xs.length cap0) (.inr ⟨13, 79, false, rfl, rfl, known_is rfl⟩) (fun ρ w _ hf => hf 0 (by decide)) ?_
      refine w_copy hrefl (.tmp 1) (.inl rfl) (.int .i64 (K : Int)) (.inr ⟨13, 79, false, rfl, rfl, known_is rfl⟩) (fun ρ w _ hf => hf 1 (by decide)) ?_
      refine w_copy hrefl (.tmp 11) (.inl rfl) (.int .i64 ((K : Int) + 8)) (.inr ⟨13, 79, false, rfl, rfl, known_is rfl⟩) (fun ρ w _ hf => hf 11 (by decide)) ?_
      refine w_is hrefl (.slice (some ⟨b, off + K, none⟩) 8 (cap0 - K)) (.inr ⟨13, 79, false, rfl, rfl, known_is rfl⟩) (fun ρ w hC hc hfn hf => by have e83 : ρ (.tmp 83) = .slice (some ⟨b, off, none⟩) xs.length cap0 := hf 83 (by decide); have e84 : ρ (.tmp 84) = .int .i64 (K : Int) := hf 84 (by decide); have e85 : ρ (.tmp 85) = .int .i64 ((K : Int) + 8) := hf 85 (by decide); simp [execOp, go_sem, hc, e83, e84, e85, k2, k3, k4, i1, i6]) ?_
      refine w_is hrefl (.string I) (.inr ⟨13, 79, false, rfl, rfl, known_is rfl⟩) (fun ρ w hC hc hfn hf => by have e86 : ρ (.tmp 86) = .slice (some ⟨b, off + K, none⟩) 8 (cap0 - K) := hf 86 (by decide); have hcv := hS8 w hC; simp [execOp, go_sem, hcv, e86]) ?_
      refine w_is hrefl (.bool false) (.inr ⟨13, 79, false, rfl, rfl, known_is rfl⟩) (fun ρ w hC hc hfn hf => by have e82 : ρ (.tmp 82) = .string I := hf 82 (by decide); have e87 : ρ (.tmp 87) = .string I := hf 87 (by decide); simp [execOp, go_sem, hc, e82, e87]) ?_
      refine w_is hrefl (.bool false) (.inr ⟨2, 68, true, rfl, rfl, known_is rfl⟩) (fun ρ w hC hc hfn hf => by have e79 : ρ (.tmp 79) = .bool false := hf 79 (by decide); have e88 : ρ (.tmp 88) = .bool false := hf 88 (by decide); simp [execOp, go_sem, hc, e79, e88]) ?_
      refine w_is hrefl (.bool false) (.inl rfl) (fun ρ w hC hc hfn hf => by have e68 : ρ (.tmp 68) = .bool true := hf 68 (by decide); have e89 : ρ (.tmp 89) = .bool false := hf 89 (by decide); simp [execOp, go_sem, hc, e68, e89]) ?_
      intro A W3 hC hsz hd hf
      have h90 : A.eval (.tmp 90) = .bool false := hf 90
      clear hf
      have hcont := ‹∀ (a : Act) (w : World), Code.wp Try.prog (Code.cond _ _ _) _ a w → _›
      have hcont2 := ‹∀ (a : Act) (w : World), Code.wp Try.prog (Code.seq _ _) _ a w → _›
      simp only [Exit.then]
      refine hcont A W3 (wp_cond_false h90 (wp_skip ?_))
      simp only [Exit.then]
      refine hcont2 A W3 ?_
      have HB3 := Lib.hid (HB2.out.trans (hC.mono HB2.out.size))
      clear hcont hcont2 h90 hC k1 k2 k3 k4 k6 hS8 hrefl
      have hsz2 : 91 < A.tmps.size := by rw [hsz]; decide
      have hsz6 : 6 < A.tmps.size := by omega
      have hd2 : A = ⟨A.tmps, []⟩ := by cases A; simp only [Act.mk.injEq, true_and]; exact hd
      clear hsz hd
      rw [hd2]
      generalize A.tmps = tm at *
      clear hd2
      go_wp2_with fail
      refine (awake_any _).mono ?_
      rintro e W5 ⟨rfl, hb5⟩
      have H5 := Lib.hid (HB3.out.trans (hb5.mono HB3.out.size))
      clear hb5
      go_wp2_with fail
      go_ret
      exact ⟨by simp [hsz6], H5.out⟩
  · obtain ⟨K, rfl⟩ := Int.eq_ofNat_of_zero_le (show (0 : Int) ≤ a1 by omega)
    obtain ⟨N, rfl⟩ := Int.eq_ofNat_of_zero_le (show (0 : Int) ≤ a2 by omega)
    have hKN : K + N ≤ xs.length := by omega
    have hN1 : 1 ≤ N := by omega
    have hg := Lib.hid (show getS xs K N = (segN xs K N, (K : Int) + N, 0) by unfold getS; rw [if_neg (by omega), if_neg (by omega)]; rfl)
    have sb := seg_bd hb.1 K N
    have hok : PutOk (segN xs K N) N := ⟨by omega, by omega, sb.1, sb.2⟩
    have hpe := Lib.hid (show putE (segN xs K N) N = 0 from if_pos hok)
    have hpb := Lib.hid (show putB (segN xs K N) N = (xs.drop K).take N by
      rw [putB, if_pos hok, Int.toNat_natCast]
      have := lo_be ((xs.drop K).take N) (seg_bytes hb.1 K N)
      rw [show ((xs.drop K).take N).length = N by simp; omega] at this
      exact this)
    have hvs := Lib.hid (show segN xs K N < 9223372036854775808 by have := be_seg_bd hb.1 K N (by omega); unfold segN; omega)
    clear hok sb hE
    have hb0 := hb
    obtain ⟨_, _, ⟨a, cap, hv, _, rfl⟩ | ⟨b, off, cap, hv, hcap, hc⟩⟩ := hb0
    · simp at hKN; omega
    injection hv with hv1 hv2 hv3
    subst hv1 hv3
    clear hv2
    have i1 : (K : Int) ≤ (xs.length : Int) := by omega
    have i2 : (K : Int) + (N : Int) ≤ (xs.length : Int) := by omega
    have i3 : (K : Int) + (N : Int) ≤ (cap0 : Int) := by omega
    have i4 : (K : Int) ≤ (K : Int) + (N : Int) := by omega
    go_enter Try.func6, Try.ntmps6
    go_wp2_with fail
    refine (get_any _ xs K N _ hb).mono ?_
    rintro e W1 ⟨rfl, rfl⟩
    rw [hg.out]
    unfold tri
    clear hg
    go_wp2_with fail
    refine (getInt_any _ xs K _ hb).mono ?_
    rintro e W1 ⟨rfl, rfl⟩
    by_cases h8 : K + 8 ≤ xs.length
    · rw [show getIntS xs K = (wrap64 (segN xs K 8), (K : Int) + 8, 0) by unfold getIntS; rw [if_neg (by omega), if_neg (by omega)]; rfl]
      unfold tri
      go_wp2_with fail
      refine (put_any _ N _ hvs.out).mono ?_
      rintro e W1 ⟨r1, rfl, hr1, hb1⟩
      rw [hpe.out]
      rw [hpb.out] at hr1
      have hW1 := fun n => Bs_conv (Bs_below hr1 (drewN_below W1 n))
      have hW2 := fun (n C : Nat) => part_conv (N := N) (K := K) hc (hb1.trans ((drewN_below W1 n).mono hb1.size)) hKN N C rfl
      have HC := Lib.hid hc
      have HB1 := Lib.hid hb1
      clear hc hr1 hb1
      generalize strOfNums ((xs.drop K).take N) = S at hW1 hW2
      go_wp2_with fail
      have i5 : ¬ cap0 = K := by omega
      have j1 : IntKind.i64.wrap ((K : Int) + (N : Int)) = (K : Int) + (N : Int) := IntWalk.i64_in _ (by omega)
      have j2 : (0 : Int) ≤ (K : Int) + (N : Int) := by omega
      have j3 : ((K : Int) + (N : Int)).toNat = K + N := by omega
      go_quiet (fail)
      have hlo := Lib.hid (show lo (IntKind.u64.wrap (wrap64 (segN xs K 8))) 8 = (xs.drop K).take 8 from seg_eight hb.1 h8)
      have HB2 := Lib.hid (HB1.out.trans ((drewN_below W1 nq).mono HB1.out.size))
      clear hW1 hW2 j1 j2 j3
      generalize W1.drewN nq = W2 at *
      have i6 : ¬ cap0 = K := by omega
      have k1 : IntKind.i64.wrap ((K : Int) + 8) = (K : Int) + 8 := IntWalk.i64_in _ (by omega)
      have k2 : (0 : Int) ≤ (K : Int) + 8 := by omega
      have k3 : ((K : Int) + 8).toNat = K + 8 := by omega
      have k4 : (K : Int) + 8 ≤ (cap0 : Int) := by omega
      have k6 : ¬ (xs.length : Int) < (K : Int) + 8 := by omega
      generalize hI : strOfNums ((xs.drop K).take 8) = I
      have hS8 : ∀ W, Below W2.heap.size W2 W → (convert 22 9 (.slice (some ⟨b, off + K, none⟩) 8 (cap0 - K))).run Try.prog W = .ok (.string I) W := fun W hW => by rw [← hI]; exact part_conv HC.out (HB2.out.trans (hW.mono HB2.out.size)) h8 8 _ rfl
      have hrefl : ∀ W : World, Below W.heap.size W W := fun W => Below.refl _ _
      go_wp2_with fail
      refine wp_region_typed (C := fun W => Below W2.heap.size W2 W) (X := fun W W' => Below W.heap.size W W') (n := 92) (by kernel_rfl) (by kernel_rfl) rfl hrefl (Below.refl _ _).drew ?_
      refine w_copy hrefl (.tmp 12) (.inl rfl) (.int .i64 0) (.inl rfl) (fun ρ w _ hf => hf 12 (by decide)) ?_
      refine w_is hrefl (.bool true) (.inl rfl) (fun ρ w hC hc hfn hf => by have e66 : ρ (.tmp 66) = .int .i64 0 := hf 66 (by decide); simp [execOp, go_sem, hc, e66]) ?_
      refine w_copy hrefl (.tmp 67) (.inl rfl) (.bool true) (.inl rfl) (fun ρ w _ hf => hf 67 (by decide)) ?_
      refine w_copy hrefl (.tmp 11) (.inl rfl) (.int .i64 ((K : Int) + 8)) (.inr ⟨2, 68, true, rfl, rfl, known_is rfl⟩) (fun ρ w _ hf => hf 11 (by decide)) ?_
      refine w_copy hrefl (.tmp 1) (.inl rfl) (.int .i64 (K : Int)) (.inr ⟨2, 68, true, rfl, rfl, known_is rfl⟩) (fun ρ w _ hf => hf 1 (by decide)) ?_
      refine w_is hrefl (.int .i64 ((K : Int) + 8)) (.inr ⟨2, 68, true, rfl, rfl, known_is rfl⟩) (fun ρ w hC hc hfn hf => by have e70 : ρ (.tmp 70) = .int .i64 (K : Int) := hf 70 (by decide); simp [execOp, go_sem, hc, e70, k1]) ?_
      refine w_is hrefl (.bool false) (.inr ⟨2, 68, true, rfl, rfl, known_is rfl⟩) (fun ρ w hC hc hfn hf => by have e69 : ρ (.tmp 69) = .int .i64 ((K : Int) + 8) := hf 69 (by decide); have e71 : ρ (.tmp 71) = .int .i64 ((K : Int) + 8) := hf 71 (by decide); simp [execOp, go_sem, hc, e69, e71]) ?_
      refine w_copy hrefl (.tmp 72) (.inl rfl) (.bool false) (.inr ⟨2, 68, true, rfl, rfl, known_is rfl⟩) (fun ρ w _ hf => hf 72 (by decide)) ?_
      refine w_copy hrefl (.tmp 11) (.inl rfl) (.int .i64 ((K : Int) + 8)) (.inr ⟨7, 73, false, rfl, rfl, known_is rfl⟩) (fun ρ w _ hf => hf 11 (by decide)) ?_
      refine w_copy hrefl (.tmp 0) (.inl rfl) (.slice (some ⟨b, off, none⟩) xs.length cap0) (.inr ⟨7, 73, false, rfl, rfl, known_is rfl⟩) (fun ρ w _ hf => hf 0 (by decide)) ?_
      refine w_is hrefl (.int .i64 (xs.length : Int)) (.inr ⟨7, 73, false, rfl, rfl, known_is rfl⟩) (fun ρ w hC hc hfn hf => by have e75 : ρ (.tmp 75) = .slice (some ⟨b, off, none⟩) xs.length cap0 := hf 75 (by decide); simp [execOp, go_sem, hc, e75, resolve, invoke, builtin]) ?_
      refine w_is hrefl (.bool false) (.inr ⟨7, 73, false, rfl, rfl, known_is rfl⟩) (fun ρ w hC hc hfn hf => by have e74 : ρ (.tmp 74) = .int .i64 ((K : Int) + 8) := hf 74 (by decide); have e76 : ρ (.tmp 76) = .int .i64 (xs.length : Int) := hf 76 (by decide); simp [execOp, go_sem, hc, e74, e76, k6]) ?_
      refine w_is hrefl (.bool false) (.inr ⟨2, 68, true, rfl, rfl, known_is rfl⟩) (fun ρ w hC hc hfn hf => by have e73 : ρ (.tmp 73) = .bool false := hf 73 (by decide); have e77 : ρ (.tmp 77) = .bool false := hf 77 (by decide); simp [execOp, go_sem, hc, e73, e77]) ?_
      refine w_copy hrefl (.tmp 78) (.inl rfl) (.bool false) (.inr ⟨2, 68, true, rfl, rfl, known_is rfl⟩) (fun ρ w _ hf => hf 78 (by decide)) ?_
      refine w_copy hrefl (.tmp 10) (.inl rfl) (.int .i64 (wrap64 (segN xs K 8))) (.inr ⟨13, 79, false, rfl, rfl, known_is rfl⟩) (fun ρ w _ hf => hf 10 (by decide)) ?_
      refine w_call (fun v w => Bs w v ((xs.drop K).take 8)) (fun _ _ _ h hb => Bs_below h hb) 14 (.inr ⟨13, 79, false, rfl, rfl, known_is rfl⟩) (fun ρ w hC hc hfn hf => by have e80 : ρ (.tmp 80) = .int .i64 (wrap64 (segN xs K 8)) := hf 80 (by decide); exact ⟨#[.int .i64 (wrap64 (segN xs K 8))], by simp [execOp, resolve, invoke, go_sem, hc, hfn, e80], ((int_any _ w).mono fun e w' ⟨r, he, hr, hb⟩ => ⟨_, he, hC.trans (hb.mono hC.size), hb, hlo.out ▸ hr⟩)⟩) ?_
      refine w_is hrefl (.string I) (.inr ⟨13, 79, false, rfl, rfl, known_is rfl⟩) (fun ρ w hC hc hfn hf => by have e81 := Bs_conv (hf 81 (by decide)); simp [execOp, go_sem, e81, hI]) ?_
      refine w_copy hrefl (.tmp 0) (.inl rfl) (.slice (some ⟨b, off, none⟩) xs.length cap0) (.inr ⟨13, 79, false, rfl, rfl, known_is rfl⟩) (fun ρ w _ hf => hf 0 (by decide)) ?_
      refine w_copy hrefl (.tmp 1) (.inl rfl) (.int .i64 (K : Int)) (.inr ⟨13, 79, false, rfl, rfl, known_is rfl⟩) (fun ρ w _ hf => hf 1 (by decide)) ?_
      refine w_copy hrefl (.tmp 11) (.inl rfl) (.int .i64 ((K : Int) + 8)) (.inr ⟨13, 79, false, rfl, rfl, known_is rfl⟩) (fun ρ w _ hf => hf 11 (by decide)) ?_
      refine w_is hrefl (.slice (some ⟨b, off + K, none⟩) 8 (cap0 - K)) (.inr ⟨13, 79, false, rfl, rfl, known_is rfl⟩) (fun ρ w hC hc hfn hf => by have e83 : ρ (.tmp 83) = .slice (some ⟨b, off, none⟩) xs.length cap0 := hf 83 (by decide); have e84 : ρ (.tmp 84) = .int .i64 (K : Int) := hf 84 (by decide); have e85 : ρ (.tmp 85) = .int .i64 ((K : Int) + 8) := hf 85 (by decide); simp [execOp, go_sem, hc, e83, e84, e85, k2, k3, k4, i1, i6]) ?_
      refine w_is hrefl (.string I) (.inr ⟨13, 79, false, rfl, rfl, known_is rfl⟩) (fun ρ w hC hc hfn hf => by have e86 : ρ (.tmp 86) = .slice (some ⟨b, off + K, none⟩) 8 (cap0 - K) := hf 86 (by decide); have hcv := hS8 w hC; simp [execOp, go_sem, hcv, e86]) ?_
      refine w_is hrefl (.bool false) (.inr ⟨13, 79, false, rfl, rfl, known_is rfl⟩) (fun ρ w hC hc hfn hf => by have e82 : ρ (.tmp 82) = .string I := hf 82 (by decide); have e87 : ρ (.tmp 87) = .string I := hf 87 (by decide); simp [execOp, go_sem, hc, e82, e87]) ?_
      refine w_is hrefl (.bool false) (.inr ⟨2, 68, true, rfl, rfl, known_is rfl⟩) (fun ρ w hC hc hfn hf => by have e79 : ρ (.tmp 79) = .bool false := hf 79 (by decide); have e88 : ρ (.tmp 88) = .bool false := hf 88 (by decide); simp [execOp, go_sem, hc, e79, e88]) ?_
      refine w_is hrefl (.bool false) (.inl rfl) (fun ρ w hC hc hfn hf => by have e68 : ρ (.tmp 68) = .bool true := hf 68 (by decide); have e89 : ρ (.tmp 89) = .bool false := hf 89 (by decide); simp [execOp, go_sem, hc, e68, e89]) ?_
      intro A W3 hC hsz hd hf
      have h90 : A.eval (.tmp 90) = .bool false := hf 90
      clear hf
      have hcont := ‹∀ (a : Act) (w : World), Code.wp Try.prog (Code.cond _ _ _) _ a w → _›
      have hcont2 := ‹∀ (a : Act) (w : World), Code.wp Try.prog (Code.seq _ _) _ a w → _›
      simp only [Exit.then]
      refine hcont A W3 (wp_cond_false h90 (wp_skip ?_))
      simp only [Exit.then]
      refine hcont2 A W3 ?_
      have HB3 := Lib.hid (HB2.out.trans (hC.mono HB2.out.size))
      clear hcont hcont2 h90 hC k1 k2 k3 k4 k6 hS8 hrefl
      have hsz2 : 91 < A.tmps.size := by rw [hsz]; decide
      have hsz6 : 6 < A.tmps.size := by omega
      have hd2 : A = ⟨A.tmps, []⟩ := by cases A; simp only [Act.mk.injEq, true_and]; exact hd
      clear hsz hd
      rw [hd2]
      generalize A.tmps = tm at *
      clear hd2
      go_wp2_with fail
      refine (awake_any _).mono ?_
      rintro e W5 ⟨rfl, hb5⟩
      have H5 := Lib.hid (HB3.out.trans (hb5.mono HB3.out.size))
      clear hb5
      go_wp2_with fail
      go_ret
      exact ⟨by simp [hsz6], H5.out⟩
    · rw [show getIntS xs K = (0, 0, 6) by unfold getIntS; rw [if_neg (by omega), if_pos (by omega)]]
      unfold tri
      go_wp2_with fail
      refine (put_any _ N _ hvs.out).mono ?_
      rintro e W1 ⟨r1, rfl, hr1, hb1⟩
      rw [hpe.out]
      rw [hpb.out] at hr1
      have hW1 := fun n => Bs_conv (Bs_below hr1 (drewN_below W1 n))
      have hW2 := fun (n C : Nat) => part_conv (N := N) (K := K) hc (hb1.trans ((drewN_below W1 n).mono hb1.size)) hKN N C rfl
      have HC := Lib.hid hc
      have HB1 := Lib.hid hb1
      clear hc hr1 hb1
      generalize strOfNums ((xs.drop K).take N) = S at hW1 hW2
      go_wp2_with fail
      have i5 : ¬ cap0 = K := by omega
      have j1 : IntKind.i64.wrap ((K : Int) + (N : Int)) = (K : Int) + (N : Int) := IntWalk.i64_in _ (by omega)
      have j2 : (0 : Int) ≤ (K : Int) + (N : Int) := by omega
      have j3 : ((K : Int) + (N : Int)).toNat = K + N := by omega
      go_quiet (fail)
      have HB2 := Lib.hid (HB1.out.trans ((drewN_below W1 nq).mono HB1.out.size))
      clear hW1 hW2 j1 j2 j3
      generalize W1.drewN nq = W2 at *
      go_wp2_with fail
      go_quiet (fail)
      have HB3 := Lib.hid (HB2.out.trans ((drewN_below W2 nq).mono HB2.out.size))
      generalize W2.drewN nq = W3 at *
      go_wp2_with fail
      refine (awake_any _).mono ?_
      rintro e W5 ⟨rfl, hb5⟩
      have H5 := Lib.hid (HB3.out.trans (hb5.mono HB3.out.size))
      clear hb5
      go_wp2_with fail
      go_ret
      exact ⟨rfl, H5.out⟩

set_option maxRecDepth 100000 in
theorem lifted (os : Os) (started : os.Started) (H : Type) (enc : TypeId × Value → H) :
    ReturnsInHanded {} Try.checked os 6 .any (Rows.wireSameSpec.pre6 enc Try.prog Try.f6 Rows.wireSameRow.domain false) (Rows.wireSameSpec.post enc Try.prog Try.f6 false true false false) := by
  refine returnsInHanded_of_change (C := Try.checked) own started (by kernel_rfl) Try.func6
    (ChangeSpec.witness6 (enc := enc) (C := Try.checked) false ⟨#[], #[.slice none 0 0, .int .i64 0, .int .i64 0], []⟩ 8 (by kernel_rfl) (by kernel_rfl) (by kernel_rfl) (by kernel_rfl)) ?_
  intro W base args ds gs before hval0 hW hcnd _
  have hval : ∀ (j : Nat) t v, Try.f6.params[j]? = some t → args[j]? = some v → Value.okWide Try.prog W .any base t v := hval0
  have hW' := hW
  obtain ⟨p, q, hA0, hV, rfl, hfz, hnd⟩ := hW
  have hA : DataW.TrodAll enc Try.prog W 0 (fun _ => true) true Try.f6.params.toList args.toList ds p := hA0
  rw [Try.params6] at hA hval
  obtain ⟨v0, vs0, d0, ds0, p0, q0, hargs, rfl, rfl, h0, r0⟩ := trodAll_cons hA
  obtain ⟨v1, vs1, d1, ds1, p1, q1, rfl, rfl, rfl, h1, r1⟩ := trodAll_cons r0
  obtain ⟨v2, vs2, d2, ds2, p2, q2, rfl, rfl, rfl, h2, r2⟩ := trodAll_cons r1
  obtain ⟨rfl, rfl, rfl⟩ := trodAll_nil r2
  obtain rfl : args = #[v0, v1, v2] := by cases args; simp_all
  obtain ⟨rfl, rfl⟩ := trodVars_none hV
  obtain ⟨a0, len0, cap0, rfl⟩ := okWide_slice Try.underlying22 (hval 0 22 v0 rfl rfl)
  have k0 := h0
  have lt0 : ∀ x ∈ p0, x.block < W.heap.size := by obtain ⟨m, hm⟩ := k0; exact DataW.trod_lt m _ _ _ hm
  obtain ⟨z0, w0⟩ : ∃ zs, IsRow .u8 W a0 len0 cap0 zs := by
    obtain ⟨fuel, hf⟩ := h0
    rcases open_ints Try.underlying22 Try.underlying5 (by kernel_rfl) hf with ⟨hcs, _⟩ | ⟨x, l, c, zs, hcs, _, hl, hm, hz, _, hcell, hwz⟩
    · simp [Value.cells] at hcs
      obtain ⟨rfl, rfl, rfl⟩ := hcs
      exact ⟨[], .inl ⟨rfl, rfl, rfl, rfl⟩⟩
    · simp [Value.cells] at hcs
      obtain ⟨rfl, rfl, rfl⟩ := hcs
      exact ⟨zs, .inr ⟨_, rfl, hl, hm, by simpa using hz, hcell, hwz⟩⟩
  obtain ⟨a1, rfl, rfl, rfl, w1⟩ := open_int Try.underlying3 (hval 1 3 v1 rfl rfl) h1
  obtain ⟨a2, rfl, rfl, rfl, w2⟩ := open_int Try.underlying3 (hval 2 3 v2 rfl rfl) h2
  clear hA0 hval0
  refine (walk a0 len0 cap0 z0 a1 a2 W w0 w1 w2).mono fun e W' ⟨he, bel⟩ => ?_
  subst he
  exact ⟨_, rfl, _, _, _, [], _, [], hW', trodAll_mk1 (shut_bool Try.underlying4 _), (trodAll_cons_mk (Below.trod laidOut (by kernel_rfl) (of_decide_eq_true (by kernel_rfl)) k0 bel lt0) (trodAll_cons_mk (shut_int Try.underlying3 w1) (trodAll_cons_mk (shut_int Try.underlying3 w2) trodAll_mk0))), rfl, bel.frame _, fun h => by cases h⟩

theorem over : Rows.wireSameRow.holds Try.pinned (OpenSpec.ofChange Rows.wireSameSpec) :=
  OpenClaim.holds_of_wide 6 Try.f6 rfl rfl rfl rfl rfl rfl rfl ⟨rfl, rfl, rfl, rfl, rfl⟩ rfl rfl rfl rfl rfl (by kernel_rfl) Try.func6 (by kernel_rfl)
    (of_decide_eq_true (by kernel_rfl)) (by unfold Func.isWrapper; first | (rw [if_pos (by decide +kernel)]; kernel_rfl) | (rw [if_neg (by decide +kernel)]; exact ⟨rfl, rfl⟩))
    (fun os started H enc _ => lifted os started H enc)

theorem proved : Rows.WireSameSaid := over
#print axioms proved
end Go.Proofs.Yteofjlcaokajeaa.wireSame
