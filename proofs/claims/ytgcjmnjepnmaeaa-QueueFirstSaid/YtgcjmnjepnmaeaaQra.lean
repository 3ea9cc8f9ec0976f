/- All packets of a queue, as a list of its own. -/
import Derived.Test.YtgcjmnjepnmaeaaQrz
namespace Go.Proofs.Ytgcjmnjepnmaeaa
set_option maxRecDepth 100000
open Go.RowKit

set_option maxHeartbeats 16000000 in
theorem qall_ok (b : Nat) (m : Int) (bg c : Nat) (R : Nat → Pk) (w : World) (h : Ring w b m bg c R) :
    Calls Try.prog 22 #[.pointer (some ⟨b, 0, none⟩)] w fun e w' => (∃ a cp, e = .returned (.slice a c cp) ∧ OwK w' w.heap.size (.slice a c cp) (held bg c R)) ∧ Below w.heap.size w w' := by
  have HAT : Hid (∀ i, i < c → (held bg c R).getD i zPk = R ((bg + i) % 64)) := fun i hi => held_getD bg c R hi
  have hl := held_len bg c R
  generalize held bg c R = l at *
  have HLEN := Lib.hid hl
  have c1 := h.cc
  have hc64 : c ≤ 64 := by have := h.hm; omega
  obtain ⟨it, hi1, hi2, hi3, hi4⟩ := info_parts (P := Try.prog) (e := 34) (z := .agg #[.int .i64 0, .int .i64 0, .int .i64 0, .int .i64 0, .string ⟨#[]⟩]) (size := 5) (bytes := 48) (by kernel_rfl)
  obtain ⟨w1, hmk, hown, hgr⟩ := run_make_own (P := Try.prog) w w.heap.size 30 34 it _ 5 (by kernel_rfl) hi1 hi2 hi3 .i64 .i64 c (by rw [hi4]; omega) (by simp [maxLen]; omega) (Nat.le_refl _)
  clear hi1 hi2 hi3 hi4
  have hb1 : Below w.heap.size w w1 := (Below.refl _ w).grown hgr (Nat.le_refl _) (fun k hk => by cases hk)
  have HO1 : Hid (OwK w1 w.heap.size (.slice (some ⟨w.heap.size, 0, none⟩) 0 c) []) := hown
  have HB1 := Lib.hid hb1
  have HR := Lib.hid h
  have c2 : w1.cell? ⟨b, 321, none⟩ = some (.int .i64 c) := (h.chg (F := fun _ => False) (chg0 hb1) (fun h => h)).cc
  clear h hl hown hgr hb1
  go_enter Try.func22, Try.ntmps22
  go_wp2_with fail
  clear hmk
  go_loopw [3, 16] (fun v i wr => ∃ k : Nat, k ≤ c ∧ i = .int .i64 k ∧ Hid (OwK wr w.heap.size v (l.take k)) ∧ Hid (Below w.heap.size w wr)) (fun _ i _ => c - (intOf i).toNat)
  case atStart => exact ⟨0, Nat.zero_le _, rfl, HO1.out, HB1.out⟩
  case round =>
    obtain ⟨k, hk, rfl, HO, HB⟩ := hrel
    have HRr := Lib.hid (HR.out.chg (F := fun _ => False) (chg0 HB.out) (fun h => h))
    have htl : (l.take k).length = k := by rw [List.length_take, HLEN.out]; omega
    obtain ⟨a, cp, hv⟩ := HO.out.form
    rw [htl] at hv
    subst hv
    by_cases hlt : k < c
    · have HST : Hid (l.take (k + 1) = l.take k ++ [l.getD k zPk]) := take_succ_getD l k (by rw [HLEN.out]; exact hlt)
      obtain ⟨k0, hk0⟩ : ∃ k0, (bg + k) % 64 = k0 := ⟨_, rfl⟩
      have hk64 : k0 < 64 := by omega
      have hki1 : (k0 : Int) < 64 := by omega
      have hki2 : (0 : Int) ≤ (k0 : Int) := by omega
      have hkk : ((bg : Int) + (k : Int)) % 64 = (k0 : Int) := by omega
      have hbg : (0 : Int) ≤ (bg : Int) ∧ (bg : Int) < 64 := by have := HRr.out.hb; omega
      have hki0 : (0 : Int) ≤ (k : Int) ∧ (k : Int) ≤ 64 := by omega
      obtain ⟨y, hy⟩ : ∃ y, l.getD k zPk = y := ⟨_, rfl⟩
      have hy0 : R k0 = y := by rw [← hy, HAT.out k hlt, hk0]
      rw [hy] at HST
      have HC := Lib.hid (HRr.out.pk k0 hk64)
      rw [hy0] at HC
      have HLT := Lib.hid HRr.out.lt
      obtain ⟨q0, q1, q2, q3, q4⟩ := HC.out
      have C2 := Lib.hid (place_any b bg k wr.drew HRr.out.cb hbg hki0)
      rw [hkk] at C2
      obtain ⟨w2, hw2⟩ : ∃ w2, wr.alloc (.cells #[.int .i64 y.1, .int .i64 y.2.1, .int .i64 y.2.2.1, .int .i64 y.2.2.2.1, .string y.2.2.2.2] 34) = w2 := ⟨_, rfl⟩
      have hb2 : Below wr.heap.size wr w2 := hw2 ▸ (Below.refl _ wr).alloc (Nat.le_refl _) _
      have ho2 : OwK w2.drew w.heap.size (.slice a k cp) (l.take k) := (HO.out.below hb2).dn 1
      have hS2 : w.heap.size ≤ w2.drew.heap.size := Nat.le_trans HB.out.size hb2.size
      have hxl : (l.take k).length ≤ 3000 := by omega
      obtain ⟨gq, cq, w3, hr, ho3, hg3, -, -⟩ := run_gapp3 w2.drew w.heap.size _ (l.take k) ho2 wr.heap.size y (hw2 ▸ gc_alloc RK wr y _ rfl 34) hxl hS2
      have HV : Hid (OwK w3 w.heap.size (.slice (some ⟨gq, 0, none⟩) (k + 1) cq) (l.take (k + 1))) := by
        rw [HST.out]
        have := ho3
        rw [htl] at this
        exact this
      have HB5 : Hid (Below w.heap.size w w3) := ((HB.out.trans (hb2.mono HB.out.size))).trans ((below_dn (Below.refl _ w2) 1).grown hg3 hS2 (fun k' hk' => (ho2.lt k' hk').1))
      rw [htl] at hr
      have hw3 : wr.drew.alloc (.cells #[.int .i64 y.1, .int .i64 y.2.1, .int .i64 y.2.2.1, .int .i64 y.2.2.2.1, .string y.2.2.2.2] 34) = w2.drew := by rw [← hw2]; rfl
      clear hb2 ho2 hS2 hxl ho3 hg3 hkk hk0 hy hy0 hbg hki0 HC
      go_upto_region 7 with (fail)
      refine wp_region_any (by kernel_rfl) ?_
      try (change wpAny _ _ _ _ _ _ _ (World.drew _))
      refine wpAny_take (i := 0) (v := ?_) rfl (by kernel_rfl) (by kernel_rfl) (by kernel_rfl) (fun _ _ _ h => h) (Or.inl ⟨by rfl, ?_⟩) ?_
      rotate_left
      · (intro w; go_simp) <;> with_reducible rfl
      refine wpAny_take (i := 1) (v := ?_) rfl (by kernel_rfl) (by kernel_rfl) (by kernel_rfl) (fun _ _ _ h => h) (Or.inl ⟨by rfl, ?_⟩) ?_
      rotate_left
      · (intro w; go_simp) <;> with_reducible rfl
      refine wpAny_take (i := 2) (v := ?_) rfl (by kernel_rfl) (by kernel_rfl) (by kernel_rfl) (fun _ _ _ h => h) (Or.inl ⟨by rfl, ?_⟩) ?_
      rotate_left
      · (intro w; go_simp) <;> with_reducible rfl
      refine wpAny_take (i := 3) (v := ?_) rfl (by kernel_rfl) (by kernel_rfl) (by kernel_rfl) (fun _ _ _ h => h) (Or.inl ⟨by rfl, ?_⟩) ?_
      rotate_left
      · (intro w; go_simp) <;> with_reducible rfl
      refine wpAny_take (i := 5) (v := ?_) rfl (by kernel_rfl) (by kernel_rfl) (by kernel_rfl) (fun _ _ _ h => h) (Or.inl ⟨by rfl, ?_⟩) ?_
      rotate_left
      · (intro w; go_simp) <;> with_reducible rfl
      refine wpAny_take (i := 6) (v := ?_) rfl (by kernel_rfl) (by kernel_rfl) (by kernel_rfl) (fun _ _ _ h => h) (Or.inl ⟨by rfl, ?_⟩) ?_
      rotate_left
      · (intro w; go_simp) <;> with_reducible rfl
      refine wpAny_ready (rs := [4]) (by kernel_rfl) (by simp) ?_
      refine AllReady.cons rfl (fun K hK => ?_) ?_
      rotate_left
      · exact AllReady.nil
      go_simp
      go_wp2_with (go_at_call 24; refine C2.out.mono ?_; rintro e w9 ⟨rfl, rfl⟩)
      refine wpAny_take (i := 7) (v := ?_) rfl (by kernel_rfl) (by kernel_rfl) (by kernel_rfl) (fun _ _ _ h => h) (Or.inl ⟨by rfl, ?_⟩) ?_
      rotate_left
      · (intro w; go_simp) <;> with_reducible rfl
      refine wpAny_ready (rs := [8]) (by kernel_rfl) (by simp) ?_
      refine AllReady.cons rfl (fun K hK => ?_) ?_
      rotate_left
      · exact AllReady.nil
      go_simp
      refine hK _ _ ?_
      clear hK K
      refine wpAny_ready (rs := [9]) (by kernel_rfl) (by simp) ?_
      refine AllReady.cons rfl (fun K hK => ?_) ?_
      rotate_left
      · exact AllReady.nil
      go_simp
      refine hK _ _ ?_
      clear hK K
      refine wpAny_ready (rs := [10]) (by kernel_rfl) (by simp) ?_
      refine AllReady.cons rfl (fun K hK => ?_) ?_
      rotate_left
      · exact AllReady.nil
      rw [if_pos (by rfl)]
      unfold Oper.wp
      rw [gexec_append (s := .tmp 19) (x := .tmp 28) (T := 30) rfl rfl rfl hr]
      refine hK _ _ ?_
      clear hK K
      refine wpAny_take (i := 11) (v := ?_) rfl (by kernel_rfl) (by kernel_rfl) (by kernel_rfl) (fun _ _ _ h => h) (Or.inl ⟨by rfl, ?_⟩) ?_
      rotate_left
      · (intro w; go_simp) <;> with_reducible rfl
      refine wpAny_done (by kernel_rfl) ?_ _
      go_wp2_with fail
      go_roundw
      case rel => exact ⟨k + 1, by omega, by go_num, HV.out, HB5.out⟩
      case measure => simp [intOf]; omega
    · have hkc : k = c := by omega
      subst hkc
      have ht : l.take k = l := List.take_of_length_le (by rw [HLEN.out]; omega)
      rw [ht] at HO
      go_wp2_with fail
      go_ret
      exact ⟨⟨_, _, rfl, HO.out⟩, HB.out⟩
end Go.Proofs.Ytgcjmnjepnmaeaa
