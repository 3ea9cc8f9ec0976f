/- How many wait for a node; all of them. -/
import Derived.Test.YtgcjmnjepnmaeaaQry
import Derived.Test.YtgcjmnjepnmaeaaGsp
import Derived.OwnWalk
namespace Go.Proofs.Ytgcjmnjepnmaeaa
set_option maxRecDepth 100000
open Go.RowKit

set_option maxHeartbeats 8000000 in
theorem qcount_ok (b : Nat) (m : Int) (bg c : Nat) (R : Nat → Pk) (d : Int) (w : World) (h : Ring w b m bg c R) :
    Calls Try.prog 17 #[.pointer (some ⟨b, 0, none⟩), .int .i64 d] w fun e w' => e = .returned (.int .i64 (cntN (held bg c R) d)) ∧ Chg (fun _ => False) w w' := by
  have HAT : Hid (∀ i, i < c → (held bg c R).getD i zPk = R ((bg + i) % 64)) := fun i hi => held_getD bg c R hi
  have hl := held_len bg c R
  generalize held bg c R = l at *
  have HLEN := Lib.hid hl
  have c1 := h.cc
  have HR := Lib.hid h
  have hc64 : c ≤ 64 := by have := h.hm; omega
  clear h hl
  go_enter Try.func17, Try.ntmps17
  go_wp2_with fail
  go_loopw [5, 13] (fun n i wr => ∃ k : Nat, k ≤ c ∧ i = .int .i64 k ∧ n = .int .i64 (cntN (l.take k) d) ∧ Hid (Chg (fun _ => False) w wr)) (fun _ i _ => c - (intOf i).toNat)
  case atStart => exact ⟨0, Nat.zero_le _, rfl, rfl, Chg.refl _ _⟩
  case round =>
    obtain ⟨k, hk, rfl, rfl, HG⟩ := hrel
    have HRr := Lib.hid (HR.out.chg HG.out (fun h => h))
    by_cases hlt : k < c
    · have hst := cnt_step l d k (by rw [HLEN.out]; exact hlt)
      have hcl : cntN (l.take k) d ≤ 64 := by have := cntN_le (l.take k) d; rw [List.length_take] at this; omega
      have HST := Lib.hid hst
      clear hst
      obtain ⟨n0, hn0⟩ : ∃ n0, cntN (l.take k) d = n0 := ⟨_, rfl⟩
      have HN := Lib.hid hn0
      rw [hn0] at hcl
      rw [hn0]
      clear hn0
      obtain ⟨k0, hk0⟩ : ∃ k0, (bg + k) % 64 = k0 := ⟨_, rfl⟩
      have hk64 : k0 < 64 := by omega
      have hki : ((bg : Int) + (k : Int)) % 64 = (k0 : Int) := by omega
      have C2 := Lib.hid (place_any b bg k wr.drew HRr.out.cb (by have := HRr.out.hb; omega) (by omega))
      rw [hki] at C2
      obtain ⟨y, hy⟩ : ∃ y, l.getD k zPk = y := ⟨_, rfl⟩
      have HY := Lib.hid hy
      have hy0 : R k0 = y := by rw [← hy, HAT.out k hlt, hk0]
      obtain ⟨p0, p1, p2, p3, p4⟩ := HRr.out.pk k0 hk64
      rw [hy0] at p0 p1 p2 p3 p4
      clear hki hk0 hy hy0 c1
      by_cases hd : y.2.1 = d
      · have hq : (y.2.1 == d) = true := by simpa using hd
        have HD := Lib.hid hd
        clear hd
        go_upto_region 7 with (fail)
        go_region_with (go_at_call 24; refine C2.out.mono ?_; rintro e w9 ⟨rfl, rfl⟩)
        all_goals
          go_wp2_with fail
          go_roundw
          case rel =>
            refine ⟨k + 1, by omega, by go_num, ?_, HG.out.drew⟩
            rw [HST.out, HY.out, if_pos HD.out, HN.out]
            go_num
          case measure => simp [intOf]; omega
      · have hq : (y.2.1 == d) = false := by simpa using hd
        have HD := Lib.hid hd
        clear hd
        go_upto_region 7 with (fail)
        go_region_with (go_at_call 24; refine C2.out.mono ?_; rintro e w9 ⟨rfl, rfl⟩)
        all_goals
          go_wp2_with fail
          go_roundw
          case rel =>
            refine ⟨k + 1, by omega, by go_num, ?_, HG.out.drew⟩
            rw [HST.out, HY.out, if_neg HD.out, HN.out]
            go_num
          case measure => simp [intOf]; omega
    · have hkc : k = c := by omega
      subst hkc
      have ht : l.take k = l := List.take_of_length_le (by rw [HLEN.out]; omega)
      rw [ht]
      go_wp2_with fail
      go_ret
      exact ⟨rfl, HG.out⟩
end Go.Proofs.Ytgcjmnjepnmaeaa
