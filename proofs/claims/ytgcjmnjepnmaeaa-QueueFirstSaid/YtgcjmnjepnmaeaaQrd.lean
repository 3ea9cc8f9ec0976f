/- All packets for a node go out. -/
import Derived.Test.YtgcjmnjepnmaeaaQrk
namespace Go.Proofs.Ytgcjmnjepnmaeaa
set_option maxRecDepth 100000
open Go.RowKit

theorem clr_take (l : List Pk) (d : Int) : clrL (takeL l d) d = clrL l d := by
  induction l with
  | nil => rfl
  | cons y r ih =>
    unfold clrL takeL at *
    by_cases h : isTo d y = true
    · rw [List.eraseP_cons_of_pos h, List.filter_cons_of_neg (by simp [h])]
    · rw [List.eraseP_cons_of_neg h, List.filter_cons_of_pos (by simp [h]), List.filter_cons_of_pos (by simp [h]), ih]
theorem cnt_take (l : List Pk) (d : Int) : cntN (takeL l d) d = cntN l d - 1 := by
  induction l with
  | nil => rfl
  | cons y r ih =>
    unfold cntN takeL at *
    by_cases h : isTo d y = true
    · rw [List.eraseP_cons_of_pos h, List.countP_cons_of_pos h]
      omega
    · rw [List.eraseP_cons_of_neg h, List.countP_cons_of_neg h, List.countP_cons_of_neg h, ih]
theorem clr_none (l : List Pk) (d : Int) (h : cntN l d = 0) : clrL l d = l := by
  unfold clrL
  refine List.filter_eq_self.2 fun y hy => ?_
  have := List.countP_eq_zero.1 h y hy
  simpa using this
set_option maxHeartbeats 16000000 in
theorem qclear_ok (b : Nat) (m : Int) (bg c : Nat) (R : Nat → Pk) (d : Int) (w : World) (h : Ring w b m bg c R) :
    Calls Try.prog 19 #[.pointer (some ⟨b, 0, none⟩), .int .i64 d] w fun e w' => e = .returned (.int .i64 (cntN (held bg c R) d)) ∧ (∃ bg' c' R', Ring w' b m bg' c' R' ∧ held bg' c' R' = clrL (held bg c R) d) ∧ Chg (fun x => x = b) w w' := by
  have C1 := Lib.hid (qcount_ok b m bg c R d w h)
  have HR := Lib.hid h
  have hn64 : cntN (held bg c R) d ≤ 64 := by have h1 := cntN_le (held bg c R) d; rw [held_len] at h1; have := h.hm; omega
  obtain ⟨l, hl⟩ : ∃ l, held bg c R = l := ⟨_, rfl⟩
  have HH := Lib.hid hl
  rw [hl] at C1 hn64 ⊢
  obtain ⟨n, hn⟩ : ∃ n, cntN l d = n := ⟨_, rfl⟩
  have HN := Lib.hid hn
  rw [hn] at C1 hn64 ⊢
  clear h hl hn
  go_enter Try.func19, Try.ntmps19
  go_wp2_with fail
  refine C1.out.mono ?_
  rintro e w1 ⟨rfl, hg⟩
  have HG1 := Lib.hid hg
  have HR1 := Lib.hid (HR.out.chg hg (fun h => h))
  clear hg C1
  go_wp2_with fail
  go_loopw [10] (fun i wr => ∃ (k : Nat) (l' : List Pk) (bg' c' : Nat) (R' : Nat → Pk), k ≤ n ∧ i = .int .i64 k ∧ Hid (Ring wr b m bg' c' R') ∧ Hid (held bg' c' R' = l') ∧ Hid (clrL l' d = clrL l d) ∧ Hid (cntN l' d = n - k) ∧ Hid (Chg (fun x => x = b) w wr)) (fun i _ => n - (intOf i).toNat)
  case atStart => exact ⟨0, l, bg, c, R, Nat.zero_le _, rfl, HR1.out, HH.out, rfl, HN.out, HG1.out.mono (fun _ _ h => h.elim)⟩
  case round =>
    obtain ⟨k, l', bg', c', R', hk, rfl, HRr, HHr, HCr, HNr, HG⟩ := hrel
    by_cases hlt : k < n
    · have C2 := Lib.hid (qtake_ok b m bg' c' R' d wr HRr.out)
      go_wp2_with fail
      refine C2.out.mono ?_
      rintro e w2 ⟨rfl, ⟨bg2, c2, R2, hr2, hh2⟩, hg2⟩
      have HR2 := Lib.hid hr2
      have HG2 := Lib.hid (HG.out.trans hg2 (fun _ _ h => h))
      have HH2 := Lib.hid hh2
      clear hr2 hh2 hg2 C2
      go_wp2_with fail
      go_roundw
      case rel =>
        refine ⟨k + 1, takeL l' d, bg2, c2, R2, by omega, by go_num, HR2.out, ?_, ?_, ?_, HG2.out⟩
        · have h1 := HH2.out
          rw [HHr.out] at h1
          exact h1
        · exact (clr_take l' d).trans HCr.out
        · have h1 := cnt_take l' d
          rw [HNr.out] at h1
          exact h1.trans (by omega)
      case measure => simp [intOf]; omega
    · have hkn : k = n := by omega
      subst hkn
      have h0 : cntN l' d = 0 := HNr.out.trans (Nat.sub_self _)
      have HL : Hid (l' = clrL l d) := (clr_none l' d h0).symm.trans HCr.out
      clear h0
      go_wp2_with fail
      go_ret
      exact ⟨rfl, ⟨_, _, _, HRr.out, HHr.out.trans HL.out⟩, HG.out⟩
end Go.Proofs.Ytgcjmnjepnmaeaa
