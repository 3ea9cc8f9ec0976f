/- A packet goes out of the ring: those ahead of it move one place on, and with them the beginning. -/
import Derived.Test.YtgcjmnjepnmaeaaQry
namespace Go.Proofs.Ytgcjmnjepnmaeaa
set_option maxRecDepth 100000
open Go.RowKit

theorem shift_step {bg j k : Nat} {R R' : Nat → Pk} (hj : 0 < j) (hjk : j ≤ k) (hk : k < 64) (h : ∀ t, t < 64 → R' ((bg + t) % 64) = if j < t ∧ t ≤ k then R ((bg + t - 1) % 64) else R ((bg + t) % 64)) :
    ∀ t, t < 64 → (fun p => if p = (bg + j) % 64 then R' ((bg + (j - 1)) % 64) else R' p) ((bg + t) % 64) = if j - 1 < t ∧ t ≤ k then R ((bg + t - 1) % 64) else R ((bg + t) % 64) := by
  intro t ht
  by_cases e : t = j
  · subst e
    rw [if_pos (by omega)]
    simp only [if_true]
    rw [h (t - 1) (by omega), if_neg (by omega)]
    congr 1
    omega
  · have hne : ¬ (bg + t) % 64 = (bg + j) % 64 := by omega
    simp only [if_neg hne]
    rw [h t ht]
    by_cases h1 : j < t ∧ t ≤ k
    · rw [if_pos h1, if_pos (by omega)]
    · rw [if_neg h1, if_neg (by omega)]
theorem held_remove {bg c k : Nat} {R R' : Nat → Pk} (hk : k < c) (hc : c ≤ 64) (_hb : bg < 64) (h : ∀ t, t < 64 → R' ((bg + t) % 64) = if 0 < t ∧ t ≤ k then R ((bg + t - 1) % 64) else R ((bg + t) % 64)) :
    held ((bg + 1) % 64) (c - 1) (fun p => if p = bg then zPk else R' p) = (held bg c R).take k ++ (held bg c R).drop (k + 1) := by
  refine List.ext_getElem (by simp [held]; omega) fun i h1 h2 => ?_
  have hi : i < c - 1 := by rw [held_len] at h1; exact h1
  have e1 : ((bg + 1) % 64 + i) % 64 = (bg + (i + 1)) % 64 := by omega
  have hne : ¬ (bg + (i + 1)) % 64 = bg := by omega
  have hl : (held ((bg + 1) % 64) (c - 1) (fun p => if p = bg then zPk else R' p))[i] = R' ((bg + (i + 1)) % 64) := by
    simp only [held, List.getElem_map, List.getElem_range, e1, if_neg hne]
  rw [hl, h (i + 1) (by omega)]
  by_cases hik : i < k
  · rw [if_pos (by omega), List.getElem_append_left (by rw [List.length_take, held_len]; omega), List.getElem_take]
    simp [held]
  · rw [if_neg (by omega), List.getElem_append_right (by rw [List.length_take, held_len]; omega), List.getElem_drop]
    simp only [held, List.getElem_map, List.getElem_range, List.length_take, List.length_map, List.length_range]
    congr 1
    omega
theorem Ring.begin {w : World} {b : Nat} {m : Int} {bg c : Nat} {R : Nat → Pk} (h : Ring w b m bg c R) (b' : Nat) (hb : b' < 64) : Ring (w.setCell ⟨b, 320, none⟩ (.int .i64 b')) b m b' c R := by
  have hp := fun j => cell_set w b 320 j (.int .i64 b') _ h.cb
  refine ⟨fun j hj => ?_, ?_, ?_, ?_, fun j => by simp [go_sem, h.fz], hb, h.hm⟩
  · obtain ⟨h0, h1, h2, h3, h4⟩ := h.pk j hj
    refine ⟨?_, ?_, ?_, ?_, ?_⟩ <;> rw [hp, if_neg (by omega)] <;> assumption
  · rw [hp, if_pos rfl]
  · rw [hp, if_neg (by omega)]; exact h.cc
  · rw [hp, if_neg (by omega)]; exact h.cm
set_option maxHeartbeats 16000000 in
theorem qremove_ok (b : Nat) (m : Int) (bg c : Nat) (R : Nat → Pk) (k : Nat) (w : World) (h : Ring w b m bg c R) (hk : k < c) :
    Calls Try.prog 26 #[.pointer (some ⟨b, 0, none⟩), .int .i64 k] w fun e w' => e = .returned (.tuple #[]) ∧ (∃ R', Ring w' b m ((bg + 1) % 64) (c - 1) R' ∧ held ((bg + 1) % 64) (c - 1) R' = (held bg c R).take k ++ (held bg c R).drop (k + 1)) ∧ Chg (fun x => x = b) w w' := by
  have HR := Lib.hid h
  have HK := Lib.hid hk
  have hc64 : c ≤ 64 := by have := h.hm; omega
  have hb64 : bg < 64 := h.hb
  have HRES : Hid (∀ R' : Nat → Pk, (∀ t, t < 64 → R' ((bg + t) % 64) = if 0 < t ∧ t ≤ k then R ((bg + t - 1) % 64) else R ((bg + t) % 64)) → held ((bg + 1) % 64) (c - 1) (fun p => if p = bg then zPk else R' p) = (held bg c R).take k ++ (held bg c R).drop (k + 1)) := fun R' h' => held_remove hk hc64 hb64 h'
  clear h hk
  go_enter Try.func26, Try.ntmps26
  go_wp2_with fail
  go_loopw [1] (fun i wr => ∃ (j : Nat) (R' : Nat → Pk), j ≤ k ∧ i = .int .i64 j ∧ Hid (Ring wr b m bg c R') ∧ Hid (∀ t, t < 64 → R' ((bg + t) % 64) = if j < t ∧ t ≤ k then R ((bg + t - 1) % 64) else R ((bg + t) % 64)) ∧ Hid (Chg (fun x => x = b) w wr)) (fun i _ => (intOf i).toNat)
  case atStart => exact ⟨k, R, Nat.le_refl _, rfl, HR.out, fun t ht => by rw [if_neg (by omega)], Chg.refl _ _⟩
  case round =>
    obtain ⟨j, R', hj, rfl, HRr, HS, HG⟩ := hrel
    have hj64 : j < 64 := by have := HK.out; omega
    by_cases h0 : 0 < j
    · obtain ⟨k1, hk1⟩ : ∃ k1, (bg + j) % 64 = k1 := ⟨_, rfl⟩
      obtain ⟨k2, hk2⟩ : ∃ k2, (bg + (j - 1)) % 64 = k2 := ⟨_, rfl⟩
      have hk164 : k1 < 64 := by omega
      have hk264 : k2 < 64 := by omega
      have hi1 : ((bg : Int) + (j : Int)) % 64 = (k1 : Int) := by omega
      have hi2 : ((bg : Int) + ((j : Int) - 1)) % 64 = (k2 : Int) := by omega
      have hwr : IntKind.i64.wrap ((j : Int) - 1) = (j : Int) - 1 := by rw [IntKind.wrap_i64]; omega
      obtain ⟨z, hz⟩ : ∃ z, R' k2 = z := ⟨_, rfl⟩
      obtain ⟨p0, p1, p2, p3, p4⟩ := HRr.out.pk k2 hk264
      rw [hz] at p0 p1 p2 p3 p4
      obtain ⟨o0, o1, o2, o3, o4⟩ := HRr.out.pk k1 hk164
      have hfz := HRr.out.fz
      have cb1 := Lib.hid HRr.out.cb
      have hstep := shift_step (bg := bg) h0 hj (by have := HK.out; omega) HS.out
      rw [hk1, hk2, hz] at hstep
      have HSTEP := Lib.hid hstep
      have HJ := Lib.hid h0
      clear hk1 hk2 hz hstep
      go_upto_region 2 with (fail)
      go_region_with (go_at_call 24; refine (place_any b bg _ wr.drew cb1.out (by omega) (by omega)).mono ?_; rintro e w9 ⟨rfl, rfl⟩)
      all_goals
        have hr0 := (HRr.out.putAt hk164 z).chg (F := fun _ => False) (Chg.refl _ _).drew (fun h => h)
        have hg0 : Chg (fun x => x = b) w (putAt wr b (k1 * 5) z).drew := (HG.out.trans (putAt_chg wr b (k1 * 5) z) (fun x _ hx => hx)).drew
        unfold putAt at hr0 hg0
        obtain ⟨V, hV⟩ : ∃ V, (((((wr.setCell ⟨b, k1 * 5, none⟩ (.int .i64 z.1)).setCell ⟨b, k1 * 5 + 1, none⟩ (.int .i64 z.2.1)).setCell ⟨b, k1 * 5 + 2, none⟩ (.int .i64 z.2.2.1)).setCell ⟨b, k1 * 5 + 3, none⟩ (.int .i64 z.2.2.2.1)).setCell ⟨b, k1 * 5 + 4, none⟩ (.string z.2.2.2.2)).drew = V := ⟨_, rfl⟩
        rw [hV] at hr0 hg0 ⊢
        have HR1 := Lib.hid hr0
        have HG1 := Lib.hid hg0
        clear hV hr0 hg0 p0 p1 p2 p3 p4 o0 o1 o2 o3 o4 hfz
        go_wp2_with fail
        go_roundw
        case rel =>
          have hjj : ((j - 1 : Nat) : Int) = (j : Int) - 1 := by have := HJ.out; omega
          exact ⟨j - 1, _, by omega, by rw [hjj], HR1.out, HSTEP.out, HG1.out⟩
        case measure => simp [intOf]; omega
    · obtain rfl : j = 0 := by omega
      have HRS := Lib.hid (HRES.out R' HS.out)
      obtain ⟨o0, o1, o2, o3, o4⟩ := HRr.out.pk bg hb64
      have hfz := HRr.out.fz
      have cb1 := Lib.hid HRr.out.cb
      have hi0 : ((bg : Int) + 0) % 64 = (bg : Int) := by omega
      have C0 := Lib.hid (place_any b bg 0 wr.drew cb1.out (by omega) (by omega))
      rw [hi0] at C0
      have HCK : Hid (0 < c) := by have := HK.out; show _ < _; omega
      go_upto_region 3 with (fail)
      go_region_with (go_at_call 24; refine C0.out.mono ?_; rintro e w9 ⟨rfl, rfl⟩)
      have hr0 : Ring (((((wr.setCell ⟨b, bg * 5, none⟩ (.int .i64 0)).setCell ⟨b, bg * 5 + 1, none⟩ (.int .i64 0)).setCell ⟨b, bg * 5 + 2, none⟩ (.int .i64 0)).setCell ⟨b, bg * 5 + 3, none⟩ (.int .i64 0)).setCell ⟨b, bg * 5 + 4, none⟩ (.string ⟨#[]⟩)).drew b m bg c (fun p => if p = bg then zPk else R' p) := (HRr.out.putAt hb64 zPk).chg (F := fun _ => False) (Chg.refl _ _).drew (fun h => h)
      have hg0 : Chg (fun x => x = b) w (((((wr.setCell ⟨b, bg * 5, none⟩ (.int .i64 0)).setCell ⟨b, bg * 5 + 1, none⟩ (.int .i64 0)).setCell ⟨b, bg * 5 + 2, none⟩ (.int .i64 0)).setCell ⟨b, bg * 5 + 3, none⟩ (.int .i64 0)).setCell ⟨b, bg * 5 + 4, none⟩ (.string ⟨#[]⟩)).drew := (HG.out.trans (putAt_chg wr b (bg * 5) zPk) (fun x _ hx => hx)).drew
      obtain ⟨V, hV⟩ : ∃ V, (((((wr.setCell ⟨b, bg * 5, none⟩ (.int .i64 0)).setCell ⟨b, bg * 5 + 1, none⟩ (.int .i64 0)).setCell ⟨b, bg * 5 + 2, none⟩ (.int .i64 0)).setCell ⟨b, bg * 5 + 3, none⟩ (.int .i64 0)).setCell ⟨b, bg * 5 + 4, none⟩ (.string ⟨#[]⟩)).drew = V := ⟨_, rfl⟩
      rw [hV] at hr0 hg0 ⊢
      have HR1 := Lib.hid hr0
      have HG1 := Lib.hid hg0
      have cb2 := Lib.hid hr0.cb
      clear hV hr0 hg0 o0 o1 o2 o3 o4 hfz hi0 cb1 C0
      obtain ⟨b1, hb1⟩ : ∃ b1, (bg + 1) % 64 = b1 := ⟨_, rfl⟩
      have hb164 : b1 < 64 := by omega
      have hi1 : ((bg : Int) + 1) % 64 = (b1 : Int) := by omega
      rw [hb1] at HRS
      have C1 := Lib.hid (place_any b bg 1 V.drew cb2.out (by omega) (by omega))
      rw [hi1] at C1
      have HB1 := Lib.hid hb1
      clear hb1
      go_upto_region 4 with (fail)
      go_region_with (first | (go_at_call 24; refine C1.out.mono ?_; rintro e w9 ⟨rfl, rfl⟩) | (go_at_call 30; refine (store_any b 320 bg b1 V.drew cb2.out (HR1.out.fz 320)).mono ?_; rintro e w9 ⟨rfl, hw9⟩; have HR9 : Hid (Ring w9 b m b1 c (fun p => if p = bg then zPk else R' p)) := hw9 ▸ Ring.begin (HR1.out.chg (F := fun _ => False) (Chg.refl _ V).drew (fun h => h)) b1 hb164; have HG9 : Hid (Chg (fun x => x = b) w w9) := hw9 ▸ (HG1.out.drew).setCell (p := ⟨b, 320, none⟩) (.inl rfl) (.int .i64 b1); clear hw9))
      have c1 := HR9.out.cc
      have f1 := HR9.out.fz
      have e1 : ((c - 1 : Nat) : Int) = (c : Int) - 1 := by have := HCK.out; omega
      have hwr : IntKind.i64.wrap ((c : Int) - 1) = (c : Int) - 1 := by rw [IntKind.wrap_i64]; omega
      have HR10 := Lib.hid (Ring.count HR9.out (c - 1) (by have := HR9.out.hm; omega))
      have HG10 := Lib.hid (HG9.out.setCell (p := ⟨b, 321, none⟩) (.inl rfl) (.int .i64 ((c - 1 : Nat) : Int)))
      rw [e1] at HR10 HG10
      clear e1
      go_wp2_with fail
      go_end0
      rw [HB1.out]
      exact ⟨rfl, ⟨_, HR10.out, HRS.out⟩, HG10.out⟩
end Go.Proofs.Ytgcjmnjepnmaeaa
