/- The first packet for a node goes out; all of them. -/
import Derived.Test.YtgcjmnjepnmaeaaQrm
import Derived.Test.YtgcjmnjepnmaeaaQrz
namespace Go.Proofs.Ytgcjmnjepnmaeaa
set_option maxRecDepth 100000
open Go.RowKit

theorem chg_put5 (w : World) (b : Nat) (s d t n : Int) (x : ByteArray) : Chg (fun k => k = b) w (put5 w b s d t n x) :=
  ((((Chg.setCell (F := fun k => k = b) (p := ⟨b, 0, none⟩) (Chg.refl _ w) (.inl rfl) _).setCell (p := ⟨b, 1, none⟩) (.inl rfl) _).setCell (p := ⟨b, 2, none⟩) (.inl rfl) _).setCell (p := ⟨b, 3, none⟩) (.inl rfl) _).setCell (p := ⟨b, 4, none⟩) (.inl rfl) _
set_option maxHeartbeats 16000000 in
theorem qtake_ok (b : Nat) (m : Int) (bg c : Nat) (R : Nat → Pk) (d : Int) (w : World) (h : Ring w b m bg c R) :
    Calls Try.prog 13 #[.pointer (some ⟨b, 0, none⟩), .int .i64 d] w fun e w' => e = .returned (.tuple #[pkV (takeV (held bg c R) d), .int .i64 (takeE (held bg c R) d)]) ∧ (∃ bg' c' R', Ring w' b m bg' c' R' ∧ held bg' c' R' = takeL (held bg c R) d) ∧ Chg (fun x => x = b) w w' := by
  obtain ⟨w1, hw1⟩ : ∃ w1, w.alloc (.cells #[.int .i64 0, .int .i64 0, .int .i64 0, .int .i64 0, .string ⟨#[]⟩] 34) = w1 := ⟨_, rfl⟩
  have hb0 : Below w.heap.size w w1 := hw1 ▸ (Below.refl _ w).alloc (Nat.le_refl _) _
  have OV := Lib.hid (hw1 ▸ ownp_alloc w 0 0 0 0 ⟨#[]⟩ 34 w.heap.size rfl : OwnP w1 w.heap.size 0 0 0 0 ⟨#[]⟩)
  have HB := Lib.hid hb0
  have HR := Lib.hid h
  have HL := Lib.hid h.lt
  have c1 := (h.chg (F := fun _ => False) (chg0 hb0) (fun h => h)).cc
  have hc64 : c ≤ 64 := by have := h.hm; omega
  have hb64 : bg < 64 := h.hb
  have HAT : Hid (∀ i, i < c → (held bg c R).getD i zPk = R ((bg + i) % 64)) := fun i hi => held_getD bg c R hi
  have hl := held_len bg c R
  have HREM : Hid (∀ k w, Ring w b m bg c R → k < c → Calls Try.prog 26 #[.pointer (some ⟨b, 0, none⟩), .int .i64 (k : Nat)] w fun e w' => e = .returned (.tuple #[]) ∧ (∃ R', Ring w' b m ((bg + 1) % 64) (c - 1) R' ∧ held ((bg + 1) % 64) (c - 1) R' = (held bg c R).take k ++ (held bg c R).drop (k + 1)) ∧ Chg (fun x => x = b) w w') := fun k w h hk => qremove_ok b m bg c R k w h hk
  obtain ⟨l, hll⟩ : ∃ l, held bg c R = l := ⟨_, rfl⟩
  rw [hll] at HAT hl HREM ⊢
  have HSAME := Lib.hid hll
  have HLEN := Lib.hid hl
  clear h hb0 hl hll
  obtain ⟨⟨u0, u1, u2, u3, u4⟩, uf⟩ := OV.out
  go_enter Try.func13, Try.ntmps13
  go_upto_region 1 with (fail)
  clear hw1
  go_wp2_with fail
  clear u0 u1 u2 u3 u4 uf c1
  go_loopw [15] (fun i wr => ∃ k : Nat, k ≤ c ∧ i = .int .i64 k ∧ Hid (∀ i, i < k → (l.getD i zPk).2.1 ≠ d) ∧ Hid (Below w.heap.size w wr) ∧ Hid (OwnP wr w.heap.size 0 0 0 0 ⟨#[]⟩)) (fun i _ => c - (intOf i).toNat)
  case atStart => exact ⟨0, Nat.zero_le _, rfl, fun i h => absurd h (Nat.not_lt_zero _), HB.out, OV.out⟩
  case round =>
    clear HB OV
    obtain ⟨k, hk, rfl, HNO, HB, HO⟩ := hrel
    have HRr := Lib.hid (HR.out.chg (F := fun _ => False) (chg0 HB.out) (fun h => h))
    by_cases hlt : k < c
    · obtain ⟨k0, hk0⟩ : ∃ k0, (bg + k) % 64 = k0 := ⟨_, rfl⟩
      have hk64 : k0 < 64 := by omega
      have hkk : ((bg : Int) + (k : Int)) % 64 = (k0 : Int) := by omega
      have hbg : (0 : Int) ≤ (bg : Int) ∧ (bg : Int) < 64 := by omega
      have hki0 : (0 : Int) ≤ (k : Int) ∧ (k : Int) ≤ 64 := by omega
      obtain ⟨y, hy⟩ : ∃ y, l.getD k zPk = y := ⟨_, rfl⟩
      have hy0 : R k0 = y := by rw [← hy, HAT.out k hlt, hk0]
      have HY := Lib.hid hy
      obtain ⟨p0, p1, p2, p3, p4⟩ := HRr.out.pk k0 hk64
      rw [hy0] at p0 p1 p2 p3 p4
      have cb0 := HRr.out.cb
      have hbw : b < wr.heap.size := HRr.out.lt
      have cbA : (wr.alloc (.cells #[.int .i64 0, .int .i64 0, .int .i64 0, .int .i64 0, .string ⟨#[]⟩] 34)).cell? ⟨b, 320, none⟩ = some (.int .i64 bg) := (((Below.refl wr.heap.size wr).alloc (Nat.le_refl _) _).cell (p := ⟨b, 320, none⟩) hbw).trans cb0
      have hbne : b ≠ wr.heap.size := by omega
      have hbw0 : b ≠ w.heap.size := by have := HL.out; omega
      clear hy hy0 hk0
      by_cases hd : y.2.1 = d
      · have hq : (y.2.1 == d) = true := by simpa using hd
        have HD := Lib.hid hd
        clear hd
        go_upto_region 6 with (fail)
        go_region_with (go_at_call 24; refine (place_any b bg _ _ (by simp [go_sem, cb0, cbA]) hbg hki0).mono ?_; rintro e w9 ⟨rfl, rfl⟩)
        all_goals
          obtain ⟨g, hg⟩ : ∃ g, wr.heap.size = g := ⟨_, rfl⟩
          have hgb : b ≠ g := by omega
          have hw0 : w.heap.size < g := by have := HB.out.size; have := HO.out.lt; omega
          have ov0 : OwnP (wr.alloc (.cells #[.int .i64 y.1, .int .i64 y.2.1, .int .i64 y.2.2.1, .int .i64 y.2.2.2.1, .string y.2.2.2.2] 34)) g y.1 y.2.1 y.2.2.1 y.2.2.2.1 y.2.2.2.2 := ownp_alloc wr _ _ _ _ _ 34 g hg.symm
          have bl0 : Below wr.heap.size wr (wr.alloc (.cells #[.int .i64 y.1, .int .i64 y.2.1, .int .i64 y.2.2.1, .int .i64 y.2.2.2.1, .string y.2.2.2.2] 34)) := (Below.refl _ wr).alloc (Nat.le_refl _) _
          obtain ⟨V, hV⟩ : ∃ V, (wr.alloc (.cells #[.int .i64 y.1, .int .i64 y.2.1, .int .i64 y.2.2.1, .int .i64 y.2.2.2.1, .string y.2.2.2.2] 34)).drew = V := ⟨_, rfl⟩
          have ov2 : OwnP V g y.1 y.2.1 y.2.2.1 y.2.2.2.1 y.2.2.2.2 := hV ▸ ov0.dn 1
          have bl2 : Below wr.heap.size wr V := hV ▸ below_dn bl0 1
          rw [hV, hg]

          have HBV := Lib.hid (HB.out.trans (bl2.mono HB.out.size))
          have HOV := Lib.hid (HO.out.below bl2)
          have HPV := Lib.hid ov2
          have HRV := Lib.hid (HRr.out.chg (F := fun _ => False) (chg0 bl2) (fun h => h))
          have HGB := Lib.hid hgb
          have HW0 := Lib.hid hw0
          obtain ⟨⟨q0, q1, q2, q3, q4⟩, qf⟩ := HPV.out
          have CR := Lib.hid (HREM.out k V HRV.out hlt)
          clear ov0 bl0 ov2 bl2 hV hg hgb hw0 p0 p1 p2 p3 p4 cb0 cbA hbne hbw hkk hbg hki0
          go_wp2_with fail
          refine CR.out.mono ?_
          rintro e W3 ⟨rfl, ⟨R3, hr3, hh3⟩, hg3⟩
          have HR3 := Lib.hid hr3
          have HH3 := Lib.hid hh3
          have HG3 : Hid (Chg (fun x => x = b) w W3) := (chg0 HBV.out).trans hg3 (fun x _ hx => hx)
          have HO3 := Lib.hid (HOV.out.chg hg3 (fun h => hbw0 h.symm))
          have HP3 := Lib.hid (HPV.out.chg hg3 (fun h => HGB.out h.symm))
          clear hr3 hh3 hg3 q0 q1 q2 q3 q4 qf CR
          obtain ⟨⟨q0, q1, q2, q3, q4⟩, qf⟩ := HP3.out
          obtain ⟨⟨u0, u1, u2, u3, u4⟩, uf⟩ := HO3.out
          have hwg : w.heap.size ≠ g := by have := HW0.out; omega
          go_wp2_with fail
          obtain ⟨ht1, ht2, ht3⟩ := take_at (l := l) (d := d) (k := k) (by rw [HLEN.out]; exact hlt) HNO.out (by rw [HY.out]; exact HD.out)
          have hs := (HO3.out.set y.1 y.2.1 y.2.2.1 y.2.2.2.1 y.2.2.2.2).1
          have hcg := chg_put5 W3 w.heap.size y.1 y.2.1 y.2.2.1 y.2.2.2.1 y.2.2.2.2
          unfold put5 at hs hcg
          generalize ((((W3.setCell ⟨w.heap.size, 0, none⟩ (.int .i64 y.1)).setCell ⟨w.heap.size, 1, none⟩ (.int .i64 y.2.1)).setCell ⟨w.heap.size, 2, none⟩ (.int .i64 y.2.2.1)).setCell ⟨w.heap.size, 3, none⟩ (.int .i64 y.2.2.2.1)).setCell ⟨w.heap.size, 4, none⟩ (.string y.2.2.2.2) = W5 at *
          obtain ⟨s0_, s1_, s2_, s3_, s4_⟩ := hs
          have hlw := HL.out
          refine bodyPost_ret (v := .tuple #[pkV y, .int .i64 0]) (by simp [results, Try.results13, go_sem, s0_, s1_, s2_, s3_, s4_]) rfl ⟨?_, ⟨_, _, R3, HR3.out.chg hcg (fun h => by omega), by rw [HH3.out, ht3]⟩, HG3.out.trans hcg (fun x hx h => by omega)⟩
          rw [ht1, ht2, HY.out]
      · have hq : (y.2.1 == d) = false := by simpa using hd
        have HD := Lib.hid hd
        clear hd
        go_upto_region 6 with (fail)
        go_region_with (go_at_call 24; refine (place_any b bg _ _ (by simp [go_sem, cb0, cbA]) hbg hki0).mono ?_; rintro e w9 ⟨rfl, rfl⟩)
        all_goals
          obtain ⟨g, hg⟩ : ∃ g, wr.heap.size = g := ⟨_, rfl⟩
          have hgb : b ≠ g := by omega
          have hw0 : w.heap.size < g := by have := HB.out.size; have := HO.out.lt; omega
          have ov0 : OwnP (wr.alloc (.cells #[.int .i64 y.1, .int .i64 y.2.1, .int .i64 y.2.2.1, .int .i64 y.2.2.2.1, .string y.2.2.2.2] 34)) g y.1 y.2.1 y.2.2.1 y.2.2.2.1 y.2.2.2.2 := ownp_alloc wr _ _ _ _ _ 34 g hg.symm
          have bl0 : Below wr.heap.size wr (wr.alloc (.cells #[.int .i64 y.1, .int .i64 y.2.1, .int .i64 y.2.2.1, .int .i64 y.2.2.2.1, .string y.2.2.2.2] 34)) := (Below.refl _ wr).alloc (Nat.le_refl _) _
          obtain ⟨V, hV⟩ : ∃ V, (wr.alloc (.cells #[.int .i64 y.1, .int .i64 y.2.1, .int .i64 y.2.2.1, .int .i64 y.2.2.2.1, .string y.2.2.2.2] 34)).drew = V := ⟨_, rfl⟩
          have ov2 : OwnP V g y.1 y.2.1 y.2.2.1 y.2.2.2.1 y.2.2.2.2 := hV ▸ ov0.dn 1
          have bl2 : Below wr.heap.size wr V := hV ▸ below_dn bl0 1
          rw [hV, hg]
          have HBV := Lib.hid (HB.out.trans (bl2.mono HB.out.size))
          have HOV := Lib.hid (HO.out.below bl2)
          have HPV := Lib.hid ov2
          clear ov0 bl0 ov2 bl2 hV hg hgb hw0 p0 p1 p2 p3 p4 cb0 cbA hbne hbw hkk hbg hki0
          obtain ⟨⟨q0, q1, q2, q3, q4⟩, qf⟩ := HPV.out
          go_wp2_with fail
          go_roundw
          case rel =>
            refine ⟨k + 1, by omega, by go_num, fun i hi => ?_, HBV.out, HOV.out⟩
            by_cases e : i = k
            · subst e
              rw [HY.out]
              exact HD.out
            · exact HNO.out i (by omega)
          case measure => simp [intOf]; omega
    · have hkc : k = c := by omega
      subst hkc
      obtain ⟨ht1, ht2, ht3⟩ := take_no (l := l) (d := d) (by rw [HLEN.out]; exact HNO.out)
      have HT := Lib.hid (And.intro ht1 (And.intro ht2 ht3))
      obtain ⟨⟨u0, u1, u2, u3, u4⟩, uf⟩ := HO.out
      clear ht1 ht2 ht3
      go_wp2_with fail
      have hs := (HO.out.set 0 0 0 0 ⟨#[]⟩).1
      have hcg := chg_put5 wr w.heap.size 0 0 0 0 ⟨#[]⟩
      unfold put5 at hs hcg
      generalize ((((wr.setCell ⟨w.heap.size, 0, none⟩ (.int .i64 0)).setCell ⟨w.heap.size, 1, none⟩ (.int .i64 0)).setCell ⟨w.heap.size, 2, none⟩ (.int .i64 0)).setCell ⟨w.heap.size, 3, none⟩ (.int .i64 0)).setCell ⟨w.heap.size, 4, none⟩ (.string ⟨#[]⟩) = W5 at *
      obtain ⟨s0_, s1_, s2_, s3_, s4_⟩ := hs
      have hlw := HL.out
      refine bodyPost_ret (v := .tuple #[pkV zPk, .int .i64 7]) (by simp [results, Try.results13, go_sem, s0_, s1_, s2_, s3_, s4_, zPk]) rfl ⟨?_, ⟨_, _, R, HRr.out.chg hcg (fun h => by omega), by rw [HT.out.2.2]; exact HSAME.out⟩, (chg0 HB.out).trans hcg (fun x hx h => by omega)⟩
      rw [HT.out.1, HT.out.2.1]
end Go.Proofs.Ytgcjmnjepnmaeaa
