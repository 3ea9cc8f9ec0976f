/- slices.symMergeCmpFunc of a row of ints: one that is merged from behind. -/

import Derived.Test.YtmimgpnogjgliaaSk4
namespace Go.Proofs.Ytmimgpnogjgliaa
set_option maxRecDepth 100000
open Go.RowKit

section
variable {ok : Int → Prop} {cf : Int → Int → Int} {lt : Int → Int → Prop} {B : Nat} {w0 : World} {cbv : Value} {b off n cap : Nat}
set_option maxHeartbeats 8000000 in
theorem smerge_last (O : SOrd ok cf lt) (HC : CmpC cbv B w0 ok cf) (X L Z : List Int) (y : Int) (hL : 1 < L.length) (w : World) (h : SX B w0 b off w (X ++ (L ++ (y :: Z)))) (sL : L.Pairwise lt) (hLR : ∀ x ∈ L, x < y) (okL : ∀ x ∈ L, ok x) (oky : ok y) (hn : n = X.length + L.length + 1 + Z.length) (hbig : n ≤ 100000) (a m c : Nat) (ha : a = X.length) (hm : m = a + L.length) (hc : c = m + 1) :
    Calls Try.prog 72 #[.slice (some ⟨b, off, none⟩) n cap, .int .i64 a, .int .i64 m, .int .i64 c, .func (.func 62) #[] #[cbv]] w fun e w' => e = .returned (.tuple #[]) ∧ ∃ S, SX B w0 b off w' (X ++ (S ++ Z)) ∧ S.Perm (y :: L) ∧ S.Pairwise lt := by
  have mixed : Try.prog.follows .mixedOrders = true := by kernel_rfl
  have H := Lib.hid h
  have HN := Lib.hid (And.intro hn (And.intro ha (And.intro hm (And.intro hc hL))))
  have q1 : IntKind.i64.wrap ((m : Int) - (a : Int)) = (L.length : Int) := by rw [IntKind.wrap_i64]; omega
  have q2 : ¬ (L.length : Int) = 1 := by omega
  have q3 : IntKind.i64.wrap ((c : Int) - (m : Int)) = 1 := by rw [IntKind.wrap_i64]; omega
  have HO := Lib.hid O
  have HCC := Lib.hid HC
  have HLR := Lib.hid hLR
  have OKY := Lib.hid oky
  have OKL := Lib.hid okL
  have SL0 := Lib.hid sL
  clear h ha hm hc hn O HC hLR oky okL sL
  go_enter Try.func72, Try.ntmps72
  go_upto_region 13 with (fail)
  generalize Value.bool ((L.length : Int) == 1) = u28
  clear q2
  go_wp2_with fail
  go_loopw [14, 15] (fun i j wr => ∃ (s t : Nat), i = .int .i64 s ∧ j = .int .i64 t ∧ a ≤ s ∧ s ≤ t ∧ t ≤ m ∧ Hid (SX B w0 b off wr (X ++ (L ++ (y :: Z)))) ∧ Hid (s = a ∨ (a < s ∧ lt (L.getD (s - 1 - a) 0) y)) ∧ Hid (t = m ∨ (t < m ∧ lt y (L.getD (t - a) 0)))) (fun i j _ => (intOf j).toNat - (intOf i).toNat)
  case atStart => exact ⟨a, m, rfl, rfl, Nat.le_refl _, by have := HN.out; omega, Nat.le_refl _, H.out, .inl rfl, .inl rfl⟩
  case round =>
    obtain ⟨s, t, rfl, rfl, hms, hst, htc, HS, H1, H2⟩ := hrel
    clear H
    by_cases hlt : s < t
    · have hltz : (s : Int) < (t : Int) := by omega
      obtain ⟨hh0, hh⟩ : ∃ hh0, hh0 = (s + t) / 2 := ⟨_, rfl⟩
      have rA : IntKind.i64.wrap ((s : Int) + (t : Int)) = (s : Int) + (t : Int) := by have := HN.out; rw [IntKind.wrap_i64]; omega
      have rB : IntKind.u64.wrap ((s : Int) + (t : Int)) = (s : Int) + (t : Int) := by have := HN.out; exact wrap_u (s + t) (by omega)
      have rC : IntKind.i64.wrap (((s : Int) + (t : Int)) / 2) = (hh0 : Int) := by have := HN.out; rw [IntKind.wrap_i64]; omega
      have r1 : IntKind.i64.wrap ((hh0 : Int) + 1) = (hh0 : Int) + 1 := by have := HN.out; rw [IntKind.wrap_i64]; omega
      have h3 : s ≤ hh0 ∧ hh0 < t := by omega
      obtain ⟨x, hx⟩ : ∃ x, L.getD (hh0 - a) 0 = x := ⟨_, rfl⟩
      have l2 : (X ++ (L ++ (y :: Z))).getD hh0 0 = x := by
        rw [gd_in _ _ _ (by have := HN.out; omega) (by have := HN.out; omega), ← hx, HN.out.2.1]
      have l1 : (X ++ (L ++ (y :: Z))).getD m 0 = y := by
        rw [← List.append_assoc]
        exact gd_mid _ _ _ (by have := HN.out; simp; omega)
      have hj1 : hh0 < (X ++ (L ++ (y :: Z))).length := by have := HN.out; simp; omega
      have hi1 : m < (X ++ (L ++ (y :: Z))).length := by have := HN.out; simp; omega
      have b1 : (hh0 : Int) < (n : Int) := by have := HN.out; omega
      have b2 : (m : Int) < (n : Int) := by have := HN.out; omega
      have hxL : x ∈ L := hx ▸ gd_mem (by have := HN.out; omega)
      have i1 := HLR.out x hxL
      have okx := OKL.out x hxL
      have cX := HS.out.cmp HCC.out OKY.out okx
      have kc : ∀ w', Below wr.heap.size wr w' → w'.cell? ⟨b, off + m, none⟩ = some (.int .i64 y) ∧ w'.cell? ⟨b, off + hh0, none⟩ = some (.int .i64 x) := fun w' hb => by
        have h1 := (HS.out.low hb).c (i := m) hi1
        have h2 := (HS.out.low hb).c (i := hh0) hj1
        rw [l1] at h1
        rw [l2] at h2
        exact ⟨h1, h2⟩
      have c1 := (kc _ (Below.refl _ _)).1
      have c2 := (kc _ (Below.refl _ _)).2
      have HX := Lib.hid hx
      have H3 := Lib.hid h3
      clear hx h3 hh l1 l2 hi1 hj1
      by_cases hv : cf y x < 0
      · have hl := HO.out.yes x y okx OKY.out i1 hv
        have hvd : decide (cf y x < 0) = true := decide_eq_true hv
        go_upto_region 17 with (fail)
        go_region_held (fun w' => w'.cell? ⟨b, off + m, none⟩ = some (.int .i64 y) ∧ w'.cell? ⟨b, off + hh0, none⟩ = some (.int .i64 x)) (first | exact ⟨k1, k2⟩ | exact ⟨c1, c2⟩ | go_keep) (first
          | (go_at_call 62; refine (cX _ (Below.refl _ _).drew).mono ?_; rintro e V ⟨rfl, hb0⟩; have hb := Below.trans (Below.refl _ _).drew hb0; clear hb0; have k1 := (kc _ hb).1; have k2 := (kc _ hb).2))
        have HS3 := Lib.hid (HS.out.low hb)
        clear HS hb kc cX c1 c2 k1 k2
        go_wp2_with fail
        go_roundw
        case rel => exact ⟨s, hh0, rfl, rfl, hms, by have := H3.out; omega, by have := H3.out; omega, HS3, H1, .inr ⟨by have := H3.out; omega, by rw [HX.out]; exact hl⟩⟩
        case measure => have := H3.out; simp [intOf]; omega
      · have hl := HO.out.no x y okx OKY.out i1 hv
        have hvd : decide (cf y x < 0) = false := decide_eq_false hv
        go_upto_region 17 with (fail)
        go_region_held (fun w' => w'.cell? ⟨b, off + m, none⟩ = some (.int .i64 y) ∧ w'.cell? ⟨b, off + hh0, none⟩ = some (.int .i64 x)) (first | exact ⟨k1, k2⟩ | exact ⟨c1, c2⟩ | go_keep) (first
          | (go_at_call 62; refine (cX _ (Below.refl _ _).drew).mono ?_; rintro e V ⟨rfl, hb0⟩; have hb := Below.trans (Below.refl _ _).drew hb0; clear hb0; have k1 := (kc _ hb).1; have k2 := (kc _ hb).2))
        have HS3 := Lib.hid (HS.out.low hb)
        clear HS hb kc cX c1 c2 k1 k2
        go_wp2_with fail
        go_roundw
        case rel => exact ⟨hh0 + 1, t, by go_num, rfl, by have := H3.out; omega, by have := H3.out; omega, htc, HS3, .inr ⟨by have := H3.out; omega, by rw [Nat.add_sub_cancel, HX.out]; exact hl⟩, H2⟩
        case measure => have := H3.out; simp [intOf]; omega
    · obtain rfl : s = t := by omega
      have hltz : ¬ (s : Int) < (s : Int) := by omega
      have HS0 : Hid (SX B w0 b off wr (Put1 X L y Z L.length)) := by
        show SX _ _ _ _ _ _
        have := HS.out
        simpa [Put1] using this
      clear HS
      go_wp2_with fail
      go_loopw [17] (fun k wr => ∃ (u : Nat), k = .int .i64 ((a : Int) + (u : Int)) ∧ s ≤ a + u ∧ u ≤ L.length ∧ Hid (SX B w0 b off wr (Put1 X L y Z u))) (fun k _ => (intOf k).toNat)
      case atStart => exact ⟨L.length, by have := HN.out; simp only [Value.int.injEq, true_and]; omega, by have := HN.out; omega, Nat.le_refl _, HS0⟩
      case round =>
        obtain ⟨u, rfl, hu, huL, HS⟩ := hrel
        clear HS0
        by_cases hlt : s < a + u
        · obtain ⟨u, rfl⟩ : ∃ u', u = u' + 1 := ⟨u - 1, by omega⟩
          have hltz : (s : Int) < (a : Int) + ((u : Int) + 1) := by omega
          have hltz2 : (a : Int) + ((u : Int) + 1) > (s : Int) := by omega
          obtain ⟨iN, hiN⟩ : ∃ iN, iN = a + u + 1 := ⟨_, rfl⟩
          obtain ⟨jN, hjN⟩ : ∃ jN, jN = a + u := ⟨_, rfl⟩
          obtain ⟨l1, l2, l3⟩ := (Put1.step X L y Z (q := u) (i := jN) (j := iN) (by omega) (by have := HN.out; omega) (by have := HN.out; omega)).2
          have hln := Put1.len X L y Z (u + 1)
          obtain ⟨d, hd⟩ : ∃ d, Put1 X L y Z (u + 1) = d := ⟨_, rfl⟩
          obtain ⟨x, hx⟩ : ∃ x, L.getD u 0 = x := ⟨_, rfl⟩
          rw [hd] at HS l1 l2 l3 hln
          rw [hx] at l2
          have hi1 : iN < d.length := by have := HN.out; omega
          have hj1 : jN < d.length := by have := HN.out; omega
          have e1 : ((a : Int) + ((u : Int) + 1)).toNat = iN := by omega
          have p1 : (0 : Int) ≤ (a : Int) + ((u : Int) + 1) := by omega
          have b1 : (a : Int) + ((u : Int) + 1) < (n : Int) := by have := HN.out; omega
          have r2 : IntKind.i64.wrap ((a : Int) + ((u : Int) + 1) - 1) = (a : Int) + (u : Int) := by have := HN.out; rw [IntKind.wrap_i64]; omega
          have e2 : ((a : Int) + (u : Int)).toNat = jN := by omega
          have p2 : (0 : Int) ≤ (a : Int) + (u : Int) := by omega
          have b2 : (a : Int) + (u : Int) < (n : Int) := by have := HN.out; omega
          clear hd hx hiN hjN hln
          have c1 := HS.out.c (i := iN) hi1
          have c2 := HS.out.c (i := jN) hj1
          have f1 := HS.out.f (i := iN) hi1
          have f2 := HS.out.f (i := jN) hj1
          have HS4 := HS.out.swap (i := iN) (j := jN) hi1 hj1
          obtain ⟨u3, c3⟩ := HS.out.c2 (i := iN) (j := jN) hi1 hj1 (.int .i64 x)
          rw [l1] at c1 HS4
          rw [l2] at c2 HS4
          rw [l3] at HS4
          have HS5 := Lib.hid HS4.drew
          clear HS HS4 l1 l2 l3 hi1 hj1
          go_wp2_with fail
          go_big_region_o
          clear c1 c2 c3 f1 f2
          generalize ((wr.setCell ⟨b, off + iN, none⟩ (.int .i64 x)).setCell ⟨b, off + jN, none⟩ (.int .i64 y)).drew = w3 at HS5 ⊢
          clear e1 e2
          go_wp2_with fail
          go_roundw
          case rel => exact ⟨u, rfl, by omega, by omega, HS5⟩
          case measure => simp [intOf]; omega
        · have hltz : ¬ (s : Int) < (a : Int) + (u : Int) := by omega
          have hltz2 : ¬ (a : Int) + (u : Int) > (s : Int) := by omega
          go_wp2_with fail
          refine bodyPost_ret (v := .tuple #[]) (by simp [results, Try.results72, go_sem]) rfl ?_
          have hu2 : u = s - a := by have := HN.out; omega
          refine ⟨rfl, L.take u ++ y :: L.drop u, ?_, Put1.perm L y u, Put1.srt HO.out.tr SL0.out huL ?_ ?_⟩
          · have := HS.out
            simpa [Put1] using this
          · rcases H1.out with h1 | ⟨h1, h2⟩
            · exact .inl (by omega)
            · exact .inr ⟨by omega, by rw [show u - 1 = s - 1 - a by omega]; exact h2⟩
          · rcases H2.out with h1 | ⟨h1, h2⟩
            · exact .inl (by have := HN.out; omega)
            · exact .inr ⟨by have := HN.out; omega, by rw [hu2]; exact h2⟩
end
end Go.Proofs.Ytmimgpnogjgliaa

