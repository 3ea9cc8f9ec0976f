/- slices.symMergeCmpFunc of a row of ints. -/

import Derived.Test.YtmimgpnogjgliaaSk5
namespace Go.Proofs.Ytmimgpnogjgliaa
set_option maxRecDepth 100000
open Go.RowKit

section
variable {ok : Int → Prop} {cf : Int → Int → Int} {lt : Int → Int → Prop} {B : Nat} {w0 : World} {cbv : Value} {b off n cap : Nat}
/-- What symMerge does with up to N of a row. -/
def MergeOk (ok : Int → Prop) (lt : Int → Int → Prop) (B : Nat) (w0 : World) (cbv : Value) (b off n cap N : Nat) : Prop :=
  ∀ (X L R Z : List Int) (w : World) (a m c : Nat), L.length + R.length ≤ N → 0 < L.length → 0 < R.length → SX B w0 b off w (X ++ (L ++ (R ++ Z))) → L.Pairwise lt → R.Pairwise lt → (∀ x ∈ L, ∀ y ∈ R, x < y) → (∀ x ∈ L, ok x) → (∀ y ∈ R, ok y) →
    n = X.length + L.length + R.length + Z.length → a = X.length → m = a + L.length → c = m + R.length →
    Calls Try.prog 72 #[.slice (some ⟨b, off, none⟩) n cap, .int .i64 a, .int .i64 m, .int .i64 c, .func (.func 62) #[] #[cbv]] w fun e w' => e = .returned (.tuple #[]) ∧ ∃ S, SX B w0 b off w' (X ++ (S ++ Z)) ∧ S.Perm (L ++ R) ∧ S.Pairwise lt
set_option maxHeartbeats 16000000 in
theorem smerge_gen (O : SOrd ok cf lt) (HC : CmpC cbv B w0 ok cf) (N : Nat) (IH : MergeOk ok lt B w0 cbv b off n cap N) (X L R Z : List Int) (hL : 1 < L.length) (hR : 1 < R.length) (hNN : L.length + R.length ≤ N + 1) (w : World) (h : SX B w0 b off w (X ++ (L ++ (R ++ Z)))) (sL : L.Pairwise lt) (sR : R.Pairwise lt) (hLR : ∀ x ∈ L, ∀ y ∈ R, x < y) (okL : ∀ x ∈ L, ok x) (okR : ∀ y ∈ R, ok y) (hn : n = X.length + L.length + R.length + Z.length) (hbig : n ≤ 100000) (a m c : Nat) (ha : a = X.length) (hm : m = a + L.length) (hc : c = m + R.length) :
    Calls Try.prog 72 #[.slice (some ⟨b, off, none⟩) n cap, .int .i64 a, .int .i64 m, .int .i64 c, .func (.func 62) #[] #[cbv]] w fun e w' => e = .returned (.tuple #[]) ∧ ∃ S, SX B w0 b off w' (X ++ (S ++ Z)) ∧ S.Perm (L ++ R) ∧ S.Pairwise lt := by
  have mixed : Try.prog.follows .mixedOrders = true := by kernel_rfl
  have H := Lib.hid h
  have HN := Lib.hid (And.intro hn (And.intro ha (And.intro hm (And.intro hc (And.intro hL (And.intro hR hNN))))))
  have q1 : IntKind.i64.wrap ((m : Int) - (a : Int)) = (L.length : Int) := by rw [IntKind.wrap_i64]; omega
  have q2 : ¬ (L.length : Int) = 1 := by omega
  have q3 : IntKind.i64.wrap ((c : Int) - (m : Int)) = (R.length : Int) := by rw [IntKind.wrap_i64]; omega
  have q4 : ¬ (R.length : Int) = 1 := by omega
  have HO := Lib.hid O
  have HCC := Lib.hid HC
  have HLR := Lib.hid hLR
  have OKR := Lib.hid okR
  have OKL := Lib.hid okL
  have SL0 := Lib.hid sL
  have SR0 := Lib.hid sR
  have HIH := Lib.hid IH
  clear h ha hm hc hn O HC hLR okR okL sL sR IH hL hR hNN
  go_enter Try.func72, Try.ntmps72
  go_upto_region 24 with (fail)
  generalize Value.bool ((L.length : Int) == 1) = u28
  generalize Value.bool ((R.length : Int) == 1) = u80
  clear q2 q4
  obtain ⟨md, hh⟩ : ∃ md, md = (a + c) / 2 := ⟨_, rfl⟩
  have rA : IntKind.i64.wrap ((a : Int) + (c : Int)) = (a : Int) + (c : Int) := by have := HN.out; rw [IntKind.wrap_i64]; omega
  have rB : IntKind.u64.wrap ((a : Int) + (c : Int)) = (a : Int) + (c : Int) := by have := HN.out; exact wrap_u (a + c) (by omega)
  have rC : IntKind.i64.wrap (((a : Int) + (c : Int)) / 2) = (md : Int) := by have := HN.out; rw [IntKind.wrap_i64]; omega
  have hmd : a < md ∧ md < c := by have := HN.out; omega
  have hmd2 : 2 * md ≤ a + c ∧ a + c ≤ 2 * md + 1 := by omega
  have HMD := Lib.hid (And.intro hmd hmd2)
  clear hmd hmd2 hh
  have rn : IntKind.i64.wrap ((md : Int) + (m : Int)) = (md : Int) + (m : Int) := by have := HN.out; have := HMD.out; rw [IntKind.wrap_i64]; omega
  obtain ⟨pN, hpN⟩ : ∃ pN, pN = md + m - 1 := ⟨_, rfl⟩
  have rp : IntKind.i64.wrap ((md : Int) + (m : Int) - 1) = (pN : Int) := by have := HN.out; have := HMD.out; rw [IntKind.wrap_i64]; omega
  have HPN := Lib.hid hpN
  clear hpN
  go_upto_if 140 with (fail)
  go_cut [20, 21] from 138 to 146 (fun s r wc => ∃ lo hi : Nat, s = .int .i64 lo ∧ r = .int .i64 hi ∧ Hid (a ≤ lo ∧ lo ≤ hi ∧ hi ≤ m ∧ hi ≤ md ∧ md + m ≤ lo + c ∧ (lo = a ∨ md + m = lo + c) ∧ (hi = m ∨ hi = md)) ∧ w = wc)
  case first =>
    by_cases hg : md < m
    · have g1 : (m : Int) > (md : Int) := by omega
      have g2 : (md : Int) < (m : Int) := by omega
      obtain ⟨lo, hlo⟩ : ∃ lo, lo = md + m - c := ⟨_, rfl⟩
      have r1 : IntKind.i64.wrap ((md : Int) + (m : Int) - (c : Int)) = (lo : Int) := by have := HN.out; have := HMD.out; rw [IntKind.wrap_i64]; omega
      have HLO := Lib.hid hlo
      clear hlo
      go_wp2_with fail
      go_meet
      case rel => exact ⟨lo, md, rfl, rfl, by have := HN.out; have := HMD.out; have := HLO.out; show _ ∧ _; omega, rfl⟩
    · have g1 : ¬ (m : Int) > (md : Int) := by omega
      have g2 : ¬ (md : Int) < (m : Int) := by omega
      go_wp2_with fail
      go_meet
      case rel => exact ⟨a, m, rfl, rfl, by have := HN.out; have := HMD.out; show _ ∧ _; omega, rfl⟩
  obtain ⟨lo, hi, rfl, rfl, HLH, rfl⟩ := hcut
  go_wp2_with fail
  go_loopw [20, 21] (fun i j wr => ∃ (s t : Nat), i = .int .i64 s ∧ j = .int .i64 t ∧ lo ≤ s ∧ s ≤ t ∧ t ≤ hi ∧ Hid (SX B w0 b off wr (X ++ (L ++ (R ++ Z)))) ∧ Hid (s = lo ∨ (lo < s ∧ lt (L.getD (s - 1 - a) 0) (R.getD (md - s) 0))) ∧ Hid (t = hi ∨ (t < hi ∧ lt (R.getD (md - 1 - t) 0) (L.getD (t - a) 0)))) (fun i j _ => (intOf j).toNat - (intOf i).toNat)
  case atStart => exact ⟨lo, hi, rfl, rfl, Nat.le_refl _, HLH.out.2.1, Nat.le_refl _, H.out, .inl rfl, .inl rfl⟩
  case round =>
    obtain ⟨s, t, rfl, rfl, hms, hst, htc, HS, H1, H2⟩ := hrel
    clear H
    by_cases hlt : s < t
    · have hltz : (s : Int) < (t : Int) := by omega
      obtain ⟨hh0, hh⟩ : ∃ hh0, hh0 = (s + t) / 2 := ⟨_, rfl⟩
      have rA : IntKind.i64.wrap ((s : Int) + (t : Int)) = (s : Int) + (t : Int) := by have := HN.out; have := HLH.out; rw [IntKind.wrap_i64]; omega
      have rB : IntKind.u64.wrap ((s : Int) + (t : Int)) = (s : Int) + (t : Int) := by have := HN.out; have := HLH.out; exact wrap_u (s + t) (by omega)
      have rC : IntKind.i64.wrap (((s : Int) + (t : Int)) / 2) = (hh0 : Int) := by have := HN.out; have := HLH.out; rw [IntKind.wrap_i64]; omega
      have r1 : IntKind.i64.wrap ((hh0 : Int) + 1) = (hh0 : Int) + 1 := by have := HN.out; have := HLH.out; rw [IntKind.wrap_i64]; omega
      have h3 : s ≤ hh0 ∧ hh0 < t := by omega
      obtain ⟨iN, hiN⟩ : ∃ iN, iN = pN - hh0 := ⟨_, rfl⟩
      have hpN := HPN.out
      obtain ⟨l_1, l_2, l_3, l_4, l_5, l_6, l_7⟩ := HLH.out
      obtain ⟨n_1, n_2, n_3, n_4, n_5, n_6, n_7⟩ := HN.out
      have HB3 : m ≤ iN ∧ iN < c ∧ iN - m = md - 1 - hh0 ∧ a ≤ hh0 ∧ hh0 < m ∧ hh0 < md ∧ hh0 ≤ pN := by omega
      have r2 : IntKind.i64.wrap ((pN : Int) - (hh0 : Int)) = (iN : Int) := by rw [IntKind.wrap_i64]; omega
      obtain ⟨x, hx⟩ : ∃ x, L.getD (hh0 - a) 0 = x := ⟨_, rfl⟩
      obtain ⟨y, hy⟩ : ∃ y, R.getD (md - 1 - hh0) 0 = y := ⟨_, rfl⟩
      have l2 : (X ++ (L ++ (R ++ Z))).getD hh0 0 = x := by
        rw [gd_in _ _ _ (by omega) (by omega), ← hx, n_2]
      have l1 : (X ++ (L ++ (R ++ Z))).getD iN 0 = y := by
        rw [← List.append_assoc, gd_in _ _ _ (by rw [List.length_append]; omega) (by rw [List.length_append]; omega), ← hy]
        congr 1
        rw [List.length_append]; omega
      have hj1 : hh0 < (X ++ (L ++ (R ++ Z))).length := by simp only [List.length_append]; omega
      have hi1 : iN < (X ++ (L ++ (R ++ Z))).length := by simp only [List.length_append]; omega
      have b1 : (hh0 : Int) < (n : Int) := by omega
      have b2 : (iN : Int) < (n : Int) := by omega
      have hxL : x ∈ L := hx ▸ gd_mem (by omega)
      have hyR : y ∈ R := hy ▸ gd_mem (by omega)
      have i1 := HLR.out x hxL y hyR
      have okx := OKL.out x hxL
      have oky := OKR.out y hyR
      have cX := HS.out.cmp HCC.out oky okx
      have kc : ∀ w', Below wr.heap.size wr w' → w'.cell? ⟨b, off + iN, none⟩ = some (.int .i64 y) ∧ w'.cell? ⟨b, off + hh0, none⟩ = some (.int .i64 x) := fun w' hb => by
        have h1 := (HS.out.low hb).c (i := iN) hi1
        have h2 := (HS.out.low hb).c (i := hh0) hj1
        rw [l1] at h1
        rw [l2] at h2
        exact ⟨h1, h2⟩
      have c1 := (kc _ (Below.refl _ _)).1
      have c2 := (kc _ (Below.refl _ _)).2
      have HX := Lib.hid hx
      have HY := Lib.hid hy
      have H3 := Lib.hid (And.intro h3 HB3)
      clear hx hy h3 hh l1 l2 hi1 hj1 HB3 hiN hpN l_1 l_2 l_3 l_4 l_5 l_6 l_7 n_1 n_2 n_3 n_4 n_5 n_6 n_7
      by_cases hv : cf y x < 0
      · have hl := HO.out.yes x y okx oky i1 hv
        have hvd : decide (cf y x < 0) = true := decide_eq_true hv
        go_upto_region 35 with (fail)
        go_region_held (fun w' => w'.cell? ⟨b, off + iN, none⟩ = some (.int .i64 y) ∧ w'.cell? ⟨b, off + hh0, none⟩ = some (.int .i64 x)) (first | exact ⟨k1, k2⟩ | exact ⟨c1, c2⟩ | go_keep) (first
          | (go_at_call 62; refine (cX _ (Below.refl _ _).drew).mono ?_; rintro e V ⟨rfl, hb0⟩; have hb := Below.trans (Below.refl _ _).drew hb0; clear hb0; have k1 := (kc _ hb).1; have k2 := (kc _ hb).2))
        have HS3 := Lib.hid (HS.out.low hb)
        clear HS hb kc cX c1 c2 k1 k2
        go_wp2_with fail
        go_roundw
        case rel => exact ⟨s, hh0, rfl, rfl, hms, by have := H3.out; omega, by have := H3.out; omega, HS3, H1, .inr ⟨by have := H3.out; omega, by rw [HX.out, HY.out]; exact hl⟩⟩
        case measure => have := H3.out; simp [intOf]; omega
      · have hl := HO.out.no x y okx oky i1 hv
        have hvd : decide (cf y x < 0) = false := decide_eq_false hv
        go_upto_region 35 with (fail)
        go_region_held (fun w' => w'.cell? ⟨b, off + iN, none⟩ = some (.int .i64 y) ∧ w'.cell? ⟨b, off + hh0, none⟩ = some (.int .i64 x)) (first | exact ⟨k1, k2⟩ | exact ⟨c1, c2⟩ | go_keep) (first
          | (go_at_call 62; refine (cX _ (Below.refl _ _).drew).mono ?_; rintro e V ⟨rfl, hb0⟩; have hb := Below.trans (Below.refl _ _).drew hb0; clear hb0; have k1 := (kc _ hb).1; have k2 := (kc _ hb).2))
        have HS3 := Lib.hid (HS.out.low hb)
        clear HS hb kc cX c1 c2 k1 k2
        go_wp2_with fail
        go_roundw
        case rel => exact ⟨hh0 + 1, t, by go_num, rfl, by have := H3.out; omega, by have := H3.out; omega, htc, HS3, .inr ⟨by have := H3.out; omega, by rw [Nat.add_sub_cancel, HX.out, show md - (hh0 + 1) = md - 1 - hh0 by omega, HY.out]; exact hl⟩, H2⟩
        case measure => have := H3.out; simp [intOf]; omega
    · obtain rfl : s = t := by omega
      have hltz : ¬ (s : Int) < (s : Int) := by omega
      obtain ⟨l_1, l_2, l_3, l_4, l_5, l_6, l_7⟩ := HLH.out
      obtain ⟨n_1, n_2, n_3, n_4, n_5, n_6, n_7⟩ := HN.out
      obtain ⟨⟨d_1, d_2⟩, d_3, d_4⟩ := HMD.out
      -- what the two parts are cut into
      obtain ⟨p, hp⟩ : ∃ p, p = s - a := ⟨_, rfl⟩
      obtain ⟨q, hq⟩ : ∃ q, q = md - s := ⟨_, rfl⟩
      have hs1 : ∀ (u : 0 < p) (v : q < R.length), lt (L[p - 1]'(by omega)) R[q] := by
        intro u v
        rcases H1.out with h1 | ⟨h1, h2⟩
        · rcases l_6 with h3 | h3
          · omega
          · omega
        · rw [show s - 1 - a = p - 1 by omega, show md - s = q by omega, gd_at (by omega), gd_at v] at h2
          exact h2
      have hs2 : ∀ (u : 0 < q) (v : p < L.length), lt (R[q - 1]'(by omega)) L[p] := by
        intro u v
        rcases H2.out with h1 | ⟨h1, h2⟩
        · rcases l_7 with h3 | h3
          · omega
          · omega
        · rw [show md - 1 - s = q - 1 by omega, show s - a = p by omega, gd_at (by omega), gd_at v] at h2
          exact h2
      obtain ⟨L1, hL1⟩ : ∃ L1, L.take p = L1 := ⟨_, rfl⟩
      obtain ⟨L2, hL2⟩ : ∃ L2, L.drop p = L2 := ⟨_, rfl⟩
      obtain ⟨R1, hR1⟩ : ∃ R1, R.take q = R1 := ⟨_, rfl⟩
      obtain ⟨R2, hR2⟩ : ∃ R2, R.drop q = R2 := ⟨_, rfl⟩
      have eL : L = L1 ++ L2 := by rw [← hL1, ← hL2, List.take_append_drop]
      have eR : R = R1 ++ R2 := by rw [← hR1, ← hR2, List.take_append_drop]
      have z1 : L1.length = p := by rw [← hL1, List.length_take]; omega
      have z2 : L2.length = L.length - p := by rw [← hL2, List.length_drop]
      have z3 : R1.length = q := by rw [← hR1, List.length_take]; omega
      have z4 : R2.length = R.length - q := by rw [← hR2, List.length_drop]
      have HJ : ∀ SA SB : List Int, SA.Perm (L1 ++ R1) → SA.Pairwise lt → SB.Perm (L2 ++ R2) → SB.Pairwise lt → (SA ++ SB).Pairwise lt ∧ (SA ++ SB).Perm (L ++ R) := by
        intro SA SB h1 h2 h3 h4
        rw [← hL1, ← hR1] at h1
        rw [← hL2, ← hR2] at h3
        exact sym_join HO.out.tr SL0.out SR0.out (by omega) (by omega) hs1 hs2 h1 h2 h3 h4
      have HJH := Lib.hid HJ
      have hLR2 := HLR.out
      have okL2 := OKL.out
      have okR2 := OKR.out
      have sL2 := SL0.out
      have sR2 := SR0.out
      rw [eL] at sL2 okL2 hLR2
      rw [eR] at sR2 okR2 hLR2
      have HSL := Lib.hid (List.pairwise_append.1 sL2)
      have HSR := Lib.hid (List.pairwise_append.1 sR2)
      have HOKS := Lib.hid (And.intro okL2 (And.intro okR2 hLR2))
      have HS0 := HS.out
      rw [eL, eR, List.append_assoc, List.append_assoc] at HS0
      have HS1 := Lib.hid HS0
      obtain ⟨ed, hed⟩ : ∃ ed, ed = md + m - s := ⟨_, rfl⟩
      have re : IntKind.i64.wrap ((md : Int) + (m : Int) - (s : Int)) = (ed : Int) := by rw [IntKind.wrap_i64]; omega
      have hz0 : a = X.length ∧ s = X.length + L1.length ∧ m = X.length + L1.length + L2.length ∧ ed = m + R1.length ∧ c = ed + R2.length ∧ md = X.length + L1.length + R1.length ∧ n = X.length + L1.length + L2.length + R1.length + R2.length + Z.length ∧ L1.length + L2.length + R1.length + R2.length ≤ N + 1 := by omega
      have HZ := Lib.hid hz0
      have HMDC := Lib.hid (And.intro d_1 d_2)
      clear HS HS0 HJ hLR2 okL2 okR2 sL2 sR2 hs1 hs2 hL1 hL2 hR1 hR2 eL eR z1 z2 z3 z4 hp hq hed l_1 l_2 l_3 l_4 l_5 l_6 l_7 n_1 n_2 n_3 n_4 n_5 n_6 n_7 d_1 d_2 d_3 d_4 hz0
      clear hltz
      have hltz : ¬ (s : Int) < (s : Int) := by omega
      go_upto_region 39 with (fail)
      go_cut [185] from 178 to 184 (fun r wx => ∃ bb : Bool, r = .bool bb ∧ Hid (bb = decide (0 < L2.length ∧ 0 < R1.length)) ∧ wr = wx)
      case first =>
        by_cases h1 : 0 < L2.length
        · have g1 : (s : Int) < (m : Int) := by have := HZ.out; omega
          by_cases h2 : 0 < R1.length
          · have g2 : (m : Int) < (ed : Int) := by have := HZ.out; omega
            have hd : decide (0 < L2.length ∧ 0 < R1.length) = true := by simp [*]
            have HD := Lib.hid hd.symm
            clear hd h1 h2
            go_wp2_with fail
            go_meet
            case rel => exact ⟨_, rfl, HD, rfl⟩
          · have g2 : ¬ (m : Int) < (ed : Int) := by have := HZ.out; omega
            have hd : decide (0 < L2.length ∧ 0 < R1.length) = false := by simp [*]
            have HD := Lib.hid hd.symm
            clear hd h1 h2
            go_wp2_with fail
            go_meet
            case rel => exact ⟨_, rfl, HD, rfl⟩
        · have g1 : ¬ (s : Int) < (m : Int) := by have := HZ.out; omega
          have hd : decide (0 < L2.length ∧ 0 < R1.length) = false := by simp [*]
          have HD := Lib.hid hd.symm
          clear hd h1
          go_wp2_with fail
          go_meet
          case rel => exact ⟨_, rfl, HD, rfl⟩
      obtain ⟨bb, rfl, HBB, rfl⟩ := hcut
      go_upto_if 185 with (fail)
      go_cut [24] from 185 to 191 (fun u24 wc => u24 = .int .i64 ed ∧ Hid (SX B w0 b off wc (X ++ (L1 ++ (R1 ++ (L2 ++ (R2 ++ Z)))))))
      case first =>
        cases bb with
        | true =>
          have hc1 := of_decide_eq_true HBB.out.symm
          have hcall := rot_any (fv := .func (.func 62) #[] #[cbv]) (cap := cap) (n := n) (X ++ L1) L2 R1 (R2 ++ Z) hc1.1 hc1.2 wr (by have := HS1.out; rw [List.append_assoc]; exact this) (by have := HZ.out; simp only [List.length_append]; omega) hbig s m ed (by have := HZ.out; rw [List.length_append]; omega) (by have := HZ.out; rw [List.length_append]; omega) (by have := HZ.out; rw [List.length_append]; omega)
          have HCALL := Lib.hid hcall
          clear hcall hc1
          go_wp2_with fail
          refine HCALL.out.mono ?_
          rintro e w1 ⟨rfl, hs⟩
          rw [List.append_assoc] at hs
          have HS2 := Lib.hid hs
          clear hs
          go_wp2_with fail
          go_meet
          case rel => exact ⟨rfl, HS2⟩
        | false =>
          have hc1 := of_decide_eq_false HBB.out.symm
          have hsx : Hid (SX B w0 b off wr (X ++ (L1 ++ (R1 ++ (L2 ++ (R2 ++ Z)))))) := by
            have h1 := HS1.out
            rcases Nat.eq_zero_or_pos L2.length with h2 | h2
            · obtain rfl := List.length_eq_zero_iff.1 h2
              exact h1
            · obtain rfl := List.length_eq_zero_iff.1 (show R1.length = 0 by omega)
              exact h1
          clear hc1
          go_wp2_with fail
          go_meet
          case rel => exact ⟨rfl, hsx⟩
      obtain ⟨rfl, HS2⟩ := hcut
      clear HS1 HBB
      obtain ⟨wA, hwA⟩ : ∃ wA, wA = wc := ⟨_, rfl⟩
      subst hwA
      go_upto_region 41 with (fail)
      go_cut [199] from 192 to 198 (fun r wx => ∃ bb : Bool, r = .bool bb ∧ Hid (bb = decide (0 < L1.length ∧ 0 < R1.length)) ∧ wA = wx)
      case first =>
        by_cases h1 : 0 < L1.length
        · have g1 : (a : Int) < (s : Int) := by have := HZ.out; omega
          by_cases h2 : 0 < R1.length
          · have g2 : (s : Int) < (md : Int) := by have := HZ.out; omega
            have hd : decide (0 < L1.length ∧ 0 < R1.length) = true := by simp [*]
            have HD := Lib.hid hd.symm
            clear hd h1 h2
            go_wp2_with fail
            go_meet
            case rel => exact ⟨_, rfl, HD, rfl⟩
          · have g2 : ¬ (s : Int) < (md : Int) := by have := HZ.out; omega
            have hd : decide (0 < L1.length ∧ 0 < R1.length) = false := by simp [*]
            have HD := Lib.hid hd.symm
            clear hd h1 h2
            go_wp2_with fail
            go_meet
            case rel => exact ⟨_, rfl, HD, rfl⟩
        · have g1 : ¬ (a : Int) < (s : Int) := by have := HZ.out; omega
          have hd : decide (0 < L1.length ∧ 0 < R1.length) = false := by simp [*]
          have HD := Lib.hid hd.symm
          clear hd h1
          go_wp2_with fail
          go_meet
          case rel => exact ⟨_, rfl, HD, rfl⟩
      obtain ⟨bb_1, rfl, HBB, rfl⟩ := hcut
      go_upto_if 199 with (fail)
      go_cut [24] from 199 to 205 (fun u24 wc => u24 = .int .i64 ed ∧ ∃ SA, Hid (SA.Perm (L1 ++ R1) ∧ SA.Pairwise lt) ∧ Hid (SX B w0 b off wc (X ++ (SA ++ (L2 ++ (R2 ++ Z))))))
      case first =>
        cases bb_1 with
        | true =>
          have hc1 := of_decide_eq_true HBB.out.symm
          have hcall := HIH.out X L1 R1 (L2 ++ (R2 ++ Z)) wA a s md (by have := HZ.out; have := HMDC.out; omega) hc1.1 hc1.2 HS2.out HSL.out.1 HSR.out.1 (fun x hx y hy => HOKS.out.2.2 x (List.mem_append_left _ hx) y (List.mem_append_left _ hy)) (fun x hx => HOKS.out.1 x (List.mem_append_left _ hx)) (fun x hx => HOKS.out.2.1 x (List.mem_append_left _ hx)) (by have := HZ.out; simp only [List.length_append]; omega) (by have := HZ.out; omega) (by have := HZ.out; omega) (by have := HZ.out; omega)
          have HCALL := Lib.hid hcall
          clear hcall hc1
          go_wp2_with fail
          refine HCALL.out.mono ?_
          rintro e w1 ⟨rfl, SA, hs, hp1, hp2⟩
          have HS3 := Lib.hid hs
          have HSA := Lib.hid (And.intro hp1 hp2)
          clear hs hp1 hp2
          go_wp2_with fail
          go_meet
          case rel => exact ⟨rfl, SA, HSA, HS3⟩
        | false =>
          have hc1 := of_decide_eq_false HBB.out.symm
          have hsx : Hid ((L1 ++ R1).Perm (L1 ++ R1) ∧ (L1 ++ R1).Pairwise lt) ∧ Hid (SX B w0 b off wA (X ++ ((L1 ++ R1) ++ (L2 ++ (R2 ++ Z))))) := by
            refine ⟨⟨.refl _, ?_⟩, ?_⟩
            · rcases Nat.eq_zero_or_pos L1.length with h2 | h2
              · rw [List.length_eq_zero_iff.1 h2]
                exact HSR.out.1
              · rw [List.length_eq_zero_iff.1 (show R1.length = 0 by omega), List.append_nil]
                exact HSL.out.1
            · show SX _ _ _ _ _ _
              rw [List.append_assoc]
              exact HS2.out
          have HSXH := Lib.hid hsx
          clear hc1 hsx
          go_wp2_with fail
          go_meet
          case rel => exact ⟨rfl, _, HSXH.out⟩
      obtain ⟨rfl, SA, HSA, HS3⟩ := hcut
      clear HS2 HBB
      obtain ⟨wB, hwB⟩ : ∃ wB, wB = wc := ⟨_, rfl⟩
      subst hwB
      have hzA : SA.length = L1.length + R1.length := by rw [HSA.out.1.length_eq, List.length_append]
      have HZA := Lib.hid hzA
      clear hzA
      go_upto_region 43 with (fail)
      go_cut [213] from 206 to 212 (fun r wx => ∃ bb : Bool, r = .bool bb ∧ Hid (bb = decide (0 < L2.length ∧ 0 < R2.length)) ∧ wB = wx)
      case first =>
        by_cases h1 : 0 < L2.length
        · have g1 : (md : Int) < (ed : Int) := by have := HZ.out; omega
          by_cases h2 : 0 < R2.length
          · have g2 : (ed : Int) < (c : Int) := by have := HZ.out; omega
            have hd : decide (0 < L2.length ∧ 0 < R2.length) = true := by simp [*]
            have HD := Lib.hid hd.symm
            clear hd h1 h2
            go_wp2_with fail
            go_meet
            case rel => exact ⟨_, rfl, HD, rfl⟩
          · have g2 : ¬ (ed : Int) < (c : Int) := by have := HZ.out; omega
            have hd : decide (0 < L2.length ∧ 0 < R2.length) = false := by simp [*]
            have HD := Lib.hid hd.symm
            clear hd h1 h2
            go_wp2_with fail
            go_meet
            case rel => exact ⟨_, rfl, HD, rfl⟩
        · have g1 : ¬ (md : Int) < (ed : Int) := by have := HZ.out; omega
          have hd : decide (0 < L2.length ∧ 0 < R2.length) = false := by simp [*]
          have HD := Lib.hid hd.symm
          clear hd h1
          go_wp2_with fail
          go_meet
          case rel => exact ⟨_, rfl, HD, rfl⟩
      obtain ⟨bb_2, rfl, HBB, rfl⟩ := hcut
      cases bb_2 with
      | true =>
        have hc1 := of_decide_eq_true HBB.out.symm
        have hcall := HIH.out (X ++ SA) L2 R2 Z wB md ed c (by have := HZ.out; have := HMDC.out; omega) hc1.1 hc1.2 (by have := HS3.out; rw [List.append_assoc]; exact this) HSL.out.2.1 HSR.out.2.1 (fun x hx y hy => HOKS.out.2.2 x (List.mem_append_right _ hx) y (List.mem_append_right _ hy)) (fun x hx => HOKS.out.1 x (List.mem_append_right _ hx)) (fun x hx => HOKS.out.2.1 x (List.mem_append_right _ hx)) (by have := HZ.out; have := HZA.out; simp only [List.length_append]; omega) (by have := HZ.out; have := HZA.out; simp only [List.length_append]; omega) (by have := HZ.out; have := HZA.out; omega) (by have := HZ.out; omega)
        have HCALL := Lib.hid hcall
        clear hcall hc1
        go_wp2_with fail
        refine HCALL.out.mono ?_
        rintro e w1 ⟨rfl, SB, hs, hp1, hp2⟩
        obtain ⟨j1, j2⟩ := HJH.out SA SB HSA.out.1 HSA.out.2 hp1 hp2
        rw [List.append_assoc] at hs
        have HF : Hid (∃ S, SX B w0 b off w1 (X ++ (S ++ Z)) ∧ S.Perm (L ++ R) ∧ S.Pairwise lt) := ⟨SA ++ SB, by rw [List.append_assoc]; exact hs, j2, j1⟩
        clear hs hp1 hp2 j1 j2
        go_wp2_with fail
        go_end0
        exact ⟨rfl, HF.out⟩
      | false =>
        have hc1 := of_decide_eq_false HBB.out.symm
        have HF : Hid (∃ S, SX B w0 b off wB (X ++ (S ++ Z)) ∧ S.Perm (L ++ R) ∧ S.Pairwise lt) := by
          have hB : (L2 ++ R2).Pairwise lt := by
            rcases Nat.eq_zero_or_pos L2.length with h2 | h2
            · rw [List.length_eq_zero_iff.1 h2]
              exact HSR.out.2.1
            · rw [List.length_eq_zero_iff.1 (show R2.length = 0 by omega), List.append_nil]
              exact HSL.out.2.1
          obtain ⟨j1, j2⟩ := HJH.out SA (L2 ++ R2) HSA.out.1 HSA.out.2 (.refl _) hB
          refine ⟨SA ++ (L2 ++ R2), ?_, j2, j1⟩
          have := HS3.out
          simp only [List.append_assoc] at this ⊢
          exact this
        clear hc1
        go_wp2_with fail
        go_end0
        exact ⟨rfl, HF.out⟩
theorem smerge_any (O : SOrd ok cf lt) (HC : CmpC cbv B w0 ok cf) (hbig : n ≤ 100000) (N : Nat) : MergeOk ok lt B w0 cbv b off n cap N := by
  induction N with
  | zero => intro X L R Z w a m c h1 h2 h3; omega
  | succ N ih =>
    intro X L R Z w a m c h1 h2 h3 h sL sR hLR okL okR hn ha hm hc
    by_cases g1 : L.length = 1
    · obtain ⟨x, rfl⟩ := List.length_eq_one_iff.1 g1
      exact smerge_one O HC X R Z x h3 w h sR (fun y hy => hLR x List.mem_cons_self y hy) (okL x List.mem_cons_self) okR (by simpa using hn) hbig a m c ha (by simpa using hm) hc
    · by_cases g2 : R.length = 1
      · obtain ⟨y, rfl⟩ := List.length_eq_one_iff.1 g2
        refine (smerge_last O HC X L Z y (by omega) w h sL (fun x hx => hLR x hx y List.mem_cons_self) okL (okR y List.mem_cons_self) (by simpa using hn) hbig a m c ha hm (by simpa using hc)).mono ?_
        rintro e w' ⟨rfl, S, i1, i2, i3⟩
        exact ⟨rfl, S, i1, i2.trans (List.perm_append_comm (l₁ := [y])), i3⟩
      · exact smerge_gen O HC N ih X L R Z (by omega) (by omega) h1 w h sL sR hLR okL okR hn hbig a m c ha hm hc
end
end Go.Proofs.Ytmimgpnogjgliaa

