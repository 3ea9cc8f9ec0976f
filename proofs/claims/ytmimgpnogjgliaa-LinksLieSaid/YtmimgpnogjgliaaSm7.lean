/- slices.stableCmpFunc, slices.SortStableFunc of a row of neighbours. -/

import Derived.Test.YtmimgpnogjgliaaSm6
namespace Go.Proofs.Ytmimgpnogjgliaa
set_option maxRecDepth 100000
open Go.RowKit
attribute [local go_sem ↓] pre64

section
variable {ok : Int → Prop} {cf : Int → Int → Int} {lt : Int → Int → Prop} {B : Nat} {w0 : World} {DV : Int → Vw} {b off n cap : Nat}
set_option maxHeartbeats 16000000 in
theorem stableN_any (O : SOrd ok cf lt) (HC : CmpY DV B w0 ok cf) (D : List Int) (hD : D.Pairwise (· < ·)) (okD : ∀ x ∈ D, ok x) (w : World) (h : SY DV B w0 b off w D) (hn : n = D.length) (hbig : n ≤ 100000) :
    Calls Try.prog 67 #[.slice (some ⟨b, off, none⟩) n cap, .int .i64 n, .func (.func 58) #[] #[]] w fun e w' => e = .returned (.tuple #[]) ∧ ∃ S, SY DV B w0 b off w' S ∧ Srt lt D S := by
  have H := Lib.hid h
  have HD := Lib.hid hD
  have HN := Lib.hid hn
  have HO := Lib.hid O
  have HCC := Lib.hid HC
  have OKD := Lib.hid okD
  clear h hD hn O HC okD
  go_enter Try.func67, Try.ntmps67
  go_wp2_with fail
  go_loopw [7, 8] (fun av bv wr => ∃ (a : Nat) (P S D' : List Int), av = .int .i64 a ∧ bv = .int .i64 ((a : Int) + 20) ∧ Hid (D = P ++ D' ∧ P.length = a ∧ S.length = a ∧ a ≤ n) ∧ Hid (Pre lt 20 P S) ∧ Hid (SY DV B w0 b off wr (S ++ D'))) (fun av _ _ => n - (intOf av).toNat)
  case atStart => exact ⟨0, [], [], D, rfl, rfl, ⟨rfl, rfl, rfl, Nat.zero_le _⟩, Pre.nil lt 20, H.out⟩
  case round =>
    obtain ⟨a, P, S, D', rfl, rfl, HL, HP, HS⟩ := hrel
    clear H
    have hlen : n = a + D'.length := by have h1 := HL.out.1; have h2 := HN.out; rw [h1, List.length_append] at h2; have := HL.out.2.1; omega
    have HLN := Lib.hid hlen
    clear hlen
    by_cases hlt : a + 20 ≤ n
    · have hltz : (a : Int) + 20 ≤ (n : Int) := by omega
      obtain ⟨M, Z, rfl, hM⟩ : ∃ M Z, D' = M ++ Z ∧ M.length = 20 := ⟨D'.take 20, D'.drop 20, (List.take_append_drop _ _).symm, by have := HLN.out; rw [List.length_take]; omega⟩
      obtain ⟨bb, hbb⟩ : ∃ bb, bb = a + 20 := ⟨_, rfl⟩
      have zb : (a : Int) + 20 = (bb : Int) := by omega
      have r1 : IntKind.i64.wrap ((bb : Int) + 20) = (bb : Int) + 20 := by rw [IntKind.wrap_i64]; omega
      have hpw : M.Pairwise (· < ·) := by
        have h1 := HD.out
        rw [HL.out.1] at h1
        exact (List.pairwise_append.1 (List.pairwise_append.1 h1).2.1).1
      have hokM : ∀ y ∈ M, ok y := fun y hy => OKD.out y (by rw [HL.out.1]; exact List.mem_append_right _ (List.mem_append_left _ hy))
      have hcall := isortN_any (n := n) (cap := cap) HO.out HCC.out S M Z hpw hokM wr HS.out (by have := HLN.out; have := HL.out.2; rw [List.length_append] at *; omega) hbig a bb HL.out.2.2.1.symm (by omega)
      have HCALL := Lib.hid hcall
      have HM := Lib.hid hM
      have HBB := Lib.hid hbb
      clear hcall hM hbb hpw hokM
      rw [zb] at hltz ⊢
      clear zb
      go_wp2_with fail
      refine HCALL.out.mono ?_
      rintro e w1 ⟨rfl, T, hs, ht⟩
      rw [← List.append_assoc] at hs
      have HS1 := Lib.hid hs
      have HT := Lib.hid ht
      clear hs ht HS
      go_wp2_with fail
      go_roundw
      case rel =>
        refine ⟨bb, P ++ M, S ++ T, Z, rfl, rfl, ?_, HP.out.more HM.out HT.out, HS1⟩
        have h1 := HL.out
        have h2 := HT.out.1.length_eq
        have h3 := HBB.out
        have h4 := HM.out
        refine ⟨by rw [List.append_assoc]; exact h1.1, ?_, ?_, ?_⟩
        · rw [List.length_append]; omega
        · rw [List.length_append]; omega
        · omega
      case measure => have := HBB.out; simp [intOf]; omega
    · have hltz : ¬ (a : Int) + 20 ≤ (n : Int) := by omega
      have hpw : D'.Pairwise (· < ·) := by
        have h1 := HD.out
        rw [HL.out.1] at h1
        exact (List.pairwise_append.1 h1).2.1
      have hokM : ∀ y ∈ D', ok y := fun y hy => OKD.out y (by rw [HL.out.1]; exact List.mem_append_right _ hy)
      have hcall := isortN_any (n := n) (cap := cap) HO.out HCC.out S D' [] hpw hokM wr (by have := HS.out; rw [List.append_nil]; exact this) (by have := HLN.out; have := HL.out.2; simp only [List.length_nil]; omega) hbig a n HL.out.2.2.1.symm HLN.out
      have HCALL := Lib.hid hcall
      clear hcall hpw hokM
      go_wp2_with fail
      refine HCALL.out.mono ?_
      rintro e w1 ⟨rfl, T, hs, ht⟩
      rw [List.append_nil] at hs
      have hbk : Bks lt 20 D (S ++ T) := by
        rw [HL.out.1]
        exact HP.out _ _ (.last D' T (by have := HLN.out; omega) ht)
      have HS1 := Lib.hid hs
      have HBK := Lib.hid hbk
      clear hs ht HS hbk hltz hlt HL HP HLN HCALL
      go_wp2_with fail
      go_loopw [6] (fun sv wr => ∃ (bs : Nat) (Q : List Int), sv = .int .i64 bs ∧ 0 < bs ∧ bs ≤ 200020 ∧ Hid (Bks lt bs D Q) ∧ Hid (SY DV B w0 b off wr Q)) (fun sv _ => n - (intOf sv).toNat)
      case atStart => exact ⟨20, S ++ T, rfl, by omega, by omega, HBK, HS1⟩
      case round =>
        obtain ⟨bs, Q, rfl, hb0, hbb, HB, HQ⟩ := hrel
        clear HS1 HBK
        by_cases hbn : bs < n
        · have hbz : (bs : Int) < (n : Int) := by omega
          have r2 : IntKind.i64.wrap (2 * (bs : Int)) = 2 * (bs : Int) := by rw [IntKind.wrap_i64]; omega
          have r3 : IntKind.i64.wrap ((bs : Int) * 2) = 2 * (bs : Int) := by rw [IntKind.wrap_i64]; omega
          go_wp2_with fail
          go_loopw [7, 8] (fun av bv wr => ∃ (a : Nat) (P S D' Q' : List Int), av = .int .i64 a ∧ bv = .int .i64 ((a : Int) + 2 * (bs : Int)) ∧ Hid (D = P ++ D' ∧ P.length = a ∧ S.length = a ∧ a ≤ n ∧ Bks lt bs D' Q') ∧ Hid (Pre lt (2 * bs) P S) ∧ Hid (SY DV B w0 b off wr (S ++ Q'))) (fun av _ _ => n - (intOf av).toNat)
          case atStart => exact ⟨0, [], [], D, Q, rfl, by simp, ⟨rfl, rfl, rfl, Nat.zero_le _, HB.out⟩, Pre.nil lt (2 * bs), HQ.out⟩
          case round =>
            obtain ⟨a, P, S2, D', Q', rfl, rfl, HL, HP, HS⟩ := hrel
            clear HQ HB
            have hlen : n = a + D'.length := by have h1 := HL.out.1; have h2 := HN.out; rw [h1, List.length_append] at h2; have := HL.out.2.1; omega
            have HLN := Lib.hid hlen
            clear hlen
            by_cases hlt : a + 2 * bs ≤ n
            · have hltz : (a : Int) + 2 * (bs : Int) ≤ (n : Int) := by omega
              obtain ⟨M1, S1, D1, Q1, e1, e2, e3, e4, e5⟩ := HL.out.2.2.2.2.one (by have := HLN.out; omega)
              have hd1 : D'.length = bs + D1.length := by rw [e1, List.length_append, e3]
              obtain ⟨M2, T2, D2, Q2, e6, e7, e8, e9, e10⟩ := e5.one (by have := HLN.out; omega)
              subst e6 e7
              obtain ⟨mm, hmm⟩ : ∃ mm, mm = a + bs := ⟨_, rfl⟩
              obtain ⟨be, hbe⟩ : ∃ be, be = a + 2 * bs := ⟨_, rfl⟩
              have r4 : IntKind.i64.wrap ((a : Int) + (bs : Int)) = (mm : Int) := by rw [IntKind.wrap_i64]; omega
              have zb : (a : Int) + 2 * (bs : Int) = (be : Int) := by omega
              have r5 : IntKind.i64.wrap ((be : Int) + 2 * (bs : Int)) = (be : Int) + 2 * (bs : Int) := by rw [IntKind.wrap_i64]; omega
              have z1 := e4.1.length_eq
              have z2 := e9.1.length_eq
              have zq := e10.perm.length_eq
              have hDD : D = P ++ (M1 ++ (M2 ++ D2)) := by rw [HL.out.1, e1]
              have okm : ∀ x, x ∈ M1 ∨ x ∈ M2 → ok x := fun x hx => OKD.out x (by rw [hDD]; simp only [List.mem_append]; rcases hx with hx | hx; exact .inr (.inl hx); exact .inr (.inr (.inl hx)))
              have hcall := smergeN_any (B := B) (w0 := w0) (DV := DV) (b := b) (off := off) (n := n) (cap := cap) HO.out HCC.out hbig (S1.length + T2.length) S2 S1 T2 Q2 wr a mm be (Nat.le_refl _) (by omega) (by omega) (by have := HS.out; rw [e2] at this; exact this) e4.2 e9.2 (pw_cut HD.out hDD e4.1 e9.1) (fun x hx => okm x (.inl (e4.1.mem_iff.1 hx))) (fun x hx => okm x (.inr (e9.1.mem_iff.1 hx))) (by have := HLN.out; have := HL.out.2.2.1; rw [List.length_append] at hd1; omega) HL.out.2.2.1.symm (by omega) (by omega)
              have HCALL := Lib.hid hcall
              have HDD := Lib.hid (And.intro hDD (And.intro e3 (And.intro e8 (And.intro e4 (And.intro e9 e10)))))
              have HBE := Lib.hid (And.intro hbe hmm)
              clear hcall e1 e2 e3 e4 e8 e9 e10 hd1 hmm hbe z1 z2 zq hDD okm e5
              rw [zb] at hltz ⊢
              clear zb
              go_wp2_with fail
              refine HCALL.out.mono ?_
              rintro e w1 ⟨rfl, T, hs, ht1, ht2⟩
              rw [← List.append_assoc] at hs
              have HS1 := Lib.hid hs
              have HT := Lib.hid (And.intro ht1 ht2)
              clear hs ht1 ht2 HS
              go_wp2_with fail
              go_roundw
              case rel =>
                obtain ⟨f1, f2, f3, f4, f5, f6⟩ := HDD.out
                have f7 := HT.out.1.trans (f4.1.append f5.1)
                refine ⟨be, P ++ (M1 ++ M2), S2 ++ T, D2, Q2, rfl, rfl, ?_, HP.out.more (by rw [List.length_append]; omega) ⟨f7, HT.out.2⟩, HS1⟩
                have h1 := HL.out
                have h2 := f7.length_eq
                have h3 := HBE.out.1
                rw [List.length_append] at h2
                refine ⟨by rw [f1]; simp, ?_, ?_, ?_, f6⟩
                · simp only [List.length_append]; omega
                · simp only [List.length_append]; omega
                · omega
              case measure => have := HBE.out.1; simp [intOf]; omega
            · have hltz : ¬ (a : Int) + 2 * (bs : Int) ≤ (n : Int) := by omega
              obtain ⟨mm, hmm⟩ : ∃ mm, mm = a + bs := ⟨_, rfl⟩
              have r4 : IntKind.i64.wrap ((a : Int) + (bs : Int)) = (mm : Int) := by have := HL.out; rw [IntKind.wrap_i64]; omega
              by_cases hmn : mm < n
              · have hmz : (mm : Int) < (n : Int) := by omega
                obtain ⟨M1, S1, D1, Q1, e1, e2, e3, e4, e5⟩ := HL.out.2.2.2.2.one (by have := HLN.out; omega)
                have hd1 : D'.length = bs + D1.length := by rw [e1, List.length_append, e3]
                have e6 := e5.short (by have := HLN.out; omega)
                have z1 := e4.1.length_eq
                have z2 := e6.1.length_eq
                have hDD : D = P ++ (M1 ++ (D1 ++ [])) := by rw [HL.out.1, e1]; simp
                have okm : ∀ x, x ∈ M1 ∨ x ∈ D1 → ok x := fun x hx => OKD.out x (by rw [hDD]; simp only [List.mem_append]; rcases hx with hx | hx; exact .inr (.inl hx); exact .inr (.inr (.inl hx)))
                have hcall := smergeN_any (B := B) (w0 := w0) (DV := DV) (b := b) (off := off) (n := n) (cap := cap) HO.out HCC.out hbig (S1.length + Q1.length) S2 S1 Q1 [] wr a mm n (Nat.le_refl _) (by omega) (by have := HLN.out; omega) (by have := HS.out; rw [e2] at this; simpa using this) e4.2 e6.2 (pw_cut HD.out hDD e4.1 e6.1) (fun x hx => okm x (.inl (e4.1.mem_iff.1 hx))) (fun x hx => okm x (.inr (e6.1.mem_iff.1 hx))) (by have := HLN.out; have := HL.out.2.2.1; simp only [List.length_nil]; omega) HL.out.2.2.1.symm (by omega) (by have := HLN.out; omega)
                have HCALL := Lib.hid hcall
                have hfin : ∀ T : List Int, T.Perm (S1 ++ Q1) → T.Pairwise lt → Bks lt (2 * bs) D (S2 ++ T) := fun T h1 h2 => by
                  rw [HL.out.1]
                  refine HP.out _ _ (.last D' T (by have := HLN.out; omega) ⟨h1.trans ?_, h2⟩)
                  rw [e1]
                  exact e4.1.append e6.1
                have HFIN := Lib.hid hfin
                clear hcall e1 e2 e3 e4 e5 e6 hd1 z1 z2 hDD okm hfin hmm
                go_wp2_with fail
                refine HCALL.out.mono ?_
                rintro e w1 ⟨rfl, T, hs, ht1, ht2⟩
                rw [List.append_nil] at hs
                have HS1 := Lib.hid hs
                have HBK := Lib.hid (HFIN.out T ht1 ht2)
                clear hs ht1 ht2 HS
                go_wp2_with fail
                go_roundw
                case rel => exact ⟨2 * bs, S2 ++ T, by simp, by omega, by omega, HBK, HS1⟩
                case measure => simp [intOf]; omega
              · have hmz : ¬ (mm : Int) < (n : Int) := by omega
                have hbk : Bks lt (2 * bs) D (S2 ++ Q') := by
                  rw [HL.out.1]
                  exact HP.out _ _ (.last D' Q' (by have := HLN.out; omega) (HL.out.2.2.2.2.short (by have := HLN.out; omega)))
                have HBK := Lib.hid hbk
                clear hbk hmm
                go_wp2_with fail
                go_roundw
                case rel => exact ⟨2 * bs, S2 ++ Q', by simp, by omega, by omega, HBK, HS⟩
                case measure => simp [intOf]; omega
        · have hbz : ¬ (bs : Int) < (n : Int) := by omega
          go_wp2_with fail
          go_end0
          exact ⟨rfl, Q, HQ.out, HB.out.short (by have := HN.out; omega)⟩
set_option maxHeartbeats 4000000 in
theorem ssfN_any (O : SOrd ok cf lt) (HC : CmpY DV B w0 ok cf) (D : List Int) (hD : D.Pairwise (· < ·)) (okD : ∀ x ∈ D, ok x) (w : World) (h : SY DV B w0 b off w D) (hn : n = D.length) (hbig : n ≤ 100000) :
    Calls Try.prog 57 #[.slice (some ⟨b, off, none⟩) n cap, .func (.func 58) #[] #[]] w fun e w' => e = .returned (.tuple #[]) ∧ ∃ S, SY DV B w0 b off w' S ∧ Srt lt D S := by
  have HCALL := Lib.hid (stableN_any (cap := cap) O HC D hD okD w h hn hbig)
  clear O HC hD okD h hn
  go_enter Try.func57, Try.ntmps57
  go_wp2_with fail
  refine HCALL.out.mono ?_
  rintro e w1 ⟨rfl, hs⟩
  have HS := Lib.hid hs
  clear hs
  go_wp2_with fail
  go_end0
  exact ⟨rfl, HS.out⟩
/-- A row of none. -/
theorem isortN_nil (w : World) : Calls Try.prog 69 #[.slice none 0 0, .int .i64 0, .int .i64 0, .func (.func 58) #[] #[]] w fun e w' => e = .returned (.tuple #[]) ∧ w' = w := by
  go_enter Try.func69, Try.ntmps69
  go_wp2_with fail
  go_loopw [8] (fun i wr => i = .int .i64 1 ∧ w = wr) (fun _ _ => 0)
  case atStart => exact ⟨rfl, rfl⟩
  case round =>
    obtain ⟨rfl, rfl⟩ := hrel
    go_wp2_with fail
    go_end0
    exact ⟨rfl, rfl⟩
theorem stableN_nil (w : World) : Calls Try.prog 67 #[.slice none 0 0, .int .i64 0, .func (.func 58) #[] #[]] w fun e w' => e = .returned (.tuple #[]) ∧ w' = w := by
  have HCALL := Lib.hid (isortN_nil w)
  go_enter Try.func67, Try.ntmps67
  go_wp2_with fail
  go_loopw [7, 8] (fun i j wr => i = .int .i64 0 ∧ j = .int .i64 20 ∧ w = wr) (fun _ _ _ => 0)
  case atStart => exact ⟨rfl, rfl, rfl⟩
  case round =>
    obtain ⟨rfl, rfl, rfl⟩ := hrel
    go_wp2_with fail
    refine HCALL.out.mono ?_
    rintro e w1 ⟨rfl, rfl⟩
    go_wp2_with fail
    go_loopw [6] (fun i wr => i = .int .i64 20 ∧ w1 = wr) (fun _ _ => 0)
    case atStart => exact ⟨rfl, rfl⟩
    case round =>
      obtain ⟨rfl, rfl⟩ := hrel
      go_wp2_with fail
      go_end0
      exact ⟨rfl, rfl⟩
theorem ssfN_nil (w : World) : Calls Try.prog 57 #[.slice none 0 0, .func (.func 58) #[] #[]] w fun e w' => e = .returned (.tuple #[]) ∧ w' = w := by
  have HCALL := Lib.hid (stableN_nil w)
  go_enter Try.func57, Try.ntmps57
  go_wp2_with fail
  refine HCALL.out.mono ?_
  rintro e w1 ⟨rfl, rfl⟩
  go_wp2_with fail
  go_end0
  exact ⟨rfl, rfl⟩
end
end Go.Proofs.Ytmimgpnogjgliaa

