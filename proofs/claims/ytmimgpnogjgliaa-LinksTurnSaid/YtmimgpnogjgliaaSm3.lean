/- slices.swapRangeCmpFunc, slices.rotateCmpFunc of a row of neighbours. -/

import Derived.Test.YtmimgpnogjgliaaSm2
namespace Go.Proofs.Ytmimgpnogjgliaa
set_option maxRecDepth 100000
open Go.RowKit
attribute [local go_sem ↓] pre64

section
variable {B : Nat} {w0 : World} {DV : Int → Vw} {fv : Value} {b off n cap : Nat}
set_option maxHeartbeats 8000000 in
theorem swrN_any (X U M V Z : List Int) (hUV : U.length = V.length) (w : World) (h : SY DV B w0 b off w (X ++ (U ++ (M ++ (V ++ Z))))) (hn : n = X.length + U.length + M.length + V.length + Z.length) (hbig : n ≤ 100000) (a c m : Nat) (ha : a = X.length) (hc : c = X.length + U.length + M.length) (hm : m = U.length) :
    Calls Try.prog 75 #[.slice (some ⟨b, off, none⟩) n cap, .int .i64 a, .int .i64 c, .int .i64 m, fv] w fun e w' => e = .returned (.tuple #[]) ∧ SY DV B w0 b off w' (X ++ (V ++ (M ++ (U ++ Z)))) := by
  have mixed : Try.prog.follows .mixedOrders = true := by kernel_rfl
  rw [← Swr.start] at h
  have H := Lib.hid h
  have HN := Lib.hid (And.intro hn (And.intro ha (And.intro hc (And.intro hm hUV))))
  clear h ha hc hn hm hUV
  go_enter Try.func75, Try.ntmps75
  go_wp2_with fail
  go_loopw [10] (fun i wr => ∃ (k : Nat), i = .int .i64 k ∧ k ≤ m ∧ Hid (SY DV B w0 b off wr (Swr X U M V Z k))) (fun i _ => m - (intOf i).toNat)
  case atStart => exact ⟨0, rfl, Nat.zero_le _, H.out⟩
  case round =>
    obtain ⟨k, rfl, hk, HS⟩ := hrel
    clear H
    by_cases hlt : k < m
    · have hltz : (k : Int) < (m : Int) := by omega
      obtain ⟨iN, hiN⟩ : ∃ iN, iN = a + k := ⟨_, rfl⟩
      obtain ⟨jN, hjN⟩ : ∃ jN, jN = c + k := ⟨_, rfl⟩
      obtain ⟨d, hd⟩ : ∃ d, Swr X U M V Z k = d := ⟨_, rfl⟩
      obtain ⟨l1, l2, l3⟩ := Swr.step X U M V Z (i := k) (p := iN) (q := jN) (by have := HN.out; omega) (by have := HN.out; omega) (by have := HN.out; omega) (by have := HN.out; omega)
      have hln := Swr.len X U M V Z k
      rw [hd] at HS l1 l2 l3 hln
      have hi1 : iN < d.length := by have := HN.out; omega
      have hj1 : jN < d.length := by have := HN.out; omega
      obtain ⟨x, hx⟩ : ∃ x, U.getD k 0 = x := ⟨_, rfl⟩
      obtain ⟨y, hy⟩ : ∃ y, V.getD k 0 = y := ⟨_, rfl⟩
      rw [hx] at l1
      rw [hy] at l2
      have e1 : ((a : Int) + (k : Int)).toNat = iN := by omega
      have p1 : (0 : Int) ≤ (a : Int) + (k : Int) := by omega
      have b1 : (a : Int) + (k : Int) < (n : Int) := by have := HN.out; omega
      have r1 : IntKind.i64.wrap ((a : Int) + (k : Int)) = (a : Int) + (k : Int) := by have := HN.out; rw [IntKind.wrap_i64]; omega
      have e2 : ((c : Int) + (k : Int)).toNat = jN := by omega
      have p2 : (0 : Int) ≤ (c : Int) + (k : Int) := by omega
      have b2 : (c : Int) + (k : Int) < (n : Int) := by have := HN.out; omega
      have r2 : IntKind.i64.wrap ((c : Int) + (k : Int)) = (c : Int) + (k : Int) := by have := HN.out; rw [IntKind.wrap_i64]; omega
      have HD0 := Lib.hid HS.out.drew
      have c1 := HD0.out.load (i := iN) hi1
      have c2 := HD0.out.load (i := jN) hj1
      have s1 := HD0.out.st1 (i := iN) hi1 y
      have s2 := HD0.out.st2 (i := iN) (j := jN) hi1 hj1 y x
      have HS4 := HD0.out.swap (i := iN) (j := jN) hi1 hj1
      rw [l1] at c1
      rw [l2] at c2
      rw [l1, l2] at HS4
      rw [l3] at HS4
      have n1 := enD_len DV x
      have n2 := enD_len DV y
      generalize enD DV x = eI at c1 s2 HS4 n1
      generalize enD DV y = eJ at c2 s1 s2 HS4 n2
      clear HD0 l1 l2
      clear HS hd hx hy hiN hjN l3 hln hi1 hj1
      go_wp2_with fail
      go_big_region_o
      clear c1 c2 s1 s2 n1 n2
      generalize (wr.drew.setCells b (off + iN * 7) eJ).setCells b (off + jN * 7) eI = w3 at HS4 ⊢
      have HS5 := Lib.hid HS4
      clear HS4
      clear e1 e2
      go_wp2_with fail
      go_roundw
      case rel => exact ⟨k + 1, by go_num, by omega, HS5⟩
      case measure => simp [intOf]; omega
    · have hltz : ¬ (k : Int) < (m : Int) := by omega
      go_wp2_with fail
      go_end0
      have h1 := HS.out
      rw [Swr.fin X U M V Z (by have := HN.out; omega) (by have := HN.out; omega)] at h1
      exact ⟨rfl, h1⟩
set_option maxHeartbeats 8000000 in
theorem rotN_any (X U V Z : List Int) (hU : 0 < U.length) (hV : 0 < V.length) (w : World) (h : SY DV B w0 b off w (X ++ (U ++ (V ++ Z)))) (hn : n = X.length + U.length + V.length + Z.length) (hbig : n ≤ 100000) (a m c : Nat) (ha : a = X.length) (hm : m = X.length + U.length) (hc : c = X.length + U.length + V.length) :
    Calls Try.prog 73 #[.slice (some ⟨b, off, none⟩) n cap, .int .i64 a, .int .i64 m, .int .i64 c, fv] w fun e w' => e = .returned (.tuple #[]) ∧ SY DV B w0 b off w' (X ++ (V ++ (U ++ Z))) := by
  have H := Lib.hid h
  have HN := Lib.hid (And.intro hn (And.intro ha (And.intro hm hc)))
  have q1 : IntKind.i64.wrap ((m : Int) - (a : Int)) = (m : Int) - (a : Int) := by rw [IntKind.wrap_i64]; omega
  have q2 : IntKind.i64.wrap ((c : Int) - (m : Int)) = (c : Int) - (m : Int) := by rw [IntKind.wrap_i64]; omega
  clear h ha hm hc hn
  go_enter Try.func73, Try.ntmps73
  go_wp2_with fail
  go_loopw [10, 11] (fun i j wr => ∃ (X' U' V' Z' : List Int), i = .int .i64 U'.length ∧ j = .int .i64 V'.length ∧ Hid (X'.length + U'.length = m ∧ 0 < U'.length ∧ 0 < V'.length ∧ X'.length + U'.length + V'.length + Z'.length = n) ∧ Hid (SY DV B w0 b off wr (X' ++ (U' ++ (V' ++ Z')))) ∧ Hid (X' ++ (V' ++ (U' ++ Z')) = X ++ (V ++ (U ++ Z)))) (fun i j _ => (intOf i).toNat + (intOf j).toNat)
  case atStart => exact ⟨X, U, V, Z, by have := HN.out; simp only [Value.int.injEq, true_and]; omega, by have := HN.out; simp only [Value.int.injEq, true_and]; omega, by have := HN.out; show _ ∧ _; omega, H.out, rfl⟩
  case round =>
    obtain ⟨X', U', V', Z', rfl, rfl, HL, HS, HT⟩ := hrel
    clear H
    obtain ⟨p, hp⟩ : ∃ p, U'.length = p := ⟨_, rfl⟩
    obtain ⟨q, hq⟩ : ∃ q, V'.length = q := ⟨_, rfl⟩
    rw [hp, hq] at HL
    rw [hp, hq]
    have HP := Lib.hid hp
    have HQ := Lib.hid hq
    clear hp hq
    rcases Nat.lt_trichotomy p q with hpq | hpq | hpq
    · have g1 : ¬ (p : Int) = (q : Int) := by omega
      have g2 : ¬ (p : Int) > (q : Int) := by omega
      obtain ⟨C, D, hCD, hD⟩ : ∃ C D, V' = C ++ D ∧ D.length = p := ⟨V'.take (q - p), V'.drop (q - p), (List.take_append_drop _ _).symm, by have := HQ.out; simp; omega⟩
      subst hCD
      have HD := Lib.hid hD
      have hC : C.length = q - p := by have := HQ.out; rw [List.length_append] at this; omega
      have HC := Lib.hid hC
      clear hC hD
      obtain ⟨i1, h1⟩ : ∃ i1, i1 = m - p := ⟨_, rfl⟩
      obtain ⟨i2, h2⟩ : ∃ i2, i2 = m + q - p := ⟨_, rfl⟩
      have z1 : (m : Int) - (p : Int) = (i1 : Int) := by have := HL.out; omega
      have r1 : IntKind.i64.wrap ((m : Int) - (p : Int)) = (i1 : Int) := by have := HL.out; rw [IntKind.wrap_i64]; omega
      have r3 : IntKind.i64.wrap ((m : Int) + (q : Int)) = (m : Int) + (q : Int) := by have := HL.out; rw [IntKind.wrap_i64]; omega
      have r2 : IntKind.i64.wrap ((m : Int) + (q : Int) - (p : Int)) = (i2 : Int) := by have := HL.out; rw [IntKind.wrap_i64]; omega
      have r4 : IntKind.i64.wrap ((q : Int) - (p : Int)) = (((q - p : Nat)) : Int) := by have := HL.out; rw [IntKind.wrap_i64]; omega
      have hcall := swrN_any (fv := fv) (cap := cap) (n := n) X' U' C D Z' (by have h1 := HP.out; have h2 := HD.out; omega) wr (by have := HS.out; rw [List.append_assoc C D Z'] at this; exact this) (by have h1 := HL.out; have h2 := HP.out; have h3 := HC.out; have h4 := HD.out; omega) hbig i1 i2 p (by have h1 := HL.out; have h2 := HP.out; omega) (by have h1 := HL.out; have h2 := HP.out; have h3 := HC.out; omega) HP.out.symm
      have HCALL := Lib.hid hcall
      clear hcall h1 h2 z1
      go_wp2_with fail
      refine HCALL.out.mono ?_
      rintro e w1 ⟨rfl, hs⟩
      have HS1 := Lib.hid hs
      clear hs HS
      go_wp2_with fail
      go_roundw
      case rel =>
        refine ⟨X', D, C, U' ++ Z', by have := HD.out; simp only [Value.int.injEq, true_and]; omega, by have := HC.out; simp only [Value.int.injEq, true_and]; omega, ?_, HS1, ?_⟩
        · have h1 := HL.out; have h2 := HP.out; have h3 := HC.out; have h4 := HD.out
          show _ ∧ _
          rw [List.length_append]
          omega
        · show _ = _
          rw [← HT.out]
          simp
      case measure => have := HL.out; simp [intOf]; omega
    · have g1 : (p : Int) = (q : Int) := by omega
      subst hpq
      obtain ⟨i1, h1⟩ : ∃ i1, i1 = m - p := ⟨_, rfl⟩
      have r1 : IntKind.i64.wrap ((m : Int) - (p : Int)) = (i1 : Int) := by have := HL.out; rw [IntKind.wrap_i64]; omega
      have hcall := swrN_any (fv := fv) (cap := cap) (n := n) X' U' [] V' Z' (by have h1 := HP.out; have h2 := HQ.out; omega) wr HS.out (by have h1 := HL.out; have h2 := HP.out; have h3 := HQ.out; simp only [List.length_nil]; omega) hbig i1 m p (by have h1 := HL.out; have h2 := HP.out; omega) (by have h1 := HL.out; have h2 := HP.out; simp only [List.length_nil]; omega) HP.out.symm
      have HCALL := Lib.hid hcall
      clear hcall h1
      go_wp2_with fail
      refine HCALL.out.mono ?_
      rintro e w1 ⟨rfl, hs⟩
      have HS1 := Lib.hid hs
      clear hs HS
      go_wp2_with fail
      go_end0
      have h2 := HS1.out
      rw [List.nil_append, HT.out] at h2
      exact ⟨rfl, h2⟩
    · have g1 : ¬ (p : Int) = (q : Int) := by omega
      have g2 : (p : Int) > (q : Int) := by omega
      have g3 : (q : Int) < (p : Int) := by omega
      obtain ⟨C, D, hCD, hD⟩ : ∃ C D, U' = C ++ D ∧ C.length = q := ⟨U'.take q, U'.drop q, (List.take_append_drop _ _).symm, by have := HP.out; simp; omega⟩
      subst hCD
      have HD := Lib.hid hD
      have hC : D.length = p - q := by have := HP.out; rw [List.length_append] at this; omega
      have HC := Lib.hid hC
      clear hC hD
      obtain ⟨i1, h1⟩ : ∃ i1, i1 = m - p := ⟨_, rfl⟩
      have r1 : IntKind.i64.wrap ((m : Int) - (p : Int)) = (i1 : Int) := by have := HL.out; rw [IntKind.wrap_i64]; omega
      have r4 : IntKind.i64.wrap ((p : Int) - (q : Int)) = (((p - q : Nat)) : Int) := by have := HL.out; rw [IntKind.wrap_i64]; omega
      have hcall := swrN_any (fv := fv) (cap := cap) (n := n) X' C D V' Z' (by have h1 := HQ.out; have h2 := HD.out; omega) wr (by have := HS.out; rw [List.append_assoc C D] at this; exact this) (by have h1 := HL.out; have h2 := HQ.out; have h3 := HC.out; have h4 := HD.out; omega) hbig i1 m q (by have h1 := HL.out; have h2 := HP.out; omega) (by have h1 := HL.out; have h2 := HD.out; have h3 := HC.out; omega) HD.out.symm
      have HCALL := Lib.hid hcall
      clear hcall h1
      go_wp2_with fail
      refine HCALL.out.mono ?_
      rintro e w1 ⟨rfl, hs⟩
      have HS1 := Lib.hid hs
      clear hs HS
      go_wp2_with fail
      go_roundw
      case rel =>
        refine ⟨X' ++ V', D, C, Z', by have := HC.out; simp only [Value.int.injEq, true_and]; omega, by have := HD.out; simp only [Value.int.injEq, true_and]; omega, ?_, ?_, ?_⟩
        · have h1 := HL.out; have h2 := HQ.out; have h3 := HC.out; have h4 := HD.out
          show _ ∧ _
          rw [List.length_append]
          omega
        · show SY _ _ _ _ _ _ _
          have := HS1.out
          rw [List.append_assoc]
          exact this
        · show _ = _
          rw [← HT.out]
          simp
      case measure => have := HL.out; simp [intOf]; omega
end
end Go.Proofs.Ytmimgpnogjgliaa

