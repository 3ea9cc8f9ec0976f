/- A packet out of bytes: the reference's Parse. No conditions. -/
import Derived.Test.YteleedpiadcfjaaPkd
import Derived.Test.YteleedpiadcfjaaZin
import Derived.Test.YteleedpiadcfjaaTyp4
import Derived.Test.YteleedpiadcfjaaByt
namespace Go.Proofs.Yteleedpiadcfjaa
set_option maxRecDepth 100000
open Go.RowKit

/-- A pointer to a new variable of a packet. -/
def NewPV (V : World) : Ty := fun v w => ∃ b, v = .pointer (some ⟨b, 0, none⟩) ∧ V.heap.size ≤ b ∧ OwnP w b 0 0 0 0 ⟨#[]⟩
theorem NewPV.keeps (V : World) (k : Nat) : T3.Keeps (fun _ w w' => Below w.heap.size w w') k (NewPV V) := fun _ _ _ _ _ ⟨b, h1, h2, h3⟩ hb => ⟨b, h1, h2, h3.below hb⟩
theorem Bs_len2 {w : World} {a : Option Addr} {l c : Nat} {xs : List Int} (h : Bs w (.slice a l c) xs) : l = xs.length ∧ (xs.length ≤ c ∨ xs = []) := by
  obtain ⟨_, _, ⟨a', c', h1, _, rfl⟩ | ⟨b, o, c', h1, h2, _⟩⟩ := h
  · simp only [Value.slice.injEq] at h1; exact ⟨h1.2.1, .inr rfl⟩
  · simp only [Value.slice.injEq] at h1; exact ⟨h1.2.1, .inl (by omega)⟩
set_option maxHeartbeats 32000000 in
theorem rpparse_any (v : Value) (xs : List Int) (q : Int) (w : World) (hv : Bs w v xs) :
    Calls Try.prog 16 #[v, .int .i64 q] w fun e w' => e = .returned (.tuple #[(.agg #[.int .i64 (pkR (pkPF xs q)).1, .int .i64 (pkR (pkPF xs q)).2.1, .int .i64 (pkR (pkPF xs q)).2.2.1, .int .i64 (pkR (pkPF xs q)).2.2.2.1, .string (pkR (pkPF xs q)).2.2.2.2]), .int .i64 (pkT (pkPF xs q)), .int .i64 (pkE (pkPF xs q))]) ∧ Below w.heap.size w w' := by
  have HX := Lib.hid hv.1
  have HV := Lib.hid hv
  obtain ⟨a, l, c, rfl⟩ := Bs_form hv
  clear hv
  obtain ⟨g, hg⟩ : ∃ g, w.heap.size = g := ⟨_, rfl⟩
  obtain ⟨V, hVe⟩ : ∃ V, (w.alloc (.cells #[.int .i64 0, .int .i64 0, .int .i64 0, .int .i64 0, .string ⟨#[]⟩] 23)).alloc (.cells #[.int .i64 1, .int .i64 1, .int .i64 1, .int .i64 2, .int .i64 2] 3) = V := ⟨_, rfl⟩
  have hz : ∀ i, i < 5 → V.cell? ⟨g + 1, i, none⟩ = some (.int .i64 (szP i)) := fun i hi => by
    rw [← hVe, ← hg]
    have : i = 0 ∨ i = 1 ∨ i = 2 ∨ i = 3 ∨ i = 4 := by omega
    rcases this with rfl | rfl | rfl | rfl | rfl <;> simp [szP]
  have hOR : OwnP V g 0 0 0 0 ⟨#[]⟩ := by
    rw [← hVe]
    exact (ownp_alloc w 0 0 0 0 ⟨#[]⟩ 23 g hg.symm).below ((Below.refl _ _).alloc (Nat.le_refl _) _)
  have hbV : Below g w V := by rw [← hVe, ← hg]; exact ((Below.refl _ w).alloc (Nat.le_refl _) _).alloc (by simp) _
  have hsV : V.heap.size = g + 2 := by rw [← hVe, ← hg]; simp
  have HZ := Lib.hid hz
  have HOR := Lib.hid hOR
  have HBV := Lib.hid hbV
  have HSV := Lib.hid hsV
  clear hz hOR hbV hsV
  go_enter Try.func16, Try.ntmps16
  go_wp2_with fail
  try rw [hVe]
  try rw [hg]
  have HG := Lib.hid hg
  clear hVe hg
  go_loopw [1, 7, 9] (fun p out i wi => ∃ (j : Nat) (vs : Value), j ≤ 5 ∧ vs = out ∧ i = .int .i64 j ∧ p = .int .i64 (pP xs q j) ∧ (∀ i, i < j → pE xs q i = 0) ∧ wi.ownsRow (g + 2) 3 1 vs ((List.range j).map (pV xs q)).length (((List.range j).map (pV xs q)).map (Value.int .i64)) ∧ Below (g + 2) V wi) (fun _ _ i _ => 5 - (intOf i).toNat)
  case atStart => exact ⟨0, _, Nat.zero_le _, rfl, rfl, rfl, fun i h => absurd h (Nat.not_lt_zero _), World.ownsRow_nil _ _ _ _, Below.refl _ _⟩
  case round =>
    obtain ⟨j, vs, hj, rfl, rfl, rfl, he, hvs, hbi⟩ := hrel
    have HE := Lib.hid he
    have HVS := Lib.hid hvs
    have HBI := Lib.hid hbi
    have OR := Lib.hid (HOR.out.low (Nat.lt_add_of_pos_right (by decide)) hbi)
    have HB : Hid (Below w.heap.size w wr) := by rw [HG.out]; exact HBV.out.trans (hbi.mono (Nat.le_add_right g 2))
    have HVI : Hid (Bs wr (.slice a l c) xs) := Bs_below HV.out HB.out
    have HGW : Hid (g + 2 ≤ wr.heap.size) := by have := hbi.size; rw [HSV.out] at this; exact this
    clear he hvs hbi
    by_cases hlj : j < 5
    · obtain ⟨⟨n1, n2, n3⟩, hn⟩ : ∃ n, getS xs (pP xs q j) (szP j) = n := ⟨_, rfl⟩
      have d2 := Lib.hid (rget_any (.slice a l c) xs (pP xs q j) (szP j) wr HVI.out)
      rw [hn] at d2
      simp only [tri] at d2
      have N1 : Hid (pV xs q j = n1) := by show _ = _; unfold pV; rw [hn]
      have N2 : Hid (pP xs q (j + 1) = n2) := by show _ = _; rw [pP, hn]
      have N3 : Hid (pE xs q j = n3) := by show _ = _; unfold pE; rw [hn]
      have z0 := (HBI.out.cell (p := ⟨g + 1, j, none⟩) (Nat.lt_succ_self (g + 1))).trans (HZ.out j hlj)
      obtain ⟨P, hP⟩ : ∃ P, pP xs q j = P := ⟨_, rfl⟩
      obtain ⟨Z, hZe⟩ : ∃ Z, szP j = Z := ⟨_, rfl⟩
      obtain ⟨L, hL⟩ : ∃ L, (List.range j).map (pV xs q) = L := ⟨_, rfl⟩
      have hLl : L.length = j := by rw [← hL]; simp
      rw [hL] at HVS
      rw [hP, hZe] at d2
      rw [hZe] at z0
      rw [hP]
      have HL := Lib.hid hL
      have HLL := Lib.hid hLl
      clear hn hP hZe hL hLl
      go_wp2_with fail
      refine d2.out.mono ?_
      rintro e w5 ⟨rfl, hw⟩
      subst hw
      by_cases h6 : n3 = 0
      · have h6' : (n3 != 0) = false := by simpa using h6
        have H6 := Lib.hid h6
        clear h6 d2
        go_wp2_with (at_builtin; (skip; refine zapp_any rfl (.tmp 34) (.tmp 36) rfl (g + 2) L [n1] (HVS.out.alloc _) (is_lit wr [n1] 3 _ 1 rfl rfl (by simp) _ rfl) (by have := HLL.out; simp; omega) (by have := HGW.out; simp; omega) ?_; intro v2 w2 hown2 hb2 hs2 hn2; have O2 := Lib.hid hown2; have HB2 := Lib.hid hb2; clear hown2 hb2 hs2 hn2))
        go_roundw
        case rel =>
          refine ⟨j + 1, _, by omega, rfl, by go_num, by rw [N2.out], fun i hi => ?_, by rw [pvals_step, N1.out, HL.out]; exact O2.out, (HBI.out.alloc HGW.out _).trans HB2.out⟩
          by_cases h : i < j
          · exact HE.out i h
          · obtain rfl : i = j := by omega
            rw [N3.out]; exact H6.out
        case measure => simp [intOf]; omega
      · have h6' : (n3 != 0) = true := by simpa using h6
        have H6 := Lib.hid h6
        have HR : Hid (pkPF xs q = .inl n3) := by
          show _ = _
          rw [pkPF_err hlj HE.out (by rw [N3.out]; exact h6), N3.out]
        clear h6 d2
        obtain ⟨⟨r0, r1, r2, r3, r4⟩, rf⟩ := OR.out
        go_wp2_with fail
        rw [← HG.out]
        rw [← HG.out] at OR
        have hs := (OR.out.set 0 0 0 0 ⟨#[]⟩).1
        have hbs := bel_put5 (b := w.heap.size) HB.out (Nat.le_refl _) 0 0 0 0 ⟨#[]⟩
        simp only [put5] at hs hbs
        generalize ((((wr.setCell ⟨w.heap.size, 0, none⟩ (.int .i64 0)).setCell ⟨w.heap.size, 1, none⟩ (.int .i64 0)).setCell ⟨w.heap.size, 2, none⟩ (.int .i64 0)).setCell ⟨w.heap.size, 3, none⟩ (.int .i64 0)).setCell ⟨w.heap.size, 4, none⟩ (.string ⟨#[]⟩) = W5 at *
        obtain ⟨s0_, s1_, s2_, s3_, s4_⟩ := hs
        exact bodyPost_ret (v := .tuple #[.agg #[.int .i64 0, .int .i64 0, .int .i64 0, .int .i64 0, .string ⟨#[]⟩], .int .i64 0, .int .i64 n3]) (by simp [results, Try.results16, go_sem, s0_, s1_, s2_, s3_, s4_]) rfl ⟨by rw [HR.out]; rfl, hbs⟩

    · obtain rfl : j = 5 := by omega
      have hin := pP_in HE.out
      have HR : Hid (pkPF xs q = endP xs (pV xs q 0) (pV xs q 1) (pV xs q 2) (pV xs q 3) (pV xs q 4) (pP xs q 5)) := pkPF_go HE.out
      have hL : (List.range 5).map (pV xs q) = [pV xs q 0, pV xs q 1, pV xs q 2, pV xs q 3, pV xs q 4] := rfl
      have bd := fun j hj => pV_bd HX.out q (j := j) hj
      have bd4 := bd 4 (by decide)
      obtain ⟨m0, h0⟩ : ∃ r, pV xs q 0 = r := ⟨_, rfl⟩
      obtain ⟨m1, h1⟩ : ∃ r, pV xs q 1 = r := ⟨_, rfl⟩
      obtain ⟨m2, h2⟩ : ∃ r, pV xs q 2 = r := ⟨_, rfl⟩
      obtain ⟨m3, h3⟩ : ∃ r, pV xs q 3 = r := ⟨_, rfl⟩
      obtain ⟨m4, h4⟩ : ∃ r, pV xs q 4 = r := ⟨_, rfl⟩
      obtain ⟨P5, hP5⟩ : ∃ r, pP xs q 5 = r := ⟨_, rfl⟩
      have hvs := HVS.out
      rw [hL, h0, h1, h2, h3, h4] at hvs
      rw [h0, h1, h2, h3, h4, hP5] at HR
      rw [hP5] at hin ⊢
      rw [h4] at bd4
      have HIN := Lib.hid hin
      have HM4 := Lib.hid bd4
      clear hL h0 h1 h2 h3 h4 hP5 HVS hin bd HE HZ
      obtain ⟨b4, c4, hv4, hb4⟩ : ∃ b c, vs = .slice (some ⟨b, 0, none⟩) 5 c ∧ g + 2 ≤ b := by
        rcases hvs.2 with ⟨_, h⟩ | ⟨b, cap, cur, h1, h2, _⟩
        · simp at h
        · exact ⟨b, cap, h1, h2⟩
      subst hv4
      have q0 := gown_cell hvs 0 (by decide)
      have q1 := gown_cell hvs 1 (by decide)
      have q2 := gown_cell hvs 2 (by decide)
      have q3 := gown_cell hvs 3 (by decide)
      have q4 := gown_cell hvs 4 (by decide)
      simp only [List.map_cons, List.map_nil, List.getElem?_cons_zero, List.getElem?_cons_succ] at q0 q1 q2 q3 q4
      have HVS := Lib.hid hvs
      have HB4 := Lib.hid hb4
      clear hvs hb4
      have hbl := Bs_len2 HVI.out
      obtain ⟨rfl, hlc⟩ := hbl
      obtain ⟨⟨r0, r1, r2, r3, r4⟩, rf⟩ := OR.out
      by_cases k1 : m4 > 256
      · have HR2 : Hid (pkPF xs q = .inl 4) := by show _ = _; rw [HR.out]; unfold endP; rw [if_pos k1]
        go_wp2_with fail
        rw [← HG.out]
        rw [← HG.out] at OR
        have hs := (OR.out.set 0 0 0 0 ⟨#[]⟩).1
        have hbs := bel_put5 (b := w.heap.size) HB.out (Nat.le_refl _) 0 0 0 0 ⟨#[]⟩
        simp only [put5] at hs hbs
        generalize ((((wr.setCell ⟨w.heap.size, 0, none⟩ (.int .i64 0)).setCell ⟨w.heap.size, 1, none⟩ (.int .i64 0)).setCell ⟨w.heap.size, 2, none⟩ (.int .i64 0)).setCell ⟨w.heap.size, 3, none⟩ (.int .i64 0)).setCell ⟨w.heap.size, 4, none⟩ (.string ⟨#[]⟩) = W5 at *
        obtain ⟨s0_, s1_, s2_, s3_, s4_⟩ := hs
        exact bodyPost_ret (v := .tuple #[.agg #[.int .i64 0, .int .i64 0, .int .i64 0, .int .i64 0, .string ⟨#[]⟩], .int .i64 0, .int .i64 4]) (by simp [results, Try.results16, go_sem, s0_, s1_, s2_, s3_, s4_]) rfl ⟨by rw [HR2.out]; rfl, hbs⟩

      · have k1' : decide (m4 > 256) = false := decide_eq_false k1
        have hsw : IntKind.i64.wrap ((xs.length : Int) - P5) = (xs.length : Int) - P5 := by rw [IntKind.wrap_i64]; have := HVI.out.2.1; have := HIN.out; omega
        by_cases k2 : (xs.length : Int) - P5 < m4
        · have HR2 : Hid (pkPF xs q = .inl 6) := by show _ = _; rw [HR.out]; unfold endP; rw [if_neg k1, if_pos k2]
          go_wp2_with fail
          rw [← HG.out]
          rw [← HG.out] at OR
          have hs := (OR.out.set 0 0 0 0 ⟨#[]⟩).1
          have hbs := bel_put5 (b := w.heap.size) HB.out (Nat.le_refl _) 0 0 0 0 ⟨#[]⟩
          simp only [put5] at hs hbs
          generalize ((((wr.setCell ⟨w.heap.size, 0, none⟩ (.int .i64 0)).setCell ⟨w.heap.size, 1, none⟩ (.int .i64 0)).setCell ⟨w.heap.size, 2, none⟩ (.int .i64 0)).setCell ⟨w.heap.size, 3, none⟩ (.int .i64 0)).setCell ⟨w.heap.size, 4, none⟩ (.string ⟨#[]⟩) = W5 at *
          obtain ⟨s0_, s1_, s2_, s3_, s4_⟩ := hs
          exact bodyPost_ret (v := .tuple #[.agg #[.int .i64 0, .int .i64 0, .int .i64 0, .int .i64 0, .string ⟨#[]⟩], .int .i64 0, .int .i64 6]) (by simp [results, Try.results16, go_sem, s0_, s1_, s2_, s3_, s4_]) rfl ⟨by rw [HR2.out]; rfl, hbs⟩

        · have k2' : decide ((xs.length : Int) - P5 < m4) = false := decide_eq_false k2
          obtain ⟨p, hp⟩ : ∃ p : Nat, P5 = p := ⟨P5.toNat, by have := HIN.out; omega⟩
          obtain ⟨k, hk⟩ : ∃ k : Nat, m4 = k := ⟨m4.toNat, by have := HM4.out; omega⟩
          subst hp
          subst hk
          have hpk : p + k ≤ xs.length := by omega
          have h7 : 7 ≤ xs.length := by have := HIN.out; omega
          obtain ⟨b, o, rfl, hcap⟩ : ∃ b o, a = some ⟨b, o, none⟩ ∧ xs.length ≤ c := by
            obtain ⟨_, _, ⟨a', c', h1, _, rfl⟩ | ⟨b, o, c', h1, h2, _⟩⟩ := HVI.out
            · simp at h7
            · simp only [Value.slice.injEq, true_and] at h1; exact ⟨b, o, h1.1, by omega⟩
          have HW9 := Lib.hid (bs_win HVI.out p k hpk hcap)
          obtain ⟨X, hX⟩ : ∃ X, strOfNums ((xs.drop p).take k) = X := ⟨_, rfl⟩
          have hsub : sub xs p k = X := by rw [← hX]; rfl
          obtain ⟨A9, hA9⟩ : ∃ A9, (if c = p then some (⟨b, o, none⟩ : Addr) else some ⟨b, o + p, none⟩) = A9 := ⟨_, rfl⟩
          rw [hA9] at HW9
          have hcv : ∀ w', Below wr.heap.size wr w' → (convert 24 9 (.slice A9 k (c - p))).run Try.prog w' = .ok (.string X) w' := fun w' h => by rw [← hX]; exact Bs_conv (Bs_below HW9.out h)
          have HR3 : Hid (pkPF xs q = if PkOk m0 m1 m2 m3 X then .inr ((m0, m1, m2, m3, X), (p : Int) + k) else .inl 4) := by
            show _ = _
            rw [HR.out]; unfold endP; rw [if_neg k1, if_neg k2, hsub]
          have hwk : IntKind.i64.wrap ((p : Int) + (k : Int)) = (p : Int) + (k : Int) := by rw [IntKind.wrap_i64]; have := HVI.out.2.1; omega
          have hs0 : (0 : Int) ≤ (p : Int) := Int.natCast_nonneg _
          have hs1 : (p : Int) ≤ (p : Int) + (k : Int) := by omega
          have hs2 : (p : Int) + (k : Int) ≤ (c : Int) := by omega
          have hs3 : ((p : Int)).toNat = p := Int.toNat_natCast p
          have hs4 : ((p : Int) + (k : Int)).toNat = p + k := by omega
          have hs5 : p + k - p = k := by omega
          clear hX hsub HW9 h7 hpk
          go_wp2_with fail
          have kc : ∀ w', Below wr.heap.size wr w' → w'.cell? ⟨b4, 0, none⟩ = some (.int .i64 m0) ∧ w'.cell? ⟨b4, 1, none⟩ = some (.int .i64 m1) ∧ w'.cell? ⟨b4, 2, none⟩ = some (.int .i64 m2) ∧ w'.cell? ⟨b4, 3, none⟩ = some (.int .i64 m3) ∧ w'.cell? ⟨b4, 4, none⟩ = some (.int .i64 k) := fun w' h => ⟨(h.cell (World.block_lt_of_cell? _ _ q0)).trans q0, (h.cell (World.block_lt_of_cell? _ _ q1)).trans q1, (h.cell (World.block_lt_of_cell? _ _ q2)).trans q2, (h.cell (World.block_lt_of_cell? _ _ q3)).trans q3, (h.cell (World.block_lt_of_cell? _ _ q4)).trans q4⟩
          refine T3.wp_region_tail (C := fun w' => Below wr.heap.size wr w') (X := fun _ w w' => Below w.heap.size w w') (n := 85) 23 (by kernel_rfl) (by kernel_rfl) (by kernel_rfl) (by kernel_rfl) rfl (fun _ w => Below.refl _ w) (Below.refl _ _).drew ?_
          simp only [List.take_succ_cons, List.take_zero, List.drop_succ_cons, List.drop_zero]
          refine T3.w_is (fun _ w => Below.refl _ w) rfl _ (.inl rfl) (fun ρ w hC hc hfn hf => by have e7 : ρ (.tmp 7) = _ := hf 7 (by decide); (conv => lhs; simp [execOp, go_sem, hc, e7])) ?_
          refine T3.w_is (fun _ w => Below.refl _ w) rfl _ (.inl rfl) (fun ρ w hC hc hfn hf => by have e53 : ρ (.tmp 53) = _ := hf 53 (by decide); (conv => lhs; simp [execOp, go_sem, hc, e53])) ?_
          refine T3.w_is (fun _ w => Below.refl _ w) rfl _ (.inl rfl) (fun ρ w hC hc hfn hf => by have e54 : ρ (.tmp 54) = _ := hf 54 (by decide); (conv => lhs; simp [execOp, go_sem, hc, e54, kc w hC])) ?_
          refine T3.w_is (fun _ w => Below.refl _ w) rfl _ (.inl rfl) (fun ρ w hC hc hfn hf => by have e7 : ρ (.tmp 7) = _ := hf 7 (by decide); (conv => lhs; simp [execOp, go_sem, hc, e7])) ?_
          refine T3.w_is (fun _ w => Below.refl _ w) rfl _ (.inl rfl) (fun ρ w hC hc hfn hf => by have e56 : ρ (.tmp 56) = _ := hf 56 (by decide); (conv => lhs; simp [execOp, go_sem, hc, e56])) ?_
          refine T3.w_is (fun _ w => Below.refl _ w) rfl _ (.inl rfl) (fun ρ w hC hc hfn hf => by have e57 : ρ (.tmp 57) = _ := hf 57 (by decide); (conv => lhs; simp [execOp, go_sem, hc, e57, kc w hC])) ?_
          refine T3.w_is (fun _ w => Below.refl _ w) rfl _ (.inl rfl) (fun ρ w hC hc hfn hf => by have e7 : ρ (.tmp 7) = _ := hf 7 (by decide); (conv => lhs; simp [execOp, go_sem, hc, e7])) ?_
          refine T3.w_is (fun _ w => Below.refl _ w) rfl _ (.inl rfl) (fun ρ w hC hc hfn hf => by have e59 : ρ (.tmp 59) = _ := hf 59 (by decide); (conv => lhs; simp [execOp, go_sem, hc, e59])) ?_
          refine T3.w_is (fun _ w => Below.refl _ w) rfl _ (.inl rfl) (fun ρ w hC hc hfn hf => by have e60 : ρ (.tmp 60) = _ := hf 60 (by decide); (conv => lhs; simp [execOp, go_sem, hc, e60, kc w hC])) ?_
          refine T3.w_is (fun _ w => Below.refl _ w) rfl _ (.inl rfl) (fun ρ w hC hc hfn hf => by have e7 : ρ (.tmp 7) = _ := hf 7 (by decide); (conv => lhs; simp [execOp, go_sem, hc, e7])) ?_
          refine T3.w_is (fun _ w => Below.refl _ w) rfl _ (.inl rfl) (fun ρ w hC hc hfn hf => by have e62 : ρ (.tmp 62) = _ := hf 62 (by decide); (conv => lhs; simp [execOp, go_sem, hc, e62])) ?_
          refine T3.w_is (fun _ w => Below.refl _ w) rfl _ (.inl rfl) (fun ρ w hC hc hfn hf => by have e63 : ρ (.tmp 63) = _ := hf 63 (by decide); (conv => lhs; simp [execOp, go_sem, hc, e63, kc w hC])) ?_
          refine T3.w_is (fun _ w => Below.refl _ w) rfl _ (.inl rfl) (fun ρ w hC hc hfn hf => by have e0 : ρ (.tmp 0) = _ := hf 0 (by decide); (conv => lhs; simp [execOp, go_sem, hc, e0])) ?_
          refine T3.w_is (fun _ w => Below.refl _ w) rfl _ (.inl rfl) (fun ρ w hC hc hfn hf => by have e1 : ρ (.tmp 1) = _ := hf 1 (by decide); (conv => lhs; simp [execOp, go_sem, hc, e1])) ?_
          refine T3.w_is (fun _ w => Below.refl _ w) rfl _ (.inl rfl) (fun ρ w hC hc hfn hf => by have e1 : ρ (.tmp 1) = _ := hf 1 (by decide); (conv => lhs; simp [execOp, go_sem, hc, e1])) ?_
          refine T3.w_is (fun _ w => Below.refl _ w) rfl _ (.inl rfl) (fun ρ w hC hc hfn hf => by have e7 : ρ (.tmp 7) = _ := hf 7 (by decide); (conv => lhs; simp [execOp, go_sem, hc, e7])) ?_
          refine T3.w_is (fun _ w => Below.refl _ w) rfl _ (.inl rfl) (fun ρ w hC hc hfn hf => by have e68 : ρ (.tmp 68) = _ := hf 68 (by decide); (conv => lhs; simp [execOp, go_sem, hc, e68])) ?_
          refine T3.w_is (fun _ w => Below.refl _ w) rfl _ (.inl rfl) (fun ρ w hC hc hfn hf => by have e69 : ρ (.tmp 69) = _ := hf 69 (by decide); (conv => lhs; simp [execOp, go_sem, hc, e69, kc w hC])) ?_
          refine T3.w_is (fun _ w => Below.refl _ w) rfl _ (.inl rfl) (fun ρ w hC hc hfn hf => by have e67 : ρ (.tmp 67) = _ := hf 67 (by decide); have e70 : ρ (.tmp 70) = _ := hf 70 (by decide); (conv => lhs; simp [execOp, go_sem, hc, e67, e70, hwk])) ?_
          refine T3.w_is (fun _ w => Below.refl _ w) rfl _ (.inl rfl) (fun ρ w hC hc hfn hf => by have e65 : ρ (.tmp 65) = _ := hf 65 (by decide); have e66 : ρ (.tmp 66) = _ := hf 66 (by decide); have e71 : ρ (.tmp 71) = _ := hf 71 (by decide); (conv => lhs; simp [execOp, go_sem, hc, e65, e66, e71, hs0, hs1, hs2, hs3, hs4, hs5, hA9])) ?_
          refine T3.w_is (fun _ w => Below.refl _ w) rfl _ (.inl rfl) (fun ρ w hC hc hfn hf => by have e72 : ρ (.tmp 72) = _ := hf 72 (by decide); (conv => lhs; simp [execOp, go_sem, hc, e72, hcv w hC])) ?_
          refine T3.w_is (fun _ w => Below.refl _ w) rfl _ (.inl rfl) (fun ρ w hC hc hfn hf => by have e55 : ρ (.tmp 55) = _ := hf 55 (by decide); have e58 : ρ (.tmp 58) = _ := hf 58 (by decide); have e61 : ρ (.tmp 61) = _ := hf 61 (by decide); have e64 : ρ (.tmp 64) = _ := hf 64 (by decide); have e73 : ρ (.tmp 73) = _ := hf 73 (by decide); (conv => lhs; simp [execOp, go_sem, hc, e55, e58, e61, e64, e73])) ?_
          refine T3.w_make rfl (NewPV wr) (NewPV.keeps wr 22) (.inl rfl) (fun ρ w hC hc hfn hf => by exact ⟨_, _, by (conv => lhs; simp [execOp, go_sem]), hC.alloc hC.size _, (Below.refl _ w).alloc (Nat.le_refl _) _, ⟨_, rfl, hC.size, ownp_alloc w 0 0 0 0 ⟨#[]⟩ 23 _ rfl⟩⟩) ?_
          intro A V5 hC hn hd hf
          obtain ⟨ga, y13, hga, KW⟩ := (show NewPV wr (A.eval (.tmp 13)) V5 from hf 13)
          have y0 : A.eval (.tmp 0) = _ := Eq.trans (hf 0) (by conv => lhs; simp [go_sem])
          have y1 : A.eval (.tmp 1) = _ := Eq.trans (hf 1) (by conv => lhs; simp [go_sem])
          have y2 : A.eval (.tmp 2) = _ := Eq.trans (hf 2) (by conv => lhs; simp [go_sem])
          have y3 : A.eval (.tmp 3) = _ := Eq.trans (hf 3) (by conv => lhs; simp [go_sem])
          have y4 : A.eval (.tmp 4) = _ := Eq.trans (hf 4) (by conv => lhs; simp [go_sem])
          have y5 : A.eval (.tmp 5) = _ := Eq.trans (hf 5) (by conv => lhs; simp [go_sem])
          have y6 : A.eval (.tmp 6) = _ := Eq.trans (hf 6) (by conv => lhs; simp [go_sem])
          have y7 : A.eval (.tmp 7) = _ := Eq.trans (hf 7) (by conv => lhs; simp [go_sem])
          have y8 : A.eval (.tmp 8) = _ := Eq.trans (hf 8) (by conv => lhs; simp [go_sem])
          have y9 : A.eval (.tmp 9) = _ := Eq.trans (hf 9) (by conv => lhs; simp [go_sem])
          have y10 : A.eval (.tmp 10) = _ := Eq.trans (hf 10) (by conv => lhs; simp [go_sem])
          have y11 : A.eval (.tmp 11) = _ := Eq.trans (hf 11) (by conv => lhs; simp [go_sem])
          have y12 : A.eval (.tmp 12) = _ := Eq.trans (hf 12) (by conv => lhs; simp [go_sem])
          have y14 : A.eval (.tmp 14) = _ := Eq.trans (hf 14) (by conv => lhs; simp [go_sem])
          have y15 : A.eval (.tmp 15) = _ := Eq.trans (hf 15) (by conv => lhs; simp [go_sem])
          have y16 : A.eval (.tmp 16) = _ := Eq.trans (hf 16) (by conv => lhs; simp [go_sem])
          have y17 : A.eval (.tmp 17) = _ := Eq.trans (hf 17) (by conv => lhs; simp [go_sem])
          have y18 : A.eval (.tmp 18) = _ := Eq.trans (hf 18) (by conv => lhs; simp [go_sem])
          have y19 : A.eval (.tmp 19) = _ := Eq.trans (hf 19) (by conv => lhs; simp [go_sem])
          have y20 : A.eval (.tmp 20) = _ := Eq.trans (hf 20) (by conv => lhs; simp [go_sem])
          have y21 : A.eval (.tmp 21) = _ := Eq.trans (hf 21) (by conv => lhs; simp [go_sem])
          have y22 : A.eval (.tmp 22) = _ := Eq.trans (hf 22) (by conv => lhs; simp [go_sem])
          have y23 : A.eval (.tmp 23) = _ := Eq.trans (hf 23) (by conv => lhs; simp [go_sem])
          have y24 : A.eval (.tmp 24) = _ := Eq.trans (hf 24) (by conv => lhs; simp [go_sem])
          have y25 : A.eval (.tmp 25) = _ := Eq.trans (hf 25) (by conv => lhs; simp [go_sem])
          have y26 : A.eval (.tmp 26) = _ := Eq.trans (hf 26) (by conv => lhs; simp [go_sem])
          have y27 : A.eval (.tmp 27) = _ := Eq.trans (hf 27) (by conv => lhs; simp [go_sem])
          have y28 : A.eval (.tmp 28) = _ := Eq.trans (hf 28) (by conv => lhs; simp [go_sem])
          have y29 : A.eval (.tmp 29) = _ := Eq.trans (hf 29) (by conv => lhs; simp [go_sem])
          have y30 : A.eval (.tmp 30) = _ := Eq.trans (hf 30) (by conv => lhs; simp [go_sem])
          have y31 : A.eval (.tmp 31) = _ := Eq.trans (hf 31) (by conv => lhs; simp [go_sem])
          have y32 : A.eval (.tmp 32) = _ := Eq.trans (hf 32) (by conv => lhs; simp [go_sem])
          have y33 : A.eval (.tmp 33) = _ := Eq.trans (hf 33) (by conv => lhs; simp [go_sem])
          have y34 : A.eval (.tmp 34) = _ := Eq.trans (hf 34) (by conv => lhs; simp [go_sem])
          have y35 : A.eval (.tmp 35) = _ := Eq.trans (hf 35) (by conv => lhs; simp [go_sem])
          have y36 : A.eval (.tmp 36) = _ := Eq.trans (hf 36) (by conv => lhs; simp [go_sem])
          have y37 : A.eval (.tmp 37) = _ := Eq.trans (hf 37) (by conv => lhs; simp [go_sem])
          have y38 : A.eval (.tmp 38) = _ := Eq.trans (hf 38) (by conv => lhs; simp [go_sem])
          have y39 : A.eval (.tmp 39) = _ := Eq.trans (hf 39) (by conv => lhs; simp [go_sem])
          have y40 : A.eval (.tmp 40) = _ := Eq.trans (hf 40) (by conv => lhs; simp [go_sem])
          have y41 : A.eval (.tmp 41) = _ := Eq.trans (hf 41) (by conv => lhs; simp [go_sem])
          have y42 : A.eval (.tmp 42) = _ := Eq.trans (hf 42) (by conv => lhs; simp [go_sem])
          have y43 : A.eval (.tmp 43) = _ := Eq.trans (hf 43) (by conv => lhs; simp [go_sem])
          have y44 : A.eval (.tmp 44) = _ := Eq.trans (hf 44) (by conv => lhs; simp [go_sem])
          have y45 : A.eval (.tmp 45) = _ := Eq.trans (hf 45) (by conv => lhs; simp [go_sem])
          have y46 : A.eval (.tmp 46) = _ := Eq.trans (hf 46) (by conv => lhs; simp [go_sem])
          have y47 : A.eval (.tmp 47) = _ := Eq.trans (hf 47) (by conv => lhs; simp [go_sem])
          have y48 : A.eval (.tmp 48) = _ := Eq.trans (hf 48) (by conv => lhs; simp [go_sem])
          have y49 : A.eval (.tmp 49) = _ := Eq.trans (hf 49) (by conv => lhs; simp [go_sem])
          have y50 : A.eval (.tmp 50) = _ := Eq.trans (hf 50) (by conv => lhs; simp [go_sem])
          have y51 : A.eval (.tmp 51) = _ := Eq.trans (hf 51) (by conv => lhs; simp [go_sem])
          have y52 : A.eval (.tmp 52) = _ := Eq.trans (hf 52) (by conv => lhs; simp [go_sem])
          have y53 : A.eval (.tmp 53) = _ := hf 53
          have y54 : A.eval (.tmp 54) = _ := hf 54
          have y55 : A.eval (.tmp 55) = _ := hf 55
          have y56 : A.eval (.tmp 56) = _ := hf 56
          have y57 : A.eval (.tmp 57) = _ := hf 57
          have y58 : A.eval (.tmp 58) = _ := hf 58
          have y59 : A.eval (.tmp 59) = _ := hf 59
          have y60 : A.eval (.tmp 60) = _ := hf 60
          have y61 : A.eval (.tmp 61) = _ := hf 61
          have y62 : A.eval (.tmp 62) = _ := hf 62
          have y63 : A.eval (.tmp 63) = _ := hf 63
          have y64 : A.eval (.tmp 64) = _ := hf 64
          have y65 : A.eval (.tmp 65) = _ := hf 65
          have y66 : A.eval (.tmp 66) = _ := hf 66
          have y67 : A.eval (.tmp 67) = _ := hf 67
          have y68 : A.eval (.tmp 68) = _ := hf 68
          have y69 : A.eval (.tmp 69) = _ := hf 69
          have y70 : A.eval (.tmp 70) = _ := hf 70
          have y71 : A.eval (.tmp 71) = _ := hf 71
          have y72 : A.eval (.tmp 72) = _ := hf 72
          have y73 : A.eval (.tmp 73) = _ := hf 73
          have y74 : A.eval (.tmp 74) = _ := hf 74
          have y75 : A.eval (.tmp 75) = _ := Eq.trans (hf 75) (by conv => lhs; simp [go_sem])
          have y76 : A.eval (.tmp 76) = _ := Eq.trans (hf 76) (by conv => lhs; simp [go_sem])
          have y77 : A.eval (.tmp 77) = _ := Eq.trans (hf 77) (by conv => lhs; simp [go_sem])
          have y78 : A.eval (.tmp 78) = _ := Eq.trans (hf 78) (by conv => lhs; simp [go_sem])
          have y79 : A.eval (.tmp 79) = _ := Eq.trans (hf 79) (by conv => lhs; simp [go_sem])
          have y80 : A.eval (.tmp 80) = _ := Eq.trans (hf 80) (by conv => lhs; simp [go_sem])
          have y81 : A.eval (.tmp 81) = _ := Eq.trans (hf 81) (by conv => lhs; simp [go_sem])
          have y82 : A.eval (.tmp 82) = _ := Eq.trans (hf 82) (by conv => lhs; simp [go_sem])
          have y83 : A.eval (.tmp 83) = _ := Eq.trans (hf 83) (by conv => lhs; simp [go_sem])
          have y84 : A.eval (.tmp 84) = _ := Eq.trans (hf 84) (by conv => lhs; simp [go_sem])
          clear hf
          have hA := frame_eq hn
          rw [show List.range 85 = [0, 1, 2, 3, 4, 5, 6, 7, 8, 9, 10, 11, 12, 13, 14, 15, 16, 17, 18, 19, 20, 21, 22, 23, 24, 25, 26, 27, 28, 29, 30, 31, 32, 33, 34, 35, 36, 37, 38, 39, 40, 41, 42, 43, 44, 45, 46, 47, 48, 49, 50, 51, 52, 53, 54, 55, 56, 57, 58, 59, 60, 61, 62, 63, 64, 65, 66, 67, 68, 69, 70, 71, 72, 73, 74, 75, 76, 77, 78, 79, 80, 81, 82, 83, 84] from rfl, hd] at hA
          simp only [List.map_cons, List.map_nil, y0, y1, y2, y3, y4, y5, y6, y7, y8, y9, y10, y11, y12, y13, y14, y15, y16, y17, y18, y19, y20, y21, y22, y23, y24, y25, y26, y27, y28, y29, y30, y31, y32, y33, y34, y35, y36, y37, y38, y39, y40, y41, y42, y43, y44, y45, y46, y47, y48, y49, y50, y51, y52, y53, y54, y55, y56, y57, y58, y59, y60, y61, y62, y63, y64, y65, y66, y67, y68, y69, y70, y71, y72, y73, y74, y75, y76, y77, y78, y79, y80, y81, y82, y83, y84] at hA
          clear y0 y1 y2 y3 y4 y5 y6 y7 y8 y9 y10 y11 y12 y13 y14 y15 y16 y17 y18 y19 y20 y21 y22 y23 y24 y25 y26 y27 y28 y29 y30 y31 y32 y33 y34 y35 y36 y37 y38 y39 y40 y41 y42 y43 y44 y45 y46 y47 y48 y49 y50 y51 y52 y53 y54 y55 y56 y57 y58 y59 y60 y61 y62 y63 y64 y65 y66 y67 y68 y69 y70 y71 y72 y73 y74 y75 y76 y77 y78 y79 y80 y81 y82 y83 y84
          clear hn hd
          subst hA
          have OP := Lib.hid (KW.set m0 m1 m2 m3 X)
          have hb6 : Below wr.heap.size wr (put5 V5 ga m0 m1 m2 m3 X) := bel_put5 hC hga m0 m1 m2 m3 X
          have OR5 := Lib.hid (OR.out.below hb6)
          have HB5 : Hid (Below w.heap.size w (put5 V5 ga m0 m1 m2 m3 X)) := HB.out.trans (hb6.mono HB.out.size)
          have HQ5 := Lib.hid (kc _ hb6).2.2.2.2
          obtain ⟨⟨t0, t1, t2, t3, t4⟩, tf⟩ := KW
          clear kc hC q0 q1 q2 q3 q4 r0 r1 r2 r3 r4 rf hcv OR HB hA9 hb6 hga
          obtain ⟨V6, hV6⟩ : ∃ V6, put5 V5 ga m0 m1 m2 m3 X = V6 := ⟨_, rfl⟩
          rw [hV6] at OP OR5 HB5 HQ5
          simp only [put5] at hV6
          obtain ⟨Q, hQ⟩ : ∃ Q : Bool, Q = true ↔ PkOk m0 m1 m2 m3 X := ⟨decide (PkOk m0 m1 m2 m3 X), decide_eq_true_iff⟩
          have cR := fun W => rpright_fix m0 m1 m2 m3 X Q hQ W
          have HQ := Lib.hid hQ
          clear hQ
          obtain ⟨⟨u0_, u1_, u2_, u3_, u4_⟩, -⟩ := OP.out
          go_wp2_with fail
          clear hV6 t0 t1 t2 t3 t4 tf u0_ u1_ u2_ u3_ u4_
          refine (cR _).mono ?_
          rintro e V7 ⟨rfl, hb⟩
          have OR := Lib.hid (OR5.out.below hb)
          have HB := Lib.hid (HB5.out.trans (hb.mono HB5.out.size))
          have OP7 := Lib.hid (OP.out.below hb)
          have q4 := (hb.cell (World.block_lt_of_cell? _ _ HQ5.out)).trans HQ5.out
          clear hb cR OR5 HB5
          cases Q with
          | false =>
            have HR4 : Hid (pkPF xs q = .inl 4) := by show _ = _; rw [HR3.out, if_neg (fun h => by cases HQ.out.2 h)]
            obtain ⟨⟨r0, r1, r2, r3, r4⟩, rf⟩ := OR.out
            go_wp2_with fail
            rw [← HG.out]
            rw [← HG.out] at OR
            have hs := (OR.out.set 0 0 0 0 ⟨#[]⟩).1
            have hbs := bel_put5 (b := w.heap.size) HB.out (Nat.le_refl _) 0 0 0 0 ⟨#[]⟩
            simp only [put5] at hs hbs
            generalize ((((V7.setCell ⟨w.heap.size, 0, none⟩ (.int .i64 0)).setCell ⟨w.heap.size, 1, none⟩ (.int .i64 0)).setCell ⟨w.heap.size, 2, none⟩ (.int .i64 0)).setCell ⟨w.heap.size, 3, none⟩ (.int .i64 0)).setCell ⟨w.heap.size, 4, none⟩ (.string ⟨#[]⟩) = W5 at *
            obtain ⟨s0_, s1_, s2_, s3_, s4_⟩ := hs
            exact bodyPost_ret (v := .tuple #[.agg #[.int .i64 0, .int .i64 0, .int .i64 0, .int .i64 0, .string ⟨#[]⟩], .int .i64 0, .int .i64 4]) (by simp [results, Try.results16, go_sem, s0_, s1_, s2_, s3_, s4_]) rfl ⟨by rw [HR4.out]; rfl, hbs⟩

          | true =>
            have HR4 : Hid (pkPF xs q = .inr ((m0, m1, m2, m3, X), (p : Int) + k)) := by show _ = _; rw [HR3.out, if_pos (HQ.out.1 rfl)]
            obtain ⟨⟨r0, r1, r2, r3, r4⟩, rf⟩ := OR.out
            obtain ⟨⟨t0, t1, t2, t3, t4⟩, tf⟩ := OP7.out
            go_wp2_with fail
            have hne : b4 ≠ g := by have := HB4.out; omega
            have hne' : g ≠ b4 := hne.symm
            go_region
            all_goals
              go_wp2_with fail
              have hs := (OR.out.set m0 m1 m2 m3 X).1
              have hbs := bel_put5 (B := w.heap.size) (b := g) HB.out (Nat.le_of_eq HG.out) m0 m1 m2 m3 X
              simp only [put5] at hs hbs
              generalize ((((V7.setCell ⟨g, 0, none⟩ (.int .i64 m0)).setCell ⟨g, 1, none⟩ (.int .i64 m1)).setCell ⟨g, 2, none⟩ (.int .i64 m2)).setCell ⟨g, 3, none⟩ (.int .i64 m3)).setCell ⟨g, 4, none⟩ (.string X) = W5 at *
              obtain ⟨s0_, s1_, s2_, s3_, s4_⟩ := hs
              exact bodyPost_ret (v := .tuple #[.agg #[.int .i64 m0, .int .i64 m1, .int .i64 m2, .int .i64 m3, .string X], .int .i64 ((p : Int) + (k : Int)), .int .i64 0]) (by simp [results, Try.results16, go_sem, s0_, s1_, s2_, s3_, s4_]) rfl ⟨by rw [HR4.out]; rfl, hbs.drew⟩
#print axioms rpparse_any
end Go.Proofs.Yteleedpiadcfjaa
