/- A beacon out of bytes: the reference's Parse. No conditions but on lengths. -/
import Derived.Test.YtaflgabjpcfgpaaBeq
import Derived.Test.YtaflgabjpcfgpaaRef
namespace Go.Proofs.Ytaflgabjpcfgpaa
set_option maxRecDepth 100000
open Go.RowKit

/-- Echoes out of bytes: an error, or all of them and the place behind. -/
def ecP (xs : List Int) : Nat → Int → List (Int × Int) → Int ⊕ (List (Int × Int) × Int)
  | 0, p, acc => .inr (acc, p)
  | n + 1, p, acc =>
    if (getS xs p 1).2.2 ≠ 0 then .inl (getS xs p 1).2.2
    else if (getS xs (getS xs p 1).2.1 4).2.2 ≠ 0 then .inl (getS xs (getS xs p 1).2.1 4).2.2
    else ecP xs n (getS xs (getS xs p 1).2.1 4).2.1 (acc ++ [((getS xs p 1).1, (getS xs (getS xs p 1).2.1 4).1)])
/-- A beacon out of bytes. -/
def bePF (xs : List Int) (at' : Int) : Int ⊕ (Int × List (Int × Int) × Int) :=
  if (getS xs at' 4).2.2 ≠ 0 then .inl (getS xs at' 4).2.2
  else if (getS xs (getS xs at' 4).2.1 1).2.2 ≠ 0 then .inl (getS xs (getS xs at' 4).2.1 1).2.2
  else match ecP xs (getS xs (getS xs at' 4).2.1 1).1.toNat (getS xs (getS xs at' 4).2.1 1).2.1 [] with
    | .inl e => .inl e
    | .inr (ys, to) => if BeOk (getS xs at' 4).1 ys then .inr ((getS xs at' 4).1, ys, to) else .inl 4
/-- What Parse returns. -/
def PRet (w : World) (r : Int ⊕ (Int × List (Int × Int) × Int)) (u : Value) (t k : Int) (w' : World) : Prop :=
  match r with
  | .inl e => u = .agg #[.int .i64 0, .slice none 0 0] ∧ t = 0 ∧ k = e
  | .inr (M, ys, to) => t = to ∧ k = 0 ∧ ∃ u', u = .agg #[.int .i64 M, u'] ∧ OwE w' w.heap.size u' ys
theorem getS_byte {xs : List Int} (hx : ∀ x ∈ xs, 0 ≤ x ∧ x < 256) (p : Int) : 0 ≤ (getS xs p 1).1 ∧ (getS xs p 1).1 ≤ 255 := by
  unfold getS
  split
  · simp
  · split
    · simp
    · have h1 := seg_bd hx p.toNat 1
      have h2 : segN xs p.toNat 1 < 256 * 1 := h1.2
      show 0 ≤ segN xs p.toNat 1 ∧ segN xs p.toNat 1 ≤ 255
      omega
set_option maxHeartbeats 32000000 in
theorem rparse6_any (v : Value) (xs : List Int) (at' : Int) (w : World) (hv : Bs w v xs) :
    Calls Try.prog 22 #[v, .int .i64 at'] w fun e w' => (∃ u t k, e = .returned (.tuple #[u, .int .i64 t, .int .i64 k]) ∧ PRet w (bePF xs at') u t k w') ∧ Below w.heap.size w w' := by
  obtain ⟨W1, hW1⟩ : ∃ W1, W1 = w.alloc (.cells #[.int .i64 0, .slice none 0 0] 24) := ⟨_, rfl⟩
  have HB : Hid (Below w.heap.size w W1) := by rw [hW1]; exact (Below.refl _ w).alloc (Nat.le_refl _) _
  have OR : Hid (OwnB2 W1 w.heap.size 0 (.slice none 0 0)) := by rw [hW1]; exact ownb2_alloc w 0 (.slice none 0 0) 24 w.heap.size rfl
  have HV := Lib.hid (Bs_below hv HB.out)
  have hs1 : W1.heap.size = w.heap.size + 1 := by rw [hW1]; simp
  have HX := Lib.hid hv.1
  obtain ⟨⟨g1, g2, g3⟩, hg⟩ : ∃ g, getS xs at' 4 = g := ⟨_, rfl⟩
  have c1 := Lib.hid (rget_any v xs at' 4 W1 HV.out)
  rw [hg] at c1
  simp only [tri] at c1
  obtain ⟨⟨m1, m2, m3⟩, hm⟩ : ∃ m, getS xs g2 1 = m := ⟨_, rfl⟩
  have c2 := Lib.hid (rget_any v xs g2 1 W1 HV.out)
  rw [hm] at c2
  simp only [tri] at c2
  have HM := getS_byte HX.out g2
  rw [hm] at HM
  have HG := Lib.hid hg
  have HMM := Lib.hid hm
  have HMB := Lib.hid HM
  clear hv hg hm HM
  obtain ⟨⟨r0, r1⟩, rf⟩ := OR.out
  go_enter Try.func22, Try.ntmps22
  go_upto_region 1 with (fail)
  rw [← hW1]
  have HS1 := Lib.hid hs1
  clear hW1 hs1
  go_wp2_with fail
  refine c1.out.mono ?_
  rintro e w1 ⟨rfl, rfl⟩
  by_cases h3 : g3 = 0
  · have h3' : (g3 != 0) = false := by simpa using h3
    have H3 := Lib.hid h3
    clear h3
    go_wp2_with fail
    refine c2.out.mono ?_
    rintro e w1 ⟨rfl, rfl⟩
    by_cases h4 : m3 = 0
    · have h4' : (m3 != 0) = false := by simpa using h4
      have H4 := Lib.hid h4
      clear h4
      have hV0 : ∃ V0, V0 = W1.alloc (.cells #[.int .i64 g1, .slice none 0 0] 24) := ⟨_, rfl⟩
      obtain ⟨V0, hV0⟩ := hV0
      obtain ⟨g0, hg0⟩ : ∃ g0, W1.heap.size = g0 := ⟨_, rfl⟩
      have HG0 := Lib.hid hg0
      have HAL : Hid (Below g0 W1 V0) := by rw [← hg0, hV0]; exact (Below.refl _ W1).alloc (Nat.le_refl _) _
      have HOB := Lib.hid (show OwnB2 V0 g0 g1 (.slice none 0 0) by rw [hV0]; exact ownb2_alloc W1 g1 (.slice none 0 0) 24 g0 hg0.symm)
      have HGS : Hid (V0.heap.size = g0 + 1) := by show _ = _; rw [← hg0, hV0]; simp
      have HLT : Hid (w.heap.size < g0) := by show _ < _; have := HS1.out; omega
      have hm0 : 0 ≤ m1 := HMB.out.1
      have hm2 : m1 ≤ 255 := HMB.out.2
      go_wp2_with fail
      rw [← hV0]
      clear hV0 hg0 r0 r1 rf c2 c1
      go_loopw [1, 11] (fun p i wr => ∃ (k : Nat) (q : Int) (acc : List (Int × Int)) (u : Value), (k : Int) ≤ m1 ∧ i = .int .i64 k ∧ p = .int .i64 q ∧ OwnB2 wr g0 g1 u ∧ OwE wr (g0 + 1) u acc ∧ acc.length ≤ k ∧ ecP xs (m1.toNat - k) q acc = ecP xs m1.toNat m2 [] ∧ g0 + 1 ≤ wr.heap.size ∧ Below g0 W1 wr) (fun _ i _ => m1.toNat - (intOf i).toNat)
      case atStart => exact ⟨0, m2, [], _, hm0, rfl, rfl, HOB.out, eown_nil _ _, Nat.le_refl _, rfl, Nat.le_of_eq HGS.out.symm, HAL.out⟩
      case round =>
        obtain ⟨k, q, acc, u, hk, rfl, rfl, hob, hrow, hal, hec, hsz, hbel⟩ := hrel
        obtain ⟨a3, c3, rfl⟩ := hrow.form
        have HRR := Lib.hid (OR.out.low HLT.out hbel)
        have HVW : Hid (Bs wr v xs) := Bs_below HV.out (by rw [HG0.out]; exact hbel)
        have HBW : Hid (Below w.heap.size w wr) := HB.out.trans (hbel.mono (Nat.le_of_lt HLT.out))
        have HW := Lib.hid hbel
        have OO := Lib.hid hob
        have OW := Lib.hid hrow
        have HAC := Lib.hid hal
        have HEC := Lib.hid hec
        have HSW := Lib.hid hsz
        clear hbel hob hrow hal hec hsz
        obtain ⟨⟨z0, z1⟩, zf⟩ := HRR.out
        obtain ⟨⟨o0, o1⟩, of⟩ := OO.out
        by_cases hlt : (k : Int) < m1
        · obtain ⟨⟨p1, p2, p3⟩, hp⟩ : ∃ p, getS xs q 1 = p := ⟨_, rfl⟩
          have d1 := Lib.hid (rget_any v xs q 1 wr HVW.out)
          rw [hp] at d1
          simp only [tri] at d1
          obtain ⟨⟨n1, n2, n3⟩, hn⟩ : ∃ n, getS xs p2 4 = n := ⟨_, rfl⟩
          have d2 := Lib.hid (rget_any v xs p2 4 wr HVW.out)
          rw [hn] at d2
          simp only [tri] at d2
          have HST : Hid (ecP xs (m1.toNat - k) q acc = if p3 ≠ 0 then .inl p3 else if n3 ≠ 0 then .inl n3 else ecP xs (m1.toNat - (k + 1)) n2 (acc ++ [(p1, n1)])) := by
            show _ = _
            rw [show m1.toNat - k = (m1.toNat - (k + 1)) + 1 by omega]
            rw [ecP]
            simp only [hp, hn]
          clear hp hn
          go_wp2_with fail
          refine d1.out.mono ?_
          rintro e w5 ⟨rfl, rfl⟩
          by_cases h5 : p3 = 0
          · have h5' : (p3 != 0) = false := by simpa using h5
            have H5 := Lib.hid h5
            clear h5
            go_wp2_with fail
            refine d2.out.mono ?_
            rintro e w5 ⟨rfl, rfl⟩
            by_cases h6 : n3 = 0
            · have h6' : (n3 != 0) = false := by simpa using h6
              have H6 := Lib.hid h6
              clear h6
              go_wp2_with (at_builtin; refine eapp1_any rfl (.tmp 68) (.tmp 72) rfl wr p1 n1 rfl (g0 + 1) (.slice a3 acc.length c3) acc rfl rfl OW.out (by have := HAC.out; omega) HSW.out ?_; intro gh ch wh hrow2 hbel2; have OW2 := Lib.hid hrow2; have HB2 := Lib.hid hbel2; have O1 := OO.out.low (Nat.lt_succ_self _) hbel2; have OY := Lib.hid O1; obtain ⟨⟨q0, q1⟩, qf⟩ := O1; clear hrow2 hbel2)
              go_roundw
              case rel =>
                refine ⟨k + 1, n2, acc ++ [(p1, n1)], _, by omega, by go_num, rfl, OY.out.set1 _, by simpa using OW2.out.set (Nat.lt_succ_self g0) 1, by simp; exact HAC.out, ?_, by simp; exact Nat.le_trans HSW.out HB2.out.size, (HW.out.trans (HB2.out.mono (Nat.le_succ _))).setCell (p := ⟨g0, 1, none⟩) (Nat.le_refl _) _⟩
                rw [← HEC.out, HST.out, if_neg (by rw [H5.out]; simp), if_neg (by rw [H6.out]; simp)]
              case measure => simp [intOf]; omega
            · have h6' : (n3 != 0) = true := by simpa using h6
              have H6 := Lib.hid h6
              clear h6
              go_wp2_with fail
              have hs := (HRR.out.set 0 (.slice none 0 0)).1
              have hbs := belb_set2 (b := w.heap.size) HBW.out (Nat.le_refl _) 0 (.slice none 0 0)
              generalize ((wr.setCell ⟨w.heap.size, 0, none⟩ (.int .i64 0)).setCell ⟨w.heap.size, 1, none⟩ (.slice none 0 0)) = W5 at *
              obtain ⟨s0_, s1_⟩ := hs
              exact bodyPost_ret (v := .tuple #[.agg #[.int .i64 0, .slice none 0 0], .int .i64 0, .int .i64 n3]) (by simp [results, Try.results22, go_sem, s0_, s1_]) rfl ⟨⟨_, _, _, rfl, by unfold bePF; simp only [HG.out, HMM.out]; rw [if_neg (by rw [H3.out]; simp), if_neg (by rw [H4.out]; simp), ← HEC.out, HST.out, if_neg (by rw [H5.out]; simp), if_pos H6.out]; exact ⟨rfl, rfl, rfl⟩⟩, hbs⟩
          · have h5' : (p3 != 0) = true := by simpa using h5
            have H5 := Lib.hid h5
            clear h5
            go_wp2_with fail
            have hs := (HRR.out.set 0 (.slice none 0 0)).1
            have hbs := belb_set2 (b := w.heap.size) HBW.out (Nat.le_refl _) 0 (.slice none 0 0)
            generalize ((wr.setCell ⟨w.heap.size, 0, none⟩ (.int .i64 0)).setCell ⟨w.heap.size, 1, none⟩ (.slice none 0 0)) = W5 at *
            obtain ⟨s0_, s1_⟩ := hs
            exact bodyPost_ret (v := .tuple #[.agg #[.int .i64 0, .slice none 0 0], .int .i64 0, .int .i64 p3]) (by simp [results, Try.results22, go_sem, s0_, s1_]) rfl ⟨⟨_, _, _, rfl, by unfold bePF; simp only [HG.out, HMM.out]; rw [if_neg (by rw [H3.out]; simp), if_neg (by rw [H4.out]; simp), ← HEC.out, HST.out, if_pos H5.out]; exact ⟨rfl, rfl, rfl⟩⟩, hbs⟩
        · have hkm : m1.toNat - k = 0 := by omega
          have HDN : Hid (ecP xs m1.toNat m2 [] = .inr (acc, q)) := by show _ = _; rw [← HEC.out, hkm]; rfl
          have HAL2 : Hid (acc.length ≤ 3000) := by have := HAC.out; show _ ≤ _; omega
          clear hkm
          obtain ⟨qq, hq⟩ : ∃ qq : Bool, qq = true ↔ BeOk g1 acc := ⟨decide (BeOk g1 acc), decide_eq_true_iff⟩
          have HQ := Lib.hid hq
          clear hq
          go_wp2_with fail
          refine (rbright_fix g1 _ acc qq HQ.out _ (Es_of_own OW.out).1 HAL2.out).mono ?_
          rintro e w3 ⟨rfl, hb3⟩
          clear z0 z1 zf o0 o1 of
          have HB3 := Lib.hid (HBW.out.trans (hb3.mono HBW.out.size))
          have OO3 := Lib.hid (OO.out.below hb3)
          have OR3 := Lib.hid (HRR.out.below hb3)
          have OW3 : Hid (OwE w3 (g0 + 1) (.slice a3 acc.length c3) acc) := gown_below OW.out hb3
          clear hb3
          obtain ⟨⟨z0, z1⟩, zf⟩ := OR3.out
          obtain ⟨⟨o0, o1⟩, of⟩ := OO3.out
          cases qq with
          | false =>
            have HN : Hid (¬ BeOk g1 acc) := fun h => by cases HQ.out.2 h
            go_wp2_with fail
            have hs := (OR3.out.set 0 (.slice none 0 0)).1
            have hbs := belb_set2 (b := w.heap.size) HB3.out (Nat.le_refl _) 0 (.slice none 0 0)
            generalize ((w3.setCell ⟨w.heap.size, 0, none⟩ (.int .i64 0)).setCell ⟨w.heap.size, 1, none⟩ (.slice none 0 0)) = W5 at *
            obtain ⟨s0_, s1_⟩ := hs
            exact bodyPost_ret (v := .tuple #[.agg #[.int .i64 0, .slice none 0 0], .int .i64 0, .int .i64 4]) (by simp [results, Try.results22, go_sem, s0_, s1_]) rfl ⟨⟨_, _, _, rfl, by unfold bePF; simp only [HG.out, HMM.out]; rw [if_neg (by rw [H3.out]; simp), if_neg (by rw [H4.out]; simp), HDN.out]; simp only; rw [if_neg HN.out]; exact ⟨rfl, rfl, rfl⟩⟩, hbs⟩
          | true =>
            have HP : Hid (BeOk g1 acc) := HQ.out.1 rfl
            go_wp2_with fail
            have hs := (OR3.out.set g1 (.slice a3 acc.length c3)).1
            have hbs := belb_set2 (b := w.heap.size) HB3.out (Nat.le_refl _) g1 (.slice a3 acc.length c3)
            have hos : OwE _ (g0 + 1) _ acc := eown_set2 (b := w.heap.size) OW3.out (Nat.lt_succ_of_lt HLT.out) g1 (.slice a3 acc.length c3)
            generalize ((w3.setCell ⟨w.heap.size, 0, none⟩ (.int .i64 g1)).setCell ⟨w.heap.size, 1, none⟩ (.slice a3 acc.length c3)) = W5 at *
            obtain ⟨s0_, s1_⟩ := hs
            exact bodyPost_ret (v := .tuple #[.agg #[.int .i64 g1, .slice a3 acc.length c3], .int .i64 q, .int .i64 0]) (by simp [results, Try.results22, go_sem, s0_, s1_]) rfl ⟨⟨_, _, _, rfl, by unfold bePF; simp only [HG.out, HMM.out]; rw [if_neg (by rw [H3.out]; simp), if_neg (by rw [H4.out]; simp), HDN.out]; simp only; rw [if_pos HP.out]; exact ⟨rfl, rfl, _, rfl, hos.mono (by have := HLT.out; omega)⟩⟩, hbs⟩
    · have h4' : (m3 != 0) = true := by simpa using h4
      have H4 := Lib.hid h4
      clear h4
      go_wp2_with fail
      have hs := (OR.out.set 0 (.slice none 0 0)).1
      have hbs := belb_set2 (b := w.heap.size) HB.out (Nat.le_refl _) 0 (.slice none 0 0)
      generalize ((W1.setCell ⟨w.heap.size, 0, none⟩ (.int .i64 0)).setCell ⟨w.heap.size, 1, none⟩ (.slice none 0 0)) = W5 at *
      obtain ⟨s0_, s1_⟩ := hs
      exact bodyPost_ret (v := .tuple #[.agg #[.int .i64 0, .slice none 0 0], .int .i64 0, .int .i64 m3]) (by simp [results, Try.results22, go_sem, s0_, s1_]) rfl ⟨⟨_, _, _, rfl, by unfold bePF; simp only [HG.out, HMM.out]; rw [if_neg (by rw [H3.out]; simp), if_pos H4.out]; exact ⟨rfl, rfl, rfl⟩⟩, hbs⟩
  · have h3' : (g3 != 0) = true := by simpa using h3
    have H3 := Lib.hid h3
    clear h3
    go_wp2_with fail
    have hs := (OR.out.set 0 (.slice none 0 0)).1
    have hbs := belb_set2 (b := w.heap.size) HB.out (Nat.le_refl _) 0 (.slice none 0 0)
    generalize ((W1.setCell ⟨w.heap.size, 0, none⟩ (.int .i64 0)).setCell ⟨w.heap.size, 1, none⟩ (.slice none 0 0)) = W5 at *
    obtain ⟨s0_, s1_⟩ := hs
    exact bodyPost_ret (v := .tuple #[.agg #[.int .i64 0, .slice none 0 0], .int .i64 0, .int .i64 g3]) (by simp [results, Try.results22, go_sem, s0_, s1_]) rfl ⟨⟨_, _, _, rfl, by unfold bePF; simp only [HG.out]; rw [if_pos H3.out]; exact ⟨rfl, rfl, rfl⟩⟩, hbs⟩
#print axioms rparse6_any
end Go.Proofs.Ytaflgabjpcfgpaa
