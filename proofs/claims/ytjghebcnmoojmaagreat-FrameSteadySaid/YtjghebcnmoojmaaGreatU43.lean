/- A part out of bytes: the program's part. No conditions. What the reader answers at its end, of a frame. No conditions. -/
import Derived.Test.YtjghebcnmoojmaaGreatU41
import Derived.Test.YtjghebcnmoojmaaGreatU42
namespace Go.Proofs.YtjghebcnmoojmaaGreat
set_option maxRecDepth 100000
open Go.RowKit

set_option maxHeartbeats 16000000 in
theorem gpart_any (v : Value) (xs : List Int) (q : Int) (w : World) (hv : Bs w v xs) : Calls Tryz.prog 33 #[v, .int .i64 q] w (RetN w (rdOne xs q)) := by
 obtain ⟨a, l, c, rfl⟩ := Bs_form hv
 obtain ⟨rfl, -⟩ := Bs_len2 hv
 obtain ⟨N1, s1, e1, h1⟩ : ∃ x y z, numS xs 1 (q, 0) = (x, y, z) := ⟨_, _, _, rfl⟩
 obtain ⟨N2, s2, e2, h2⟩ : ∃ x y z, numS xs 2 (s1, e1) = (x, y, z) := ⟨_, _, _, rfl⟩
 have hx := hv.1
 obtain ⟨o, ho⟩ : ∃ o, rdOne xs q = o := ⟨_, rfl⟩
 have HO : Hid ((if e2 = 0 then (rdAtS xs s2 N1 N2).map fun p => (p, s2 + N2) else none) = o) := by
  show _ = _
  rw [← ho]
  unfold rdOne
  simp only [h1, h2]
 rw [ho]
 have HF : Hid (e2 = 0 → (0 ≤ s2 ∧ s2 ≤ xs.length) ∧ (0 ≤ N2 ∧ N2 ≤ 65535) ∧ 1 ≤ xs.length) := fun h0 => by
  have a2 := num_get (n := 2) (by decide) (by decide) h2 h0
  have a1 := num_get (n := 1) (by decide) (by decide) h1 a2.1
  have b1 := getD_pos hx s1.toNat
  have b2 := getD_pos hx (s1.toNat + 1)
  have b3 := seg_two8 (xs := xs) (k := s1.toNat) (by omega)
  refine ⟨by omega, ?_, by omega⟩
  rw [a2.2.2.2.2, b3]; omega
 have c1 : ∀ V, Rd V (w.heap.size + 1) q 0 → Bs V (.slice a xs.length c) xs → Calls Tryz.prog 31 #[.pointer (some ⟨(w.heap.size + 1), 0, none⟩), .slice a xs.length c, .int .i64 1] V fun e w' => e = .returned (.int .i64 N1) ∧ Rd w' (w.heap.size + 1) s1 e1 ∧ Onl (w.heap.size + 1) V w' := fun V h hv => by
  have h := number_any (w.heap.size + 1) (.slice a xs.length c) xs 1 q 0 V h hv
  rwa [h1] at h
 have c2 : ∀ V, Rd V (w.heap.size + 1) s1 e1 → Bs V (.slice a xs.length c) xs → Calls Tryz.prog 31 #[.pointer (some ⟨(w.heap.size + 1), 0, none⟩), .slice a xs.length c, .int .i64 2] V fun e w' => e = .returned (.int .i64 N2) ∧ Rd w' (w.heap.size + 1) s2 e2 ∧ Onl (w.heap.size + 1) V w' := fun V h hv => by
  have h := number_any (w.heap.size + 1) (.slice a xs.length c) xs 2 s1 e1 V h hv
  rwa [h2] at h
 have HV := Lib.hid hv
 clear h1 h2 hv ho hx
 go_enter Tryz.func33, Tryz.ntmps33
 go_wp2_with fail
 refine (new_any _ _).mono ?_
 rintro e _ ⟨rfl, rfl⟩
 go_wp2_with fail
 have OR := Lib.hid ((ownt_alloc w (⟨0, 0, none, 0, 0, 0, none, 0, 0, none, 0, 0, 0, 0, 0, 0, ⟨#[]⟩⟩ : RPt) 50 w.heap.size rfl).below ((Below.refl _ _).alloc (Nat.le_refl _) (.cells #[.int .i64 q, .int .i64 0] 89)))
 have R := Lib.hid (rd_alloc (w.alloc (.cells #[.int .i64 0, .int .i64 0, .slice none 0 0, .int .i64 0, .slice none 0 0, .slice none 0 0, .int .i64 0, .int .i64 0, .int .i64 0, .int .i64 0, .string ⟨#[]⟩] 50)) q (w.heap.size + 1) (by simp))
 have HB : Hid (Below w.heap.size w ((w.alloc (.cells #[.int .i64 0, .int .i64 0, .slice none 0 0, .int .i64 0, .slice none 0 0, .slice none 0 0, .int .i64 0, .int .i64 0, .int .i64 0, .int .i64 0, .string ⟨#[]⟩] 50)).alloc (.cells #[.int .i64 q, .int .i64 0] 89))) := ((Below.refl _ w).alloc (Nat.le_refl _) _).alloc (by simp) _
 generalize ((w.alloc (.cells #[.int .i64 0, .int .i64 0, .slice none 0 0, .int .i64 0, .slice none 0 0, .slice none 0 0, .int .i64 0, .int .i64 0, .int .i64 0, .int .i64 0, .string ⟨#[]⟩] 50)).alloc (.cells #[.int .i64 q, .int .i64 0] 89)) = V0 at *
 refine (c1 _ R.out (Bs_below HV.out HB.out)).mono ?_
 rintro e V1 ⟨rfl, hR, ho⟩
 replace OR := Lib.hid (OR.out.onl ho (by omega)); replace HB := Lib.hid (HB.out.trans (ho.below (by omega) HB.out.size)); replace R := Lib.hid hR; clear ho hR
 have HG : Hid ((w.heap.size + 1) < V1.heap.size) := World.block_lt_of_cell? V1 _ R.out.1
 go_wp2_with fail
 have hb : Below V1.heap.size V1 (V1.alloc (.cells #[.int .i64 N1] 3)) := (Below.refl _ V1).alloc (Nat.le_refl _) _
 have K1 : Hid ((V1.alloc (.cells #[.int .i64 N1] 3)).cell? ⟨V1.heap.size, 0, none⟩ = some (.int .i64 N1)) := by show _ = _; simp
 have HL1 : Hid (V1.heap.size < (V1.alloc (.cells #[.int .i64 N1] 3)).heap.size) := by show _ < _; simp
 replace OR := Lib.hid (OR.out.below hb); replace HB := Lib.hid (HB.out.trans (hb.mono HB.out.size)); replace R := Lib.hid (R.out.below hb); clear hb
 generalize V1.alloc (.cells #[.int .i64 N1] 3) = V2 at *
 obtain ⟨X1, hX1⟩ : ∃ X, V1.heap.size = X := ⟨_, rfl⟩
 rw [hX1] at HG K1 HL1
 simp only [hX1]
 clear hX1
 refine (c2 _ R.out (Bs_below HV.out HB.out)).mono ?_
 rintro e V3 ⟨rfl, hR, ho⟩
 have K13 : Hid (V3.cell? ⟨X1, 0, none⟩ = some (.int .i64 N1)) := by show _ = _; rw [ho.cell (p := ⟨X1, 0, none⟩) (by have := HG.out; simp only; omega) HL1.out]; exact K1.out
 replace HL1 : Hid (X1 < V3.heap.size) := Nat.lt_of_lt_of_le HL1.out ho.size
 replace OR := Lib.hid (OR.out.onl ho (by omega)); replace HB := Lib.hid (HB.out.trans (ho.below (by omega) HB.out.size)); replace R := Lib.hid hR; clear ho hR K1
 go_wp2_with fail
 have hb : Below V3.heap.size V3 (V3.alloc (.cells #[.int .i64 N2] 3)) := (Below.refl _ V3).alloc (Nat.le_refl _) _
 have K2 : Hid ((V3.alloc (.cells #[.int .i64 N2] 3)).cell? ⟨V3.heap.size, 0, none⟩ = some (.int .i64 N2)) := by show _ = _; simp
 have K1 : Hid ((V3.alloc (.cells #[.int .i64 N2] 3)).cell? ⟨X1, 0, none⟩ = some (.int .i64 N1)) := by show _ = _; rw [hb.cell (p := ⟨X1, 0, none⟩) HL1.out]; exact K13.out
 have HG4 : Hid ((w.heap.size + 1) < (V3.alloc (.cells #[.int .i64 N2] 3)).heap.size) := Nat.lt_of_lt_of_le (World.block_lt_of_cell? V3 _ R.out.1) hb.size
 replace OR := Lib.hid (OR.out.below hb); replace HB := Lib.hid (HB.out.trans (hb.mono HB.out.size)); replace R := Lib.hid (R.out.below hb); clear hb K13
 generalize V3.alloc (.cells #[.int .i64 N2] 3) = V4 at *
 obtain ⟨X2, hX2⟩ : ∃ X, V3.heap.size = X := ⟨_, rfl⟩
 rw [hX2] at K2
 simp only [hX2]
 clear hX2 HL1
 have HV4 := Lib.hid (Bs_below HV.out HB.out)
 have cX := gnext_cl (w.heap.size + 1) (.slice a xs.length c) xs s2 e2 X1 X2 ((rdAtS xs s2 N1 N2).map fun p => (p, s2 + N2)) V4 R.out HV4.out (fun h0 V hb => gcl_any (.slice a xs.length c) xs s2 N1 N2 X1 X2 V (by rw [hb.cell (p := ⟨X1, 0, none⟩) (World.block_lt_of_cell? V4 _ K1.out)]; exact K1.out) (by rw [hb.cell (p := ⟨X2, 0, none⟩) (World.block_lt_of_cell? V4 _ K2.out)]; exact K2.out) (Bs_below HV4.out hb) (HF.out h0).1 (HF.out h0).2.1 (HF.out h0).2.2)
 rw [HO.out] at cX
 refine cX.mono ?_
 rintro e V5 ⟨r, T, K, rfl, how, hst, hR, ho⟩
 replace OR := Lib.hid (OR.out.onl ho (by omega)); replace HB := Lib.hid (HB.out.trans (ho.below (by omega) HB.out.size)); replace R := Lib.hid hR
 have HW := Lib.hid how
 have HST := Lib.hid hst
 clear ho hR how hst cX c1 c2 K1 K2 HV4 HV HO HF
 have hb : Below V5.heap.size V5 (V5.alloc (.cells #[.int .i64 r.k, .int .i64 r.be, .slice r.a1 r.l1 r.c1, .int .i64 r.bn, .slice r.a2 r.l2 r.c2, .slice r.a3 r.l3 r.c3, .int .i64 r.s, .int .i64 r.d, .int .i64 r.t, .int .i64 r.n, .string r.x] 50)) := (Below.refl _ V5).alloc (Nat.le_refl _) _
 have OV := Lib.hid (ownt_alloc V5 r 50 V5.heap.size rfl)
 replace OR := Lib.hid (OR.out.below hb); replace HB := Lib.hid (HB.out.trans (hb.mono HB.out.size)); replace R := Lib.hid (R.out.below hb); replace HW := Lib.hid (HW.out.below hb); clear hb
 by_cases hK : K = 0
 ·subst hK
  have HP : Hid (∃ x, o = some x ∧ T = x.2) := by
   have h9 := HST.out
   unfold StOk at h9
   cases o with
   | none => exact absurd rfl h9
   | some x => exact ⟨x, rfl, h9.1⟩
  have cD := Lib.hid (gpdone_ok (w.heap.size + 1) r T _ R.out)
  go_wp2_with fail
  refine cD.out.mono ?_
  rintro e V7 ⟨rfl, ho⟩
  have OR7 := Lib.hid (OR.out.onl ho (by omega))
  have HB7 := Lib.hid (HB.out.trans (ho.below (by omega) HB.out.size))
  have HW7 := Lib.hid (HW.out.onl ho HG4.out)
  clear ho cD
  obtain ⟨⟨u0, u1, u2, u3, u4, u5, u6, u7, u8, u9, u10⟩, uf⟩ := OR7.out
  go_wp2_with fail
  have hs := (OR7.out.setall r).1
  have hbs := bel_set11 (b := w.heap.size) HB7.out (Nat.le_refl _) r
  have hho := ow_set11 HW7.out (b := w.heap.size) (by have := HG4.out; omega) r
  generalize (((((((((((V7.setCell ⟨w.heap.size, 0, none⟩ (.int .i64 r.k)).setCell ⟨w.heap.size, 1, none⟩ (.int .i64 r.be)).setCell ⟨w.heap.size, 2, none⟩ (.slice r.a1 r.l1 r.c1)).setCell ⟨w.heap.size, 3, none⟩ (.int .i64 r.bn)).setCell ⟨w.heap.size, 4, none⟩ (.slice r.a2 r.l2 r.c2)).setCell ⟨w.heap.size, 5, none⟩ (.slice r.a3 r.l3 r.c3)).setCell ⟨w.heap.size, 6, none⟩ (.int .i64 r.s)).setCell ⟨w.heap.size, 7, none⟩ (.int .i64 r.d)).setCell ⟨w.heap.size, 8, none⟩ (.int .i64 r.t)).setCell ⟨w.heap.size, 9, none⟩ (.int .i64 r.n)).setCell ⟨w.heap.size, 10, none⟩ (.string r.x)) = W5 at *
  obtain ⟨s0_, s1_, s2_, s3_, s4_, s5_, s6_, s7_, s8_, s9_, s10_⟩ := hs
  exact bodyPost_ret (v := .tuple #[.agg #[.int .i64 r.k, .int .i64 r.be, .slice r.a1 r.l1 r.c1, .int .i64 r.bn, .slice r.a2 r.l2 r.c2, .slice r.a3 r.l3 r.c3, .int .i64 r.s, .int .i64 r.d, .int .i64 r.t, .int .i64 r.n, .string r.x], .int .i64 T, .int .i64 0]) (by simp [results, Tryz.results33, go_sem, s0_, s1_, s2_, s3_, s4_, s5_, s6_, s7_, s8_, s9_, s10_]) rfl ⟨⟨r, T, 0, rfl, hho.mono (by have := HG4.out; omega), HST.out⟩, hbs⟩
 ·have HP : Hid (o = none) := by
   have h9 := HST.out
   unfold StOk at h9
   cases o with
   | none => rfl
   | some x => exact absurd h9.2 hK
  have HKK := Lib.hid hK
  have cD := Lib.hid (gpdone_err (w.heap.size + 1) r T K _ R.out hK)
  clear hK
  go_wp2_with fail
  refine cD.out.mono ?_
  rintro e V7 ⟨rfl, ho⟩
  have OR7 := Lib.hid (OR.out.onl ho (by omega))
  have HB7 := Lib.hid (HB.out.trans (ho.below (by omega) HB.out.size))
  clear ho cD
  obtain ⟨⟨u0, u1, u2, u3, u4, u5, u6, u7, u8, u9, u10⟩, uf⟩ := OR7.out
  go_wp2_with fail
  have hs := (OR7.out.setall (⟨0, 0, none, 0, 0, 0, none, 0, 0, none, 0, 0, 0, 0, 0, 0, ⟨#[]⟩⟩ : RPt)).1
  have hbs := bel_set11 (b := w.heap.size) HB7.out (Nat.le_refl _) (⟨0, 0, none, 0, 0, 0, none, 0, 0, none, 0, 0, 0, 0, 0, 0, ⟨#[]⟩⟩ : RPt)
  simp only at hs hbs
  generalize (((((((((((V7.setCell ⟨w.heap.size, 0, none⟩ (.int .i64 0)).setCell ⟨w.heap.size, 1, none⟩ (.int .i64 0)).setCell ⟨w.heap.size, 2, none⟩ (.slice none 0 0)).setCell ⟨w.heap.size, 3, none⟩ (.int .i64 0)).setCell ⟨w.heap.size, 4, none⟩ (.slice none 0 0)).setCell ⟨w.heap.size, 5, none⟩ (.slice none 0 0)).setCell ⟨w.heap.size, 6, none⟩ (.int .i64 0)).setCell ⟨w.heap.size, 7, none⟩ (.int .i64 0)).setCell ⟨w.heap.size, 8, none⟩ (.int .i64 0)).setCell ⟨w.heap.size, 9, none⟩ (.int .i64 0)).setCell ⟨w.heap.size, 10, none⟩ (.string ⟨#[]⟩)) = W5 at *
  obtain ⟨s0_, s1_, s2_, s3_, s4_, s5_, s6_, s7_, s8_, s9_, s10_⟩ := hs
  exact bodyPost_ret (v := .tuple #[.agg #[.int .i64 0, .int .i64 0, .slice none 0 0, .int .i64 0, .slice none 0 0, .slice none 0 0, .int .i64 0, .int .i64 0, .int .i64 0, .int .i64 0, .string ⟨#[]⟩], .int .i64 0, .int .i64 K]) (by simp [results, Tryz.results33, go_sem, s0_, s1_, s2_, s3_, s4_, s5_, s6_, s7_, s8_, s9_, s10_]) rfl ⟨⟨(⟨0, 0, none, 0, 0, 0, none, 0, 0, none, 0, 0, 0, 0, 0, 0, ⟨#[]⟩⟩ : RPt), 0, K, rfl, by rw [HP.out]; exact zR_ow _ _, by rw [HP.out]; exact HKK.out⟩, hbs⟩
end Go.Proofs.YtjghebcnmoojmaaGreat

namespace Go.Proofs.YtjghebcnmoojmaaGreat
set_option maxRecDepth 100000
open Go.RowKit

theorem OwnF.onl {w w' : World} {b g : Nat} {fr ep to pe : Int} {v : Value} (h : OwnF w g fr ep to pe v) (ho : Onl b w w') (hg : g ≠ b) : OwnF w' g fr ep to pe v := by
 have hl := h.lt
 obtain ⟨⟨h0, h1, h2, h3, h4⟩, hf⟩ := h
 have f : ∀ {j : Nat} {v : Value}, w.cell? ⟨g, j, none⟩ = some v → w'.cell? ⟨g, j, none⟩ = some v := fun {j v} h => (ho.cell (p := ⟨g, j, none⟩) hg hl).trans h
 exact ⟨⟨f h0, f h1, f h2, f h3, f h4⟩, fun j => (ho.frozen (p := ⟨g, j, none⟩) hg hl).trans (hf j)⟩
set_option maxHeartbeats 16000000 in
theorem gfdone_err (b : Nat) (fr ep to pe : Int) (a : Option Addr) (l c : Nat) (ok : Bool) (at' e0 e1 : Int) (w : World) (h : Rd w b at' e0) (hn : needE e0 ok = e1) (he : e1 ≠ 0) :
  Calls Tryz.prog 34 #[.pointer (some ⟨b, 0, none⟩), .agg #[.int .i64 fr, .int .i64 ep, .int .i64 to, .int .i64 pe, .slice a l c], .bool ok] w fun e w' => e = .returned (.tuple #[.agg #[.int .i64 0, .int .i64 0, .int .i64 0, .int .i64 0, .slice none 0 0], .int .i64 0, .int .i64 e1]) ∧ Onl b w w' := by
 have hne : (e1 == 0) = false := by simpa using he
 have hlt := World.block_lt_of_cell? w _ h.1
 have hb0 : Below w.heap.size w ((w.alloc (.cells #[.int .i64 fr, .int .i64 ep, .int .i64 to, .int .i64 pe, .slice a l c] 24)).alloc (.cells #[.int .i64 0, .int .i64 0, .int .i64 0, .int .i64 0, .slice none 0 0] 24)) := ((Below.refl _ w).alloc (Nat.le_refl _) _).alloc (by simp) _
 have cN := need_any b ok at' e0 ((w.alloc (.cells #[.int .i64 fr, .int .i64 ep, .int .i64 to, .int .i64 pe, .slice a l c] 24)).alloc (.cells #[.int .i64 0, .int .i64 0, .int .i64 0, .int .i64 0, .slice none 0 0] 24)) (h.below hb0)
 rw [hn] at cN
 have OB := Lib.hid (ownf_alloc (w.alloc (.cells #[.int .i64 fr, .int .i64 ep, .int .i64 to, .int .i64 pe, .slice a l c] 24)) 0 0 0 0 (.slice none 0 0) 24 (w.heap.size + 1) (by simp))
 have HB := Lib.hid (Onl.of_below b hb0)
 have HL : Hid (b < w.heap.size) := hlt
 clear h hn he hlt hb0
 go_enter Tryz.func34, Tryz.ntmps34
 go_wp2_with (go_at_call 57; refine cN.mono ?_; rintro e w1 ⟨rfl, hR, hO⟩; replace OB := Lib.hid (OB.out.onl hO (by have := HL.out; omega)); replace HB := Lib.hid (HB.out.trans hO); have R := Lib.hid hR; clear hO hR; obtain ⟨z0, z1, zf⟩ := R.out)
 have OB2 := Lib.hid (OB.out.below ((Below.refl _ _).alloc (Nat.le_refl _) (.cells #[.int .i64 0, .int .i64 0, .int .i64 0, .int .i64 0, .slice none 0 0] 24)))
 have OZ := Lib.hid (ownf_alloc w1 0 0 0 0 (.slice none 0 0) 24 w1.heap.size rfl)
 have R2 := Lib.hid (R.out.alloc (.cells #[.int .i64 0, .int .i64 0, .int .i64 0, .int .i64 0, .slice none 0 0] 24))
 have HB2 := Lib.hid (HB.out.alloc (.cells #[.int .i64 0, .int .i64 0, .int .i64 0, .int .i64 0, .slice none 0 0] 24))
 have hne2 : Hid (w.heap.size + 1 < w1.heap.size) := OB.out.lt
 clear z0 z1 zf R OB HB
 generalize w1.alloc (.cells #[.int .i64 0, .int .i64 0, .int .i64 0, .int .i64 0, .slice none 0 0] 24) = V at *
 obtain ⟨z0, z1, zf⟩ := R2.out
 obtain ⟨⟨q0, q1, q2, q3, q4⟩, qf⟩ := OZ.out
 obtain ⟨⟨u0, u1, u2, u3, u4⟩, uf⟩ := OB2.out
 have hd1 : b ≠ w.heap.size + 1 := by have := HL.out; omega
 have hd2 : w.heap.size + 1 ≠ b := by have := HL.out; omega
 go_region
 go_wp2_with fail
 have hs := (OB2.out.set 0 0 0 0 (.slice none 0 0)).1
 have hbs := bel_setf (B := w.heap.size) (Below.refl _ V) (b := w.heap.size + 1) (by omega) 0 0 0 0 (.slice none 0 0)
 generalize (((((V.setCell ⟨(w.heap.size + 1), 0, none⟩ (.int .i64 0)).setCell ⟨(w.heap.size + 1), 1, none⟩ (.int .i64 0)).setCell ⟨(w.heap.size + 1), 2, none⟩ (.int .i64 0)).setCell ⟨(w.heap.size + 1), 3, none⟩ (.int .i64 0)).setCell ⟨(w.heap.size + 1), 4, none⟩ (.slice none 0 0)) = W5 at *
 obtain ⟨s0_, s1_, s2_, s3_, s4_⟩ := hs
 exact bodyPost_ret (v := .tuple #[.agg #[.int .i64 0, .int .i64 0, .int .i64 0, .int .i64 0, .slice none 0 0], .int .i64 0, .int .i64 e1]) (by simp [results, Tryz.results34, go_sem, s0_, s1_, s2_, s3_, s4_]) rfl ⟨rfl, HB2.out.then hbs.drew (Nat.le_refl _)⟩
set_option maxHeartbeats 16000000 in
theorem gfdone_ok (b : Nat) (fr ep to pe : Int) (a : Option Addr) (l c : Nat) (at' : Int) (w : World) (h : Rd w b at' 0) :
  Calls Tryz.prog 34 #[.pointer (some ⟨b, 0, none⟩), .agg #[.int .i64 fr, .int .i64 ep, .int .i64 to, .int .i64 pe, .slice a l c], .bool true] w fun e w' => e = .returned (.tuple #[.agg #[.int .i64 fr, .int .i64 ep, .int .i64 to, .int .i64 pe, .slice a l c], .int .i64 at', .int .i64 0]) ∧ Onl b w w' := by
 have hlt := World.block_lt_of_cell? w _ h.1
 have hb0 : Below w.heap.size w ((w.alloc (.cells #[.int .i64 fr, .int .i64 ep, .int .i64 to, .int .i64 pe, .slice a l c] 24)).alloc (.cells #[.int .i64 0, .int .i64 0, .int .i64 0, .int .i64 0, .slice none 0 0] 24)) := ((Below.refl _ w).alloc (Nat.le_refl _) _).alloc (by simp) _
 have cN := need_any b true at' 0 ((w.alloc (.cells #[.int .i64 fr, .int .i64 ep, .int .i64 to, .int .i64 pe, .slice a l c] 24)).alloc (.cells #[.int .i64 0, .int .i64 0, .int .i64 0, .int .i64 0, .slice none 0 0] 24)) (h.below hb0)
 rw [show needE 0 true = 0 from rfl] at cN
 have OA := Lib.hid ((ownf_alloc w fr ep to pe (.slice a l c) 24 w.heap.size rfl).below ((Below.refl _ _).alloc (Nat.le_refl _) (.cells #[.int .i64 0, .int .i64 0, .int .i64 0, .int .i64 0, .slice none 0 0] 24)))
 have OB := Lib.hid (ownf_alloc (w.alloc (.cells #[.int .i64 fr, .int .i64 ep, .int .i64 to, .int .i64 pe, .slice a l c] 24)) 0 0 0 0 (.slice none 0 0) 24 (w.heap.size + 1) (by simp))
 have HB := Lib.hid (Onl.of_below b hb0)
 have HL : Hid (b < w.heap.size) := hlt
 clear h hlt hb0
 go_enter Tryz.func34, Tryz.ntmps34
 go_wp2_with (go_at_call 57; refine cN.mono ?_; rintro e w1 ⟨rfl, hR, hO⟩; replace OB := Lib.hid (OB.out.onl hO (by have := HL.out; omega)); replace OA := Lib.hid (OA.out.onl hO (by have := HL.out; omega)); replace HB := Lib.hid (HB.out.trans hO); have R := Lib.hid hR; clear hO hR; obtain ⟨z0, z1, zf⟩ := R.out)
 obtain ⟨⟨q0, q1, q2, q3, q4⟩, qf⟩ := OA.out
 obtain ⟨⟨u0, u1, u2, u3, u4⟩, uf⟩ := OB.out
 have hd1 : b ≠ w.heap.size + 1 := by have := HL.out; omega
 have hd2 : w.heap.size + 1 ≠ b := by have := HL.out; omega
 go_region
 go_wp2_with fail
 have hs := (OB.out.set fr ep to pe (.slice a l c)).1
 have hbs := bel_setf (B := w.heap.size) (Below.refl _ w1) (b := w.heap.size + 1) (by omega) fr ep to pe (.slice a l c)
 generalize (((((w1.setCell ⟨(w.heap.size + 1), 0, none⟩ (.int .i64 fr)).setCell ⟨(w.heap.size + 1), 1, none⟩ (.int .i64 ep)).setCell ⟨(w.heap.size + 1), 2, none⟩ (.int .i64 to)).setCell ⟨(w.heap.size + 1), 3, none⟩ (.int .i64 pe)).setCell ⟨(w.heap.size + 1), 4, none⟩ (.slice a l c)) = W5 at *
 obtain ⟨s0_, s1_, s2_, s3_, s4_⟩ := hs
 exact bodyPost_ret (v := .tuple #[.agg #[.int .i64 fr, .int .i64 ep, .int .i64 to, .int .i64 pe, .slice a l c], .int .i64 at', .int .i64 0]) (by simp [results, Tryz.results34, go_sem, s0_, s1_, s2_, s3_, s4_]) rfl ⟨rfl, HB.out.then hbs.drew (Nat.le_refl _)⟩
theorem step_papp {ops : Array Oper} {o : Oper} {a : Act} {W : World} {K : Act → World → Prop} {Q : Exit → Act → World → Prop} {E : Prop} (hgd : o.guard = none) (s x : Operand)
  (ho : o.op = .call { callee := .builtin .append, args := #[s, x], argTypes := #[22, 22] }) (w : World) (r : RPt) (p : Pt) (hW : W = w.alloc (.cells r.cl.toArray 50)) (S : Nat) (v : Value) (ps : List Pt) (hr : r.Ow w S p)
  (hs : a.eval s = v) (hx : a.eval x = .slice (some ⟨w.heap.size, 0, none⟩) 1 1) (hown : PsOw w S v ps) (hl : ps.length ≤ 3000) (hS : S ≤ w.heap.size)
  (hK : ∀ g cap w', PsOw w' S (.slice (some ⟨g, 0, none⟩) (ps.length + 1) cap) (ps ++ [p]) → Below S w w' → K (a.put o.dst (.slice (some ⟨g, 0, none⟩) (ps.length + 1) cap)) w') :
  if Region.wanted o (yielded ops a.tmps) = true then Oper.wp Tryz.prog o a W K Q else E := by
 have hw : Region.wanted o (yielded ops a.tmps) = true := by simp [Region.wanted, hgd]
 rw [if_pos hw]
 subst hW
 obtain ⟨rs, h1, h2, h3⟩ := hown
 have hb : Below S w (w.alloc (.cells (RP.cl r).toArray 50)) := (Below.refl S w).alloc hS _
 have hb0 : Below w.heap.size w (w.alloc (.cells (RP.cl r).toArray 50)) := (Below.refl _ w).alloc (Nat.le_refl _) _
 have hown' : (w.alloc (.cells (RP.cl r).toArray 50)).ownsRow S RP.T RP.K v rs.length (gflat RP rs) := gown_below h2 hb0
 obtain ⟨g, cap, w', hrun, h4, h5, _⟩ := run_gapp (R := RP) (w.alloc (.cells (RP.cl r).toArray 50)) o.type S v rs hown' w.heap.size r (gc_alloc RP w r _ rfl 50) (Nat.le_trans (Nat.le_of_eq h1) hl) (by simp; omega)
 unfold Oper.wp
 have he := gexec_append (w := w.alloc (.cells (RP.cl r).toArray 50)) ho hs hx hrun
 rw [show (RPt.cl r) = RP.cl r from rfl, he]
 have h1' : List.length (α := RP.α) rs = ps.length := h1
 have hve : Value.slice (some ⟨g, 0, none⟩) (List.length (α := RP.α) rs + 1) cap = .slice (some ⟨g, 0, none⟩) (ps.length + 1) cap := by rw [h1']
 rw [hve] at h4 ⊢
 refine hK g cap w' ⟨rs ++ [r], by simp [h1], h4, fun i hi => ?_⟩ (hb.grown h5 (by simp; omega) (fun k hk => (hown'.lt k hk).1))
 by_cases hi2 : i < ps.length
 ·rw [show (rs ++ [r]).getD i zR = rs.getD i zR by simp [List.getD, List.getElem?_append, h1, hi2], show (ps ++ [p]).getD i zPt = ps.getD i zPt by simp [List.getD, List.getElem?_append, hi2]]
  exact ((h3 i hi2).below hb0).kept hown' h5
 ·have hi3 : i = ps.length := by simp at hi; omega
  subst hi3
  rw [show (rs ++ [r]).getD ps.length zR = r by simp [List.getD, h1], show (ps ++ [p]).getD ps.length zPt = p by simp [List.getD]]
  exact (hr.below hb0).kept hown' h5
theorem PsOw.onl {w w' : World} {b S : Nat} {v : Value} {ps : List Pt} (h : PsOw w S v ps) (ho : Onl b w w') (hb : b < S) : PsOw w' S v ps := by
 obtain ⟨rs, h1, h2, h3⟩ := h
 exact ⟨rs, h1, own_onl h2 ho hb, fun i hi => (h3 i hi).onl ho hb⟩
theorem ptfew_z : PtFew zPt := ⟨by decide, by decide, by decide, by decide⟩
theorem ptfew_ok {p : Pt} (h : p.Ok) : PtFew p := by
 unfold PtFew
 rcases h with ⟨_, h, h2, h3, h4⟩ | ⟨_, h1, h, h3, h4⟩ | ⟨_, h1, h2, h, h4⟩ | ⟨_, h1, h2, h3, h⟩
 ·have := h.len; have := h2.2; have := h3; unfold Pt.noAk at h3; have hx := h4.2.2.2.2
  refine ⟨by omega, by omega, by omega, by rw [hx]; decide⟩
 ·have := h.2.1; have := h1.2; unfold Pt.noAk at h3; have hx := h4.2.2.2.2
  refine ⟨by omega, by omega, by omega, by rw [hx]; decide⟩
 ·have := h.2; have := h1.2; have := h2.2; have hx := h4.2.2.2.2
  refine ⟨by omega, by omega, by omega, by rw [hx]; decide⟩
 ·have := h.2.2.2.2; have := h1.2; have := h2.2; unfold Pt.noAk at h3
  refine ⟨by omega, by omega, by omega, by omega⟩
end Go.Proofs.YtjghebcnmoojmaaGreat
