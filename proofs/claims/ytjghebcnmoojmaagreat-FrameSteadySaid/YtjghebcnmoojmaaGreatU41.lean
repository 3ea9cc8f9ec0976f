/- A part out of bytes: the program's part, over package reader. -/
import Derived.Test.YtjghebcnmoojmaaGreatU40
namespace Go.Proofs.YtjghebcnmoojmaaGreat
set_option maxRecDepth 100000
open Go.RowKit

def pOf : Option (Pt × Int) → Pt
 | none => zPt
 | some x => x.1
def StOk (o : Option (Pt × Int)) (T K : Int) : Prop := match o with
 | none => K ≠ 0
 | some x => T = x.2 ∧ K = 0
theorem zR_ow (w : World) (S : Nat) : (⟨0, 0, none, 0, 0, 0, none, 0, 0, none, 0, 0, 0, 0, 0, 0, ⟨#[]⟩⟩ : RPt).Ow w S zPt := ⟨rfl, rfl, gown_nil (R := RE) _ _, rfl, gown_nil (R := RO) _ _, gown_nil (R := RA) _ _, rfl, rfl, rfl, rfl, rfl⟩
theorem RPt.Ow.onl {w w' : World} {b S : Nat} {r : RPt} {p : Pt} (h : r.Ow w S p) (ho : Onl b w w') (hb : b < S) : r.Ow w' S p :=
 ⟨h.k, h.be, own_onl h.es ho hb, h.bn, own_onl h.os ho hb, own_onl h.ks ho hb, h.s, h.d, h.t, h.n, h.x⟩
theorem OwnT.onl {w w' : World} {b g : Nat} {r : RPt} (h : OwnT w g r) (ho : Onl b w w') (hg : g ≠ b) : OwnT w' g r := by
 have hl := h.lt
 obtain ⟨⟨h0, h1, h2, h3, h4, h5, h6, h7, h8, h9, h10⟩, hf⟩ := h
 have f : ∀ {j : Nat} {v : Value}, w.cell? ⟨g, j, none⟩ = some v → w'.cell? ⟨g, j, none⟩ = some v := fun {j v} h => (ho.cell (p := ⟨g, j, none⟩) hg hl).trans h
 exact ⟨⟨f h0, f h1, f h2, f h3, f h4, f h5, f h6, f h7, f h8, f h9, f h10⟩, fun j => (ho.frozen (p := ⟨g, j, none⟩) hg hl).trans (hf j)⟩
def RetN (w : World) (o : Option (Pt × Int)) (e : Ending) (w' : World) : Prop := (∃ (r : RPt) (T K : Int), e = .returned (.tuple #[.agg #[.int .i64 r.k, .int .i64 r.be, .slice r.a1 r.l1 r.c1, .int .i64 r.bn, .slice r.a2 r.l2 r.c2, .slice r.a3 r.l3 r.c3, .int .i64 r.s, .int .i64 r.d, .int .i64 r.t, .int .i64 r.n, .string r.x], .int .i64 T, .int .i64 K]) ∧ r.Ow w' w.heap.size (pOf o) ∧ StOk o T K) ∧ Below w.heap.size w w'
theorem retn_of {w w' : World} {o : Option Pt} {to : Int} {e : Ending} (h : RetG w o to e w') : RetN w (o.map fun p => (p, to)) e w' := by
 obtain ⟨h1, h2⟩ := h
 match o, h1 with
 | none, h1 => exact ⟨⟨zR, 0, 4, h1, zR_ow _ _, (by decide : (4 : Int) ≠ 0)⟩, h2⟩
 | some p, ⟨r, h1, h3⟩ => exact ⟨⟨r, to, 0, h1, h3, rfl, rfl⟩, h2⟩
def RetX (w : World) (b : Nat) (o : Option (Pt × Int)) (e : Ending) (w' : World) : Prop := ∃ (r : RPt) (T K : Int), e = .returned (.agg #[.int .i64 r.k, .int .i64 r.be, .slice r.a1 r.l1 r.c1, .int .i64 r.bn, .slice r.a2 r.l2 r.c2, .slice r.a3 r.l3 r.c3, .int .i64 r.s, .int .i64 r.d, .int .i64 r.t, .int .i64 r.n, .string r.x]) ∧ r.Ow w' w.heap.size (pOf o) ∧ StOk o T K ∧ Rd w' b T K ∧ Onl b w w'
set_option maxHeartbeats 8000000 in
theorem gcl_any (v : Value) (xs : List Int) (q kd n : Int) (g1 g2 : Nat) (w : World) (c1 : w.cell? ⟨g1, 0, none⟩ = some (.int .i64 kd)) (c2 : w.cell? ⟨g2, 0, none⟩ = some (.int .i64 n)) (hv : Bs w v xs) (hq : 0 ≤ q ∧ q ≤ xs.length) (hn : 0 ≤ n ∧ n ≤ 65535) (h7 : 1 ≤ xs.length) :
  Calls Tryz.prog 54 #[v, .int .i64 q, .pointer (some ⟨g1, 0, none⟩), .pointer (some ⟨g2, 0, none⟩)] w (RetN w ((rdAtS xs q kd n).map fun p => (p, q + n))) := by
 obtain ⟨a, l, c, rfl⟩ := Bs_form hv
 have OR : Hid (OwnT (w.alloc (.cells #[.int .i64 0, .int .i64 0, .slice none 0 0, .int .i64 0, .slice none 0 0, .slice none 0 0, .int .i64 0, .int .i64 0, .int .i64 0, .int .i64 0, .string ⟨#[]⟩] 50)) w.heap.size (⟨0, 0, none, 0, 0, 0, none, 0, 0, none, 0, 0, 0, 0, 0, 0, ⟨#[]⟩⟩ : RPt)) := ownt_alloc w (⟨0, 0, none, 0, 0, 0, none, 0, 0, none, 0, 0, 0, 0, 0, 0, ⟨#[]⟩⟩ : RPt) 50 w.heap.size rfl
 have HB : Hid (Below w.heap.size w (w.alloc (.cells #[.int .i64 0, .int .i64 0, .slice none 0 0, .int .i64 0, .slice none 0 0, .slice none 0 0, .int .i64 0, .int .i64 0, .int .i64 0, .int .i64 0, .string ⟨#[]⟩] 50))) := (Below.refl _ w).alloc (Nat.le_refl _) _
 have cF := (gfilled_any (.slice a l c) xs q kd n (w.alloc (.cells #[.int .i64 0, .int .i64 0, .slice none 0 0, .int .i64 0, .slice none 0 0, .slice none 0 0, .int .i64 0, .int .i64 0, .int .i64 0, .int .i64 0, .string ⟨#[]⟩] 50)) (Bs_below hv HB.out) hq hn h7).mono fun e w' h => retn_of h
 have d1 : (w.alloc (.cells #[.int .i64 0, .int .i64 0, .slice none 0 0, .int .i64 0, .slice none 0 0, .slice none 0 0, .int .i64 0, .int .i64 0, .int .i64 0, .int .i64 0, .string ⟨#[]⟩] 50)).cell? ⟨g1, 0, none⟩ = some (.int .i64 kd) := by rw [HB.out.cell (p := ⟨g1, 0, none⟩) (World.block_lt_of_cell? w _ c1)]; exact c1
 have d2 : (w.alloc (.cells #[.int .i64 0, .int .i64 0, .slice none 0 0, .int .i64 0, .slice none 0 0, .slice none 0 0, .int .i64 0, .int .i64 0, .int .i64 0, .int .i64 0, .string ⟨#[]⟩] 50)).cell? ⟨g2, 0, none⟩ = some (.int .i64 n) := by rw [HB.out.cell (p := ⟨g2, 0, none⟩) (World.block_lt_of_cell? w _ c2)]; exact c2
 have HS0 : Hid ((w.alloc (.cells #[.int .i64 0, .int .i64 0, .slice none 0 0, .int .i64 0, .slice none 0 0, .slice none 0 0, .int .i64 0, .int .i64 0, .int .i64 0, .int .i64 0, .string ⟨#[]⟩] 50)).heap.size = w.heap.size + 1) := by show _ = _; simp
 obtain ⟨V0, hV0⟩ : ∃ V0, w.alloc (.cells #[.int .i64 0, .int .i64 0, .slice none 0 0, .int .i64 0, .slice none 0 0, .slice none 0 0, .int .i64 0, .int .i64 0, .int .i64 0, .int .i64 0, .string ⟨#[]⟩] 50) = V0 := ⟨_, rfl⟩
 rw [hV0] at OR HB cF d1 d2 HS0
 have HV0 := Lib.hid hV0
 generalize ((rdAtS xs q kd n).map fun p => (p, q + n)) = o at *
 clear hV0 c1 c2 hv hq hn h7
 go_enter Tryz.func54, Tryz.ntmps54
 go_upto_region 1 with (fail)
 rw [HV0.out]
 clear HV0
 go_wp2_with fail
 clear d1 d2
 refine cF.mono ?_
 rintro e V1 ⟨⟨r, T, K, rfl, ho, hs⟩, hb⟩
 have HB1 := Lib.hid (HB.out.trans (hb.mono HB.out.size))
 have OR1 := Lib.hid (OR.out.below hb)
 have HO1 := Lib.hid ho
 have HST := Lib.hid hs
 clear hb ho hs cF
 obtain ⟨⟨u0, u1, u2, u3, u4, u5, u6, u7, u8, u9, u10⟩, uf⟩ := OR1.out
 go_wp2_with fail
 have hs := (OR1.out.setall r).1
 have hbs := bel_set11 (b := w.heap.size) HB1.out (Nat.le_refl _) r
 have hho := ow_set11 HO1.out (b := w.heap.size) (by have := HS0.out; omega) r
 generalize (((((((((((V1.setCell ⟨w.heap.size, 0, none⟩ (.int .i64 r.k)).setCell ⟨w.heap.size, 1, none⟩ (.int .i64 r.be)).setCell ⟨w.heap.size, 2, none⟩ (.slice r.a1 r.l1 r.c1)).setCell ⟨w.heap.size, 3, none⟩ (.int .i64 r.bn)).setCell ⟨w.heap.size, 4, none⟩ (.slice r.a2 r.l2 r.c2)).setCell ⟨w.heap.size, 5, none⟩ (.slice r.a3 r.l3 r.c3)).setCell ⟨w.heap.size, 6, none⟩ (.int .i64 r.s)).setCell ⟨w.heap.size, 7, none⟩ (.int .i64 r.d)).setCell ⟨w.heap.size, 8, none⟩ (.int .i64 r.t)).setCell ⟨w.heap.size, 9, none⟩ (.int .i64 r.n)).setCell ⟨w.heap.size, 10, none⟩ (.string r.x)) = W5 at *
 obtain ⟨s0_, s1_, s2_, s3_, s4_, s5_, s6_, s7_, s8_, s9_, s10_⟩ := hs
 exact bodyPost_ret (v := .tuple #[.agg #[.int .i64 r.k, .int .i64 r.be, .slice r.a1 r.l1 r.c1, .int .i64 r.bn, .slice r.a2 r.l2 r.c2, .slice r.a3 r.l3 r.c3, .int .i64 r.s, .int .i64 r.d, .int .i64 r.t, .int .i64 r.n, .string r.x], .int .i64 T, .int .i64 K]) (by simp [results, Tryz.results54, go_sem, s0_, s1_, s2_, s3_, s4_, s5_, s6_, s7_, s8_, s9_, s10_]) rfl ⟨⟨r, T, K, rfl, hho.mono (by have := HS0.out; omega), HST.out⟩, hbs⟩
set_option maxHeartbeats 16000000 in
theorem gnext_cl (b : Nat) (v : Value) (xs : List Int) (k e0 : Int) (g1 g2 : Nat) (oo : Option (Pt × Int)) (w : World) (h : Rd w b k e0) (hv : Bs w v xs) (cP : e0 = 0 → ∀ V, Below w.heap.size w V → Calls Tryz.prog 54 #[v, .int .i64 k, .pointer (some ⟨g1, 0, none⟩), .pointer (some ⟨g2, 0, none⟩)] V (RetN V oo)) :
  Calls Tryz.prog 32 #[.pointer (some ⟨b, 0, none⟩), v, .func (Fn.func 54) #[] #[.pointer (some ⟨g1, 0, none⟩), .pointer (some ⟨g2, 0, none⟩)]] w (RetX w b (if e0 = 0 then oo else none)) := by
 obtain ⟨oz, hoz⟩ : ∃ oz, (if e0 = 0 then oo else none) = oz := ⟨_, rfl⟩
 rw [hoz]
 have HOZ := Lib.hid hoz
 clear hoz
 have hlt : b < w.heap.size := World.block_lt_of_cell? w _ h.1
 have HL := Lib.hid hlt
 have hb0 : Below w.heap.size w ((w.alloc (.cells #[.int .i64 0, .int .i64 0, .slice none 0 0, .int .i64 0, .slice none 0 0, .slice none 0 0, .int .i64 0, .int .i64 0, .int .i64 0, .int .i64 0, .string ⟨#[]⟩] 50)).alloc (.cells #[.int .i64 0, .int .i64 0, .slice none 0 0, .int .i64 0, .slice none 0 0, .slice none 0 0, .int .i64 0, .int .i64 0, .int .i64 0, .int .i64 0, .string ⟨#[]⟩] 50)) := ((Below.refl _ w).alloc (Nat.le_refl _) _).alloc (by simp) _
 have OA := Lib.hid ((ownt_alloc w (⟨0, 0, none, 0, 0, 0, none, 0, 0, none, 0, 0, 0, 0, 0, 0, ⟨#[]⟩⟩ : RPt) 50 w.heap.size rfl).below ((Below.refl _ _).alloc (Nat.le_refl _) (.cells #[.int .i64 0, .int .i64 0, .slice none 0 0, .int .i64 0, .slice none 0 0, .slice none 0 0, .int .i64 0, .int .i64 0, .int .i64 0, .int .i64 0, .string ⟨#[]⟩] 50)))
 have OB := Lib.hid (ownt_alloc (w.alloc (.cells #[.int .i64 0, .int .i64 0, .slice none 0 0, .int .i64 0, .slice none 0 0, .slice none 0 0, .int .i64 0, .int .i64 0, .int .i64 0, .int .i64 0, .string ⟨#[]⟩] 50)) (⟨0, 0, none, 0, 0, 0, none, 0, 0, none, 0, 0, 0, 0, 0, 0, ⟨#[]⟩⟩ : RPt) 50 (w.heap.size + 1) (by simp))
 have HB := Lib.hid (Onl.of_below b hb0)
 have R := Lib.hid (h.below hb0)
 have HS0 : Hid (((w.alloc (.cells #[.int .i64 0, .int .i64 0, .slice none 0 0, .int .i64 0, .slice none 0 0, .slice none 0 0, .int .i64 0, .int .i64 0, .int .i64 0, .int .i64 0, .string ⟨#[]⟩] 50)).alloc (.cells #[.int .i64 0, .int .i64 0, .slice none 0 0, .int .i64 0, .slice none 0 0, .slice none 0 0, .int .i64 0, .int .i64 0, .int .i64 0, .int .i64 0, .string ⟨#[]⟩] 50)).heap.size = w.heap.size + 2) := by show _ = _; simp
 have C0 := Lib.hid (fun he => cP he _ hb0)
 obtain ⟨a, l, c, rfl⟩ := Bs_form hv
 have hd1 : b ≠ w.heap.size + 1 := by omega
 have hd2 : w.heap.size + 1 ≠ b := by omega
 have hd3 : b ≠ w.heap.size := by omega
 have hd4 : w.heap.size ≠ b := by omega
 clear h hv hb0 hlt cP
 obtain ⟨V0, hV0⟩ : ∃ V0, ((w.alloc (.cells #[.int .i64 0, .int .i64 0, .slice none 0 0, .int .i64 0, .slice none 0 0, .slice none 0 0, .int .i64 0, .int .i64 0, .int .i64 0, .int .i64 0, .string ⟨#[]⟩] 50)).alloc (.cells #[.int .i64 0, .int .i64 0, .slice none 0 0, .int .i64 0, .slice none 0 0, .slice none 0 0, .int .i64 0, .int .i64 0, .int .i64 0, .int .i64 0, .string ⟨#[]⟩] 50)) = V0 := ⟨_, rfl⟩
 rw [hV0] at OA OB HB R C0 HS0
 have HV0 := Lib.hid hV0
 clear hV0
 go_enter Tryz.func32, Tryz.ntmps32
 go_upto_region 2 with (fail)
 rw [HV0.out]
 clear HV0
 by_cases he : e0 = 0
 ·subst he
  obtain rfl : oo = oz := (if_pos rfl).symm.trans HOZ.out
  have cP := C0.out rfl
  obtain ⟨z0, z1, zf⟩ := R.out
  go_wp2_with fail
  refine cP.mono ?_
  rintro e V1 ⟨⟨r, T, K, rfl, ho, hst⟩, hb⟩
  clear z0 z1 zf cP C0
  replace OA := Lib.hid (OA.out.below hb)
  replace OB := Lib.hid (OB.out.below hb)
  replace R := Lib.hid (R.out.below hb)
  replace HB := Lib.hid (HB.out.trans (Onl.of_below b hb))
  have HO1 := Lib.hid ho
  have HST := Lib.hid hst
  clear hb ho hst
  obtain ⟨V2, hV2⟩ : ∃ V2, (((((((((((V1.setCell ⟨(w.heap.size + 1), 0, none⟩ (.int .i64 r.k)).setCell ⟨(w.heap.size + 1), 1, none⟩ (.int .i64 r.be)).setCell ⟨(w.heap.size + 1), 2, none⟩ (.slice r.a1 r.l1 r.c1)).setCell ⟨(w.heap.size + 1), 3, none⟩ (.int .i64 r.bn)).setCell ⟨(w.heap.size + 1), 4, none⟩ (.slice r.a2 r.l2 r.c2)).setCell ⟨(w.heap.size + 1), 5, none⟩ (.slice r.a3 r.l3 r.c3)).setCell ⟨(w.heap.size + 1), 6, none⟩ (.int .i64 r.s)).setCell ⟨(w.heap.size + 1), 7, none⟩ (.int .i64 r.d)).setCell ⟨(w.heap.size + 1), 8, none⟩ (.int .i64 r.t)).setCell ⟨(w.heap.size + 1), 9, none⟩ (.int .i64 r.n)).setCell ⟨(w.heap.size + 1), 10, none⟩ (.string r.x)) = V2 := ⟨_, rfl⟩
  have OB2 := Lib.hid (OB.out.setall r)
  have hbel := bel_set11 (b := w.heap.size + 1) (Below.refl (w.heap.size + 1) V1) (Nat.le_refl _) r
  have HO2 := Lib.hid (ow_set11 HO1.out (b := w.heap.size + 1) (by have := HS0.out; omega) r)
  rw [hV2] at OB2 hbel HO2
  have hsz : w.heap.size + 2 ≤ V1.heap.size := by have := OB.out.lt; omega
  have hw0 : w.heap.size + 1 ≤ V1.heap.size := by omega
  have OA2 := Lib.hid (OA.out.low (Nat.lt_succ_self _) hbel)
  have R2 := Lib.hid (R.out.low (S := w.heap.size + 1) (by have := HL.out; omega) hbel)
  have HB2 := Lib.hid (HB.out.then hbel (Nat.le_succ _))
  clear hbel
  obtain ⟨⟨u0, u1, u2, u3, u4, u5, u6, u7, u8, u9, u10⟩, uf⟩ := OB.out
  obtain ⟨z0, z1, zf⟩ := R2.out
  obtain ⟨V3, hV3⟩ : ∃ V3, (V2.setCell ⟨b, 0, none⟩ (.int .i64 T)).setCell ⟨b, 1, none⟩ (.int .i64 K) = V3 := ⟨_, rfl⟩
  have R3 := Lib.hid (R2.out.set T K)
  have O3 : Onl b V2 ((V2.setCell ⟨b, 0, none⟩ (.int .i64 T)).setCell ⟨b, 1, none⟩ (.int .i64 K)) := ((Onl.refl _ _).set 0 _).set 1 _
  rw [hV3] at R3 O3
  have OA3 := Lib.hid (OA2.out.onl O3 hd4)
  have OB3 := Lib.hid (OB2.out.onl O3 hd2)
  have HB3 := Lib.hid (HB2.out.trans O3)
  have HO3 := Lib.hid (HO2.out.onl O3 (by have := HL.out; have := HS0.out; omega))
  clear O3 hsz hw0
  obtain ⟨⟨m0, m1, m2, m3, m4, m5, m6, m7, m8, m9, m10⟩, mf⟩ := OB3.out
  obtain ⟨⟨q0, q1, q2, q3, q4, q5, q6, q7, q8, q9, q10⟩, qf⟩ := OA3.out
  go_wp2_with fail
  have hs := (OA3.out.setall r).1
  have hbs := bel_set11 (b := w.heap.size) (Below.refl w.heap.size V3) (Nat.le_refl _) r
  have hho := ow_set11 HO3.out (b := w.heap.size) (by have := HS0.out; omega) r
  generalize (((((((((((V3.setCell ⟨w.heap.size, 0, none⟩ (.int .i64 r.k)).setCell ⟨w.heap.size, 1, none⟩ (.int .i64 r.be)).setCell ⟨w.heap.size, 2, none⟩ (.slice r.a1 r.l1 r.c1)).setCell ⟨w.heap.size, 3, none⟩ (.int .i64 r.bn)).setCell ⟨w.heap.size, 4, none⟩ (.slice r.a2 r.l2 r.c2)).setCell ⟨w.heap.size, 5, none⟩ (.slice r.a3 r.l3 r.c3)).setCell ⟨w.heap.size, 6, none⟩ (.int .i64 r.s)).setCell ⟨w.heap.size, 7, none⟩ (.int .i64 r.d)).setCell ⟨w.heap.size, 8, none⟩ (.int .i64 r.t)).setCell ⟨w.heap.size, 9, none⟩ (.int .i64 r.n)).setCell ⟨w.heap.size, 10, none⟩ (.string r.x)) = W5 at *
  obtain ⟨s0_, s1_, s2_, s3_, s4_, s5_, s6_, s7_, s8_, s9_, s10_⟩ := hs
  exact bodyPost_ret (v := .agg #[.int .i64 r.k, .int .i64 r.be, .slice r.a1 r.l1 r.c1, .int .i64 r.bn, .slice r.a2 r.l2 r.c2, .slice r.a3 r.l3 r.c3, .int .i64 r.s, .int .i64 r.d, .int .i64 r.t, .int .i64 r.n, .string r.x]) (by simp [results, Tryz.results32, go_sem, s0_, s1_, s2_, s3_, s4_, s5_, s6_, s7_, s8_, s9_, s10_]) rfl ⟨r, T, K, rfl, hho.mono (by have := HS0.out; omega), HST.out, R3.out.low HL.out hbs, HB3.out.then hbs (Nat.le_refl _)⟩
 ·have hne : (e0 == 0) = false := by simpa using he
  have HE := Lib.hid he
  obtain rfl : none = oz := (if_neg he).symm.trans HOZ.out
  clear he C0 HOZ
  obtain ⟨z0, z1, zf⟩ := R.out
  obtain ⟨⟨u0, u1, u2, u3, u4, u5, u6, u7, u8, u9, u10⟩, uf⟩ := OB.out
  obtain ⟨⟨q0, q1, q2, q3, q4, q5, q6, q7, q8, q9, q10⟩, qf⟩ := OA.out
  go_wp2_with fail
  have hs := (OA.out.setall (⟨0, 0, none, 0, 0, 0, none, 0, 0, none, 0, 0, 0, 0, 0, 0, ⟨#[]⟩⟩ : RPt)).1
  have hbs := bel_set11 (b := w.heap.size) (Below.refl w.heap.size V0) (Nat.le_refl _) (⟨0, 0, none, 0, 0, 0, none, 0, 0, none, 0, 0, 0, 0, 0, 0, ⟨#[]⟩⟩ : RPt)
  simp only at hs hbs
  generalize (((((((((((V0.setCell ⟨w.heap.size, 0, none⟩ (.int .i64 0)).setCell ⟨w.heap.size, 1, none⟩ (.int .i64 0)).setCell ⟨w.heap.size, 2, none⟩ (.slice none 0 0)).setCell ⟨w.heap.size, 3, none⟩ (.int .i64 0)).setCell ⟨w.heap.size, 4, none⟩ (.slice none 0 0)).setCell ⟨w.heap.size, 5, none⟩ (.slice none 0 0)).setCell ⟨w.heap.size, 6, none⟩ (.int .i64 0)).setCell ⟨w.heap.size, 7, none⟩ (.int .i64 0)).setCell ⟨w.heap.size, 8, none⟩ (.int .i64 0)).setCell ⟨w.heap.size, 9, none⟩ (.int .i64 0)).setCell ⟨w.heap.size, 10, none⟩ (.string ⟨#[]⟩)) = W5 at *
  obtain ⟨s0_, s1_, s2_, s3_, s4_, s5_, s6_, s7_, s8_, s9_, s10_⟩ := hs
  exact bodyPost_ret (v := .agg #[.int .i64 0, .int .i64 0, .slice none 0 0, .int .i64 0, .slice none 0 0, .slice none 0 0, .int .i64 0, .int .i64 0, .int .i64 0, .int .i64 0, .string ⟨#[]⟩]) (by simp [results, Tryz.results32, go_sem, s0_, s1_, s2_, s3_, s4_, s5_, s6_, s7_, s8_, s9_, s10_]) rfl ⟨(⟨0, 0, none, 0, 0, 0, none, 0, 0, none, 0, 0, 0, 0, 0, 0, ⟨#[]⟩⟩ : RPt), k, e0, rfl, zR_ow _ _, HE.out, R.out.low HL.out hbs, HB.out.then hbs (Nat.le_refl _)⟩
set_option maxHeartbeats 16000000 in
theorem gnext_pt (b : Nat) (v : Value) (xs : List Int) (k e0 : Int) (oo : Option (Pt × Int)) (w : World) (h : Rd w b k e0) (hv : Bs w v xs) (cP : e0 = 0 → ∀ V, Below w.heap.size w V → Calls Tryz.prog 33 #[v, .int .i64 k] V (RetN V oo)) :
  Calls Tryz.prog 32 #[.pointer (some ⟨b, 0, none⟩), v, .func (Fn.func 33) #[] #[]] w (RetX w b (if e0 = 0 then oo else none)) := by
 obtain ⟨oz, hoz⟩ : ∃ oz, (if e0 = 0 then oo else none) = oz := ⟨_, rfl⟩
 rw [hoz]
 have HOZ := Lib.hid hoz
 clear hoz
 have hlt : b < w.heap.size := World.block_lt_of_cell? w _ h.1
 have HL := Lib.hid hlt
 have hb0 : Below w.heap.size w ((w.alloc (.cells #[.int .i64 0, .int .i64 0, .slice none 0 0, .int .i64 0, .slice none 0 0, .slice none 0 0, .int .i64 0, .int .i64 0, .int .i64 0, .int .i64 0, .string ⟨#[]⟩] 50)).alloc (.cells #[.int .i64 0, .int .i64 0, .slice none 0 0, .int .i64 0, .slice none 0 0, .slice none 0 0, .int .i64 0, .int .i64 0, .int .i64 0, .int .i64 0, .string ⟨#[]⟩] 50)) := ((Below.refl _ w).alloc (Nat.le_refl _) _).alloc (by simp) _
 have OA := Lib.hid ((ownt_alloc w (⟨0, 0, none, 0, 0, 0, none, 0, 0, none, 0, 0, 0, 0, 0, 0, ⟨#[]⟩⟩ : RPt) 50 w.heap.size rfl).below ((Below.refl _ _).alloc (Nat.le_refl _) (.cells #[.int .i64 0, .int .i64 0, .slice none 0 0, .int .i64 0, .slice none 0 0, .slice none 0 0, .int .i64 0, .int .i64 0, .int .i64 0, .int .i64 0, .string ⟨#[]⟩] 50)))
 have OB := Lib.hid (ownt_alloc (w.alloc (.cells #[.int .i64 0, .int .i64 0, .slice none 0 0, .int .i64 0, .slice none 0 0, .slice none 0 0, .int .i64 0, .int .i64 0, .int .i64 0, .int .i64 0, .string ⟨#[]⟩] 50)) (⟨0, 0, none, 0, 0, 0, none, 0, 0, none, 0, 0, 0, 0, 0, 0, ⟨#[]⟩⟩ : RPt) 50 (w.heap.size + 1) (by simp))
 have HB := Lib.hid (Onl.of_below b hb0)
 have R := Lib.hid (h.below hb0)
 have HS0 : Hid (((w.alloc (.cells #[.int .i64 0, .int .i64 0, .slice none 0 0, .int .i64 0, .slice none 0 0, .slice none 0 0, .int .i64 0, .int .i64 0, .int .i64 0, .int .i64 0, .string ⟨#[]⟩] 50)).alloc (.cells #[.int .i64 0, .int .i64 0, .slice none 0 0, .int .i64 0, .slice none 0 0, .slice none 0 0, .int .i64 0, .int .i64 0, .int .i64 0, .int .i64 0, .string ⟨#[]⟩] 50)).heap.size = w.heap.size + 2) := by show _ = _; simp
 have C0 := Lib.hid (fun he => cP he _ hb0)
 obtain ⟨a, l, c, rfl⟩ := Bs_form hv
 have hd1 : b ≠ w.heap.size + 1 := by omega
 have hd2 : w.heap.size + 1 ≠ b := by omega
 have hd3 : b ≠ w.heap.size := by omega
 have hd4 : w.heap.size ≠ b := by omega
 clear h hv hb0 hlt cP
 obtain ⟨V0, hV0⟩ : ∃ V0, ((w.alloc (.cells #[.int .i64 0, .int .i64 0, .slice none 0 0, .int .i64 0, .slice none 0 0, .slice none 0 0, .int .i64 0, .int .i64 0, .int .i64 0, .int .i64 0, .string ⟨#[]⟩] 50)).alloc (.cells #[.int .i64 0, .int .i64 0, .slice none 0 0, .int .i64 0, .slice none 0 0, .slice none 0 0, .int .i64 0, .int .i64 0, .int .i64 0, .int .i64 0, .string ⟨#[]⟩] 50)) = V0 := ⟨_, rfl⟩
 rw [hV0] at OA OB HB R C0 HS0
 have HV0 := Lib.hid hV0
 clear hV0
 go_enter Tryz.func32, Tryz.ntmps32
 go_upto_region 2 with (fail)
 rw [HV0.out]
 clear HV0
 by_cases he : e0 = 0
 ·subst he
  obtain rfl : oo = oz := (if_pos rfl).symm.trans HOZ.out
  have cP := C0.out rfl
  obtain ⟨z0, z1, zf⟩ := R.out
  go_wp2_with fail
  refine cP.mono ?_
  rintro e V1 ⟨⟨r, T, K, rfl, ho, hst⟩, hb⟩
  clear z0 z1 zf cP C0
  replace OA := Lib.hid (OA.out.below hb)
  replace OB := Lib.hid (OB.out.below hb)
  replace R := Lib.hid (R.out.below hb)
  replace HB := Lib.hid (HB.out.trans (Onl.of_below b hb))
  have HO1 := Lib.hid ho
  have HST := Lib.hid hst
  clear hb ho hst
  obtain ⟨V2, hV2⟩ : ∃ V2, (((((((((((V1.setCell ⟨(w.heap.size + 1), 0, none⟩ (.int .i64 r.k)).setCell ⟨(w.heap.size + 1), 1, none⟩ (.int .i64 r.be)).setCell ⟨(w.heap.size + 1), 2, none⟩ (.slice r.a1 r.l1 r.c1)).setCell ⟨(w.heap.size + 1), 3, none⟩ (.int .i64 r.bn)).setCell ⟨(w.heap.size + 1), 4, none⟩ (.slice r.a2 r.l2 r.c2)).setCell ⟨(w.heap.size + 1), 5, none⟩ (.slice r.a3 r.l3 r.c3)).setCell ⟨(w.heap.size + 1), 6, none⟩ (.int .i64 r.s)).setCell ⟨(w.heap.size + 1), 7, none⟩ (.int .i64 r.d)).setCell ⟨(w.heap.size + 1), 8, none⟩ (.int .i64 r.t)).setCell ⟨(w.heap.size + 1), 9, none⟩ (.int .i64 r.n)).setCell ⟨(w.heap.size + 1), 10, none⟩ (.string r.x)) = V2 := ⟨_, rfl⟩
  have OB2 := Lib.hid (OB.out.setall r)
  have hbel := bel_set11 (b := w.heap.size + 1) (Below.refl (w.heap.size + 1) V1) (Nat.le_refl _) r
  have HO2 := Lib.hid (ow_set11 HO1.out (b := w.heap.size + 1) (by have := HS0.out; omega) r)
  rw [hV2] at OB2 hbel HO2
  have hsz : w.heap.size + 2 ≤ V1.heap.size := by have := OB.out.lt; omega
  have hw0 : w.heap.size + 1 ≤ V1.heap.size := by omega
  have OA2 := Lib.hid (OA.out.low (Nat.lt_succ_self _) hbel)
  have R2 := Lib.hid (R.out.low (S := w.heap.size + 1) (by have := HL.out; omega) hbel)
  have HB2 := Lib.hid (HB.out.then hbel (Nat.le_succ _))
  clear hbel
  obtain ⟨⟨u0, u1, u2, u3, u4, u5, u6, u7, u8, u9, u10⟩, uf⟩ := OB.out
  obtain ⟨z0, z1, zf⟩ := R2.out
  obtain ⟨V3, hV3⟩ : ∃ V3, (V2.setCell ⟨b, 0, none⟩ (.int .i64 T)).setCell ⟨b, 1, none⟩ (.int .i64 K) = V3 := ⟨_, rfl⟩
  have R3 := Lib.hid (R2.out.set T K)
  have O3 : Onl b V2 ((V2.setCell ⟨b, 0, none⟩ (.int .i64 T)).setCell ⟨b, 1, none⟩ (.int .i64 K)) := ((Onl.refl _ _).set 0 _).set 1 _
  rw [hV3] at R3 O3
  have OA3 := Lib.hid (OA2.out.onl O3 hd4)
  have OB3 := Lib.hid (OB2.out.onl O3 hd2)
  have HB3 := Lib.hid (HB2.out.trans O3)
  have HO3 := Lib.hid (HO2.out.onl O3 (by have := HL.out; have := HS0.out; omega))
  clear O3 hsz hw0
  obtain ⟨⟨m0, m1, m2, m3, m4, m5, m6, m7, m8, m9, m10⟩, mf⟩ := OB3.out
  obtain ⟨⟨q0, q1, q2, q3, q4, q5, q6, q7, q8, q9, q10⟩, qf⟩ := OA3.out
  go_wp2_with fail
  have hs := (OA3.out.setall r).1
  have hbs := bel_set11 (b := w.heap.size) (Below.refl w.heap.size V3) (Nat.le_refl _) r
  have hho := ow_set11 HO3.out (b := w.heap.size) (by have := HS0.out; omega) r
  generalize (((((((((((V3.setCell ⟨w.heap.size, 0, none⟩ (.int .i64 r.k)).setCell ⟨w.heap.size, 1, none⟩ (.int .i64 r.be)).setCell ⟨w.heap.size, 2, none⟩ (.slice r.a1 r.l1 r.c1)).setCell ⟨w.heap.size, 3, none⟩ (.int .i64 r.bn)).setCell ⟨w.heap.size, 4, none⟩ (.slice r.a2 r.l2 r.c2)).setCell ⟨w.heap.size, 5, none⟩ (.slice r.a3 r.l3 r.c3)).setCell ⟨w.heap.size, 6, none⟩ (.int .i64 r.s)).setCell ⟨w.heap.size, 7, none⟩ (.int .i64 r.d)).setCell ⟨w.heap.size, 8, none⟩ (.int .i64 r.t)).setCell ⟨w.heap.size, 9, none⟩ (.int .i64 r.n)).setCell ⟨w.heap.size, 10, none⟩ (.string r.x)) = W5 at *
  obtain ⟨s0_, s1_, s2_, s3_, s4_, s5_, s6_, s7_, s8_, s9_, s10_⟩ := hs
  exact bodyPost_ret (v := .agg #[.int .i64 r.k, .int .i64 r.be, .slice r.a1 r.l1 r.c1, .int .i64 r.bn, .slice r.a2 r.l2 r.c2, .slice r.a3 r.l3 r.c3, .int .i64 r.s, .int .i64 r.d, .int .i64 r.t, .int .i64 r.n, .string r.x]) (by simp [results, Tryz.results32, go_sem, s0_, s1_, s2_, s3_, s4_, s5_, s6_, s7_, s8_, s9_, s10_]) rfl ⟨r, T, K, rfl, hho.mono (by have := HS0.out; omega), HST.out, R3.out.low HL.out hbs, HB3.out.then hbs (Nat.le_refl _)⟩
 ·have hne : (e0 == 0) = false := by simpa using he
  have HE := Lib.hid he
  obtain rfl : none = oz := (if_neg he).symm.trans HOZ.out
  clear he C0 HOZ
  obtain ⟨z0, z1, zf⟩ := R.out
  obtain ⟨⟨u0, u1, u2, u3, u4, u5, u6, u7, u8, u9, u10⟩, uf⟩ := OB.out
  obtain ⟨⟨q0, q1, q2, q3, q4, q5, q6, q7, q8, q9, q10⟩, qf⟩ := OA.out
  go_wp2_with fail
  have hs := (OA.out.setall (⟨0, 0, none, 0, 0, 0, none, 0, 0, none, 0, 0, 0, 0, 0, 0, ⟨#[]⟩⟩ : RPt)).1
  have hbs := bel_set11 (b := w.heap.size) (Below.refl w.heap.size V0) (Nat.le_refl _) (⟨0, 0, none, 0, 0, 0, none, 0, 0, none, 0, 0, 0, 0, 0, 0, ⟨#[]⟩⟩ : RPt)
  simp only at hs hbs
  generalize (((((((((((V0.setCell ⟨w.heap.size, 0, none⟩ (.int .i64 0)).setCell ⟨w.heap.size, 1, none⟩ (.int .i64 0)).setCell ⟨w.heap.size, 2, none⟩ (.slice none 0 0)).setCell ⟨w.heap.size, 3, none⟩ (.int .i64 0)).setCell ⟨w.heap.size, 4, none⟩ (.slice none 0 0)).setCell ⟨w.heap.size, 5, none⟩ (.slice none 0 0)).setCell ⟨w.heap.size, 6, none⟩ (.int .i64 0)).setCell ⟨w.heap.size, 7, none⟩ (.int .i64 0)).setCell ⟨w.heap.size, 8, none⟩ (.int .i64 0)).setCell ⟨w.heap.size, 9, none⟩ (.int .i64 0)).setCell ⟨w.heap.size, 10, none⟩ (.string ⟨#[]⟩)) = W5 at *
  obtain ⟨s0_, s1_, s2_, s3_, s4_, s5_, s6_, s7_, s8_, s9_, s10_⟩ := hs
  exact bodyPost_ret (v := .agg #[.int .i64 0, .int .i64 0, .slice none 0 0, .int .i64 0, .slice none 0 0, .slice none 0 0, .int .i64 0, .int .i64 0, .int .i64 0, .int .i64 0, .string ⟨#[]⟩]) (by simp [results, Tryz.results32, go_sem, s0_, s1_, s2_, s3_, s4_, s5_, s6_, s7_, s8_, s9_, s10_]) rfl ⟨(⟨0, 0, none, 0, 0, 0, none, 0, 0, none, 0, 0, 0, 0, 0, 0, ⟨#[]⟩⟩ : RPt), k, e0, rfl, zR_ow _ _, HE.out, R.out.low HL.out hbs, HB.out.then hbs (Nat.le_refl _)⟩
set_option maxHeartbeats 16000000 in
theorem gpdone_err (b : Nat) (r : RPt) (at' e1 : Int) (w : World) (h : Rd w b at' e1) (he : e1 ≠ 0) :
  Calls Tryz.prog 56 #[.pointer (some ⟨b, 0, none⟩), .agg #[.int .i64 r.k, .int .i64 r.be, .slice r.a1 r.l1 r.c1, .int .i64 r.bn, .slice r.a2 r.l2 r.c2, .slice r.a3 r.l3 r.c3, .int .i64 r.s, .int .i64 r.d, .int .i64 r.t, .int .i64 r.n, .string r.x], .bool true] w fun e w' => e = .returned (.tuple #[.agg #[.int .i64 0, .int .i64 0, .slice none 0 0, .int .i64 0, .slice none 0 0, .slice none 0 0, .int .i64 0, .int .i64 0, .int .i64 0, .int .i64 0, .string ⟨#[]⟩], .int .i64 0, .int .i64 e1]) ∧ Onl b w w' := by
 have hne : (e1 == 0) = false := by simpa using he
 have hlt := World.block_lt_of_cell? w _ h.1
 have hb0 : Below w.heap.size w ((w.alloc (.cells #[.int .i64 r.k, .int .i64 r.be, .slice r.a1 r.l1 r.c1, .int .i64 r.bn, .slice r.a2 r.l2 r.c2, .slice r.a3 r.l3 r.c3, .int .i64 r.s, .int .i64 r.d, .int .i64 r.t, .int .i64 r.n, .string r.x] 50)).alloc (.cells #[.int .i64 0, .int .i64 0, .slice none 0 0, .int .i64 0, .slice none 0 0, .slice none 0 0, .int .i64 0, .int .i64 0, .int .i64 0, .int .i64 0, .string ⟨#[]⟩] 50)) := ((Below.refl _ w).alloc (Nat.le_refl _) _).alloc (by simp) _
 have cN := need_any b true at' e1 ((w.alloc (.cells #[.int .i64 r.k, .int .i64 r.be, .slice r.a1 r.l1 r.c1, .int .i64 r.bn, .slice r.a2 r.l2 r.c2, .slice r.a3 r.l3 r.c3, .int .i64 r.s, .int .i64 r.d, .int .i64 r.t, .int .i64 r.n, .string r.x] 50)).alloc (.cells #[.int .i64 0, .int .i64 0, .slice none 0 0, .int .i64 0, .slice none 0 0, .slice none 0 0, .int .i64 0, .int .i64 0, .int .i64 0, .int .i64 0, .string ⟨#[]⟩] 50)) (h.below hb0)
 rw [show needE e1 true = e1 by simp [needE]] at cN
 have OB := Lib.hid (ownt_alloc (w.alloc (.cells #[.int .i64 r.k, .int .i64 r.be, .slice r.a1 r.l1 r.c1, .int .i64 r.bn, .slice r.a2 r.l2 r.c2, .slice r.a3 r.l3 r.c3, .int .i64 r.s, .int .i64 r.d, .int .i64 r.t, .int .i64 r.n, .string r.x] 50)) (⟨0, 0, none, 0, 0, 0, none, 0, 0, none, 0, 0, 0, 0, 0, 0, ⟨#[]⟩⟩ : RPt) 50 (w.heap.size + 1) (by simp))
 have HB := Lib.hid (Onl.of_below b hb0)
 have HL : Hid (b < w.heap.size) := hlt
 clear h he hlt hb0
 go_enter Tryz.func56, Tryz.ntmps56
 go_wp2_with (go_at_call 57; refine cN.mono ?_; rintro e w1 ⟨rfl, hR, hO⟩; replace OB := Lib.hid (OB.out.onl hO (by have := HL.out; omega)); replace HB := Lib.hid (HB.out.trans hO); have R := Lib.hid hR; clear hO hR; obtain ⟨z0, z1, zf⟩ := R.out)
 have OB2 := Lib.hid (OB.out.below ((Below.refl _ _).alloc (Nat.le_refl _) (.cells #[.int .i64 0, .int .i64 0, .slice none 0 0, .int .i64 0, .slice none 0 0, .slice none 0 0, .int .i64 0, .int .i64 0, .int .i64 0, .int .i64 0, .string ⟨#[]⟩] 50)))
 have OZ := Lib.hid (ownt_alloc w1 (⟨0, 0, none, 0, 0, 0, none, 0, 0, none, 0, 0, 0, 0, 0, 0, ⟨#[]⟩⟩ : RPt) 50 w1.heap.size rfl)
 have R2 := Lib.hid (R.out.alloc (.cells #[.int .i64 0, .int .i64 0, .slice none 0 0, .int .i64 0, .slice none 0 0, .slice none 0 0, .int .i64 0, .int .i64 0, .int .i64 0, .int .i64 0, .string ⟨#[]⟩] 50))
 have HB2 := Lib.hid (HB.out.alloc (.cells #[.int .i64 0, .int .i64 0, .slice none 0 0, .int .i64 0, .slice none 0 0, .slice none 0 0, .int .i64 0, .int .i64 0, .int .i64 0, .int .i64 0, .string ⟨#[]⟩] 50))
 have hne2 : Hid (w.heap.size + 1 < w1.heap.size) := OB.out.lt
 clear z0 z1 zf R OB HB
 generalize w1.alloc (.cells #[.int .i64 0, .int .i64 0, .slice none 0 0, .int .i64 0, .slice none 0 0, .slice none 0 0, .int .i64 0, .int .i64 0, .int .i64 0, .int .i64 0, .string ⟨#[]⟩] 50) = V at *
 obtain ⟨z0, z1, zf⟩ := R2.out
 obtain ⟨⟨q0, q1, q2, q3, q4, q5, q6, q7, q8, q9, q10⟩, qf⟩ := OZ.out
 obtain ⟨⟨u0, u1, u2, u3, u4, u5, u6, u7, u8, u9, u10⟩, uf⟩ := OB2.out
 have hd1 : b ≠ w.heap.size + 1 := by have := HL.out; omega
 have hd2 : w.heap.size + 1 ≠ b := by have := HL.out; omega
 go_region
 go_wp2_with fail
 have hs := (OB2.out.setall (⟨0, 0, none, 0, 0, 0, none, 0, 0, none, 0, 0, 0, 0, 0, 0, ⟨#[]⟩⟩ : RPt)).1
 have hbs := bel_set11 (b := w.heap.size + 1) (Below.refl w.heap.size V) (Nat.le_succ _) (⟨0, 0, none, 0, 0, 0, none, 0, 0, none, 0, 0, 0, 0, 0, 0, ⟨#[]⟩⟩ : RPt)
 simp only at hs hbs
 generalize (((((((((((V.setCell ⟨(w.heap.size + 1), 0, none⟩ (.int .i64 0)).setCell ⟨(w.heap.size + 1), 1, none⟩ (.int .i64 0)).setCell ⟨(w.heap.size + 1), 2, none⟩ (.slice none 0 0)).setCell ⟨(w.heap.size + 1), 3, none⟩ (.int .i64 0)).setCell ⟨(w.heap.size + 1), 4, none⟩ (.slice none 0 0)).setCell ⟨(w.heap.size + 1), 5, none⟩ (.slice none 0 0)).setCell ⟨(w.heap.size + 1), 6, none⟩ (.int .i64 0)).setCell ⟨(w.heap.size + 1), 7, none⟩ (.int .i64 0)).setCell ⟨(w.heap.size + 1), 8, none⟩ (.int .i64 0)).setCell ⟨(w.heap.size + 1), 9, none⟩ (.int .i64 0)).setCell ⟨(w.heap.size + 1), 10, none⟩ (.string ⟨#[]⟩)) = W5 at *
 obtain ⟨s0_, s1_, s2_, s3_, s4_, s5_, s6_, s7_, s8_, s9_, s10_⟩ := hs
 exact bodyPost_ret (v := .tuple #[.agg #[.int .i64 0, .int .i64 0, .slice none 0 0, .int .i64 0, .slice none 0 0, .slice none 0 0, .int .i64 0, .int .i64 0, .int .i64 0, .int .i64 0, .string ⟨#[]⟩], .int .i64 0, .int .i64 e1]) (by simp [results, Tryz.results56, go_sem, s0_, s1_, s2_, s3_, s4_, s5_, s6_, s7_, s8_, s9_, s10_]) rfl ⟨rfl, HB2.out.then hbs.drew (Nat.le_refl _)⟩
set_option maxHeartbeats 16000000 in
theorem gpdone_ok (b : Nat) (r : RPt) (at' : Int) (w : World) (h : Rd w b at' 0) :
  Calls Tryz.prog 56 #[.pointer (some ⟨b, 0, none⟩), .agg #[.int .i64 r.k, .int .i64 r.be, .slice r.a1 r.l1 r.c1, .int .i64 r.bn, .slice r.a2 r.l2 r.c2, .slice r.a3 r.l3 r.c3, .int .i64 r.s, .int .i64 r.d, .int .i64 r.t, .int .i64 r.n, .string r.x], .bool true] w fun e w' => e = .returned (.tuple #[.agg #[.int .i64 r.k, .int .i64 r.be, .slice r.a1 r.l1 r.c1, .int .i64 r.bn, .slice r.a2 r.l2 r.c2, .slice r.a3 r.l3 r.c3, .int .i64 r.s, .int .i64 r.d, .int .i64 r.t, .int .i64 r.n, .string r.x], .int .i64 at', .int .i64 0]) ∧ Onl b w w' := by
 have hlt := World.block_lt_of_cell? w _ h.1
 have hb0 : Below w.heap.size w ((w.alloc (.cells #[.int .i64 r.k, .int .i64 r.be, .slice r.a1 r.l1 r.c1, .int .i64 r.bn, .slice r.a2 r.l2 r.c2, .slice r.a3 r.l3 r.c3, .int .i64 r.s, .int .i64 r.d, .int .i64 r.t, .int .i64 r.n, .string r.x] 50)).alloc (.cells #[.int .i64 0, .int .i64 0, .slice none 0 0, .int .i64 0, .slice none 0 0, .slice none 0 0, .int .i64 0, .int .i64 0, .int .i64 0, .int .i64 0, .string ⟨#[]⟩] 50)) := ((Below.refl _ w).alloc (Nat.le_refl _) _).alloc (by simp) _
 have cN := need_any b true at' 0 ((w.alloc (.cells #[.int .i64 r.k, .int .i64 r.be, .slice r.a1 r.l1 r.c1, .int .i64 r.bn, .slice r.a2 r.l2 r.c2, .slice r.a3 r.l3 r.c3, .int .i64 r.s, .int .i64 r.d, .int .i64 r.t, .int .i64 r.n, .string r.x] 50)).alloc (.cells #[.int .i64 0, .int .i64 0, .slice none 0 0, .int .i64 0, .slice none 0 0, .slice none 0 0, .int .i64 0, .int .i64 0, .int .i64 0, .int .i64 0, .string ⟨#[]⟩] 50)) (h.below hb0)
 rw [show needE 0 true = 0 from rfl] at cN
 have OA := Lib.hid ((ownt_alloc w r 50 w.heap.size rfl).below ((Below.refl _ _).alloc (Nat.le_refl _) (.cells #[.int .i64 0, .int .i64 0, .slice none 0 0, .int .i64 0, .slice none 0 0, .slice none 0 0, .int .i64 0, .int .i64 0, .int .i64 0, .int .i64 0, .string ⟨#[]⟩] 50)))
 have OB := Lib.hid (ownt_alloc (w.alloc (.cells #[.int .i64 r.k, .int .i64 r.be, .slice r.a1 r.l1 r.c1, .int .i64 r.bn, .slice r.a2 r.l2 r.c2, .slice r.a3 r.l3 r.c3, .int .i64 r.s, .int .i64 r.d, .int .i64 r.t, .int .i64 r.n, .string r.x] 50)) (⟨0, 0, none, 0, 0, 0, none, 0, 0, none, 0, 0, 0, 0, 0, 0, ⟨#[]⟩⟩ : RPt) 50 (w.heap.size + 1) (by simp))
 have HB := Lib.hid (Onl.of_below b hb0)
 have HL : Hid (b < w.heap.size) := hlt
 clear h hlt hb0
 go_enter Tryz.func56, Tryz.ntmps56
 go_wp2_with (go_at_call 57; refine cN.mono ?_; rintro e w1 ⟨rfl, hR, hO⟩; replace OB := Lib.hid (OB.out.onl hO (by have := HL.out; omega)); replace OA := Lib.hid (OA.out.onl hO (by have := HL.out; omega)); replace HB := Lib.hid (HB.out.trans hO); have R := Lib.hid hR; clear hO hR; obtain ⟨z0, z1, zf⟩ := R.out)
 obtain ⟨⟨q0, q1, q2, q3, q4, q5, q6, q7, q8, q9, q10⟩, qf⟩ := OA.out
 obtain ⟨⟨u0, u1, u2, u3, u4, u5, u6, u7, u8, u9, u10⟩, uf⟩ := OB.out
 have hd1 : b ≠ w.heap.size + 1 := by have := HL.out; omega
 have hd2 : w.heap.size + 1 ≠ b := by have := HL.out; omega
 go_region
 go_wp2_with fail
 have hs := (OB.out.setall r).1
 have hbs := bel_set11 (b := w.heap.size + 1) (Below.refl w.heap.size w1) (Nat.le_succ _) r
 generalize (((((((((((w1.setCell ⟨(w.heap.size + 1), 0, none⟩ (.int .i64 r.k)).setCell ⟨(w.heap.size + 1), 1, none⟩ (.int .i64 r.be)).setCell ⟨(w.heap.size + 1), 2, none⟩ (.slice r.a1 r.l1 r.c1)).setCell ⟨(w.heap.size + 1), 3, none⟩ (.int .i64 r.bn)).setCell ⟨(w.heap.size + 1), 4, none⟩ (.slice r.a2 r.l2 r.c2)).setCell ⟨(w.heap.size + 1), 5, none⟩ (.slice r.a3 r.l3 r.c3)).setCell ⟨(w.heap.size + 1), 6, none⟩ (.int .i64 r.s)).setCell ⟨(w.heap.size + 1), 7, none⟩ (.int .i64 r.d)).setCell ⟨(w.heap.size + 1), 8, none⟩ (.int .i64 r.t)).setCell ⟨(w.heap.size + 1), 9, none⟩ (.int .i64 r.n)).setCell ⟨(w.heap.size + 1), 10, none⟩ (.string r.x)) = W5 at *
 obtain ⟨s0_, s1_, s2_, s3_, s4_, s5_, s6_, s7_, s8_, s9_, s10_⟩ := hs
 exact bodyPost_ret (v := .tuple #[.agg #[.int .i64 r.k, .int .i64 r.be, .slice r.a1 r.l1 r.c1, .int .i64 r.bn, .slice r.a2 r.l2 r.c2, .slice r.a3 r.l3 r.c3, .int .i64 r.s, .int .i64 r.d, .int .i64 r.t, .int .i64 r.n, .string r.x], .int .i64 at', .int .i64 0]) (by simp [results, Tryz.results56, go_sem, s0_, s1_, s2_, s3_, s4_, s5_, s6_, s7_, s8_, s9_, s10_]) rfl ⟨rfl, HB.out.then hbs.drew (Nat.le_refl _)⟩
end Go.Proofs.YtjghebcnmoojmaaGreat
