/- An object that is read next. No conditions. What the reader answers at its end, of a batch. No conditions. What the reader answers at its end, of a beacon. No conditions. -/
import Derived.Test.YtjghebcnmoojmaaGreatU24
namespace Go.Proofs.YtjghebcnmoojmaaGreat
set_option maxRecDepth 100000
open Go.RowKit Go.Sort

def nextO (xs : List Int) (u : Int × Int) : OP := if u.2 = 0 then oparseS xs u.1 else ⟨0, 0, false, 0, 0, 0, 0, 0, 0, 0, 0, 0, u.1, u.2⟩
set_option maxHeartbeats 16000000 in
theorem nexto_any (b : Nat) (v : Value) (xs : List Int) (at' e0 : Int) (k x : Int) (n : Bool) (t o r d i p q s m : Int) (s3 e3 : Int) (w : World) (h : Rd w b at' e0) (hv : Bs w v xs) (hp : nextO xs (at', e0) = ⟨k, x, n, t, o, r, d, i, p, q, s, m, s3, e3⟩) :
  Calls Tryz.prog 113 #[.pointer (some ⟨b, 0, none⟩), v, .func (Fn.func 114) #[] #[]] w fun e w' => e = .returned (.agg #[.int .i64 k, .int .i64 x, .bool n, .int .i64 t, .int .i64 o, .int .i64 r, .int .i64 d, .int .i64 i, .int .i64 p, .int .i64 q, .int .i64 s, .int .i64 m]) ∧ Rd w' b s3 e3 ∧ Onl b w w' := by
 have hlt : b < w.heap.size := World.block_lt_of_cell? w _ h.1
 have HL := Lib.hid hlt
 have hb0 : Below w.heap.size w ((w.alloc (.cells #[.int .i64 0, .int .i64 0, .bool false, .int .i64 0, .int .i64 0, .int .i64 0, .int .i64 0, .int .i64 0, .int .i64 0, .int .i64 0, .int .i64 0, .int .i64 0] 63)).alloc (.cells #[.int .i64 0, .int .i64 0, .bool false, .int .i64 0, .int .i64 0, .int .i64 0, .int .i64 0, .int .i64 0, .int .i64 0, .int .i64 0, .int .i64 0, .int .i64 0] 63)) := ((Below.refl _ w).alloc (Nat.le_refl _) _).alloc (by simp) _
 have OA := Lib.hid ((own12_alloc w 0 0 false 0 0 0 0 0 0 0 0 0 63 w.heap.size rfl).below ((Below.refl _ _).alloc (Nat.le_refl _) (.cells #[.int .i64 0, .int .i64 0, .bool false, .int .i64 0, .int .i64 0, .int .i64 0, .int .i64 0, .int .i64 0, .int .i64 0, .int .i64 0, .int .i64 0, .int .i64 0] 63)))
 have OB := Lib.hid (own12_alloc (w.alloc (.cells #[.int .i64 0, .int .i64 0, .bool false, .int .i64 0, .int .i64 0, .int .i64 0, .int .i64 0, .int .i64 0, .int .i64 0, .int .i64 0, .int .i64 0, .int .i64 0] 63)) 0 0 false 0 0 0 0 0 0 0 0 0 63 (w.heap.size + 1) (by simp))
 have HB := Lib.hid (Onl.of_below b hb0)
 have R := Lib.hid (h.below hb0)
 have RV := Lib.hid (Bs_below hv hb0)
 obtain ⟨a, l, c, rfl⟩ := Bs_form hv
 have hd1 : b ≠ w.heap.size + 1 := by omega
 have hd2 : w.heap.size + 1 ≠ b := by omega
 have hd3 : b ≠ w.heap.size := by omega
 have hd4 : w.heap.size ≠ b := by omega
 clear h hv hb0 hlt
 by_cases he : e0 = 0
 ·subst he
  rw [nextO, if_pos rfl] at hp
  simp only [] at hp
  have cP := oparse_any (.slice a l c) at' xs ((w.alloc (.cells #[.int .i64 0, .int .i64 0, .bool false, .int .i64 0, .int .i64 0, .int .i64 0, .int .i64 0, .int .i64 0, .int .i64 0, .int .i64 0, .int .i64 0, .int .i64 0] 63)).alloc (.cells #[.int .i64 0, .int .i64 0, .bool false, .int .i64 0, .int .i64 0, .int .i64 0, .int .i64 0, .int .i64 0, .int .i64 0, .int .i64 0, .int .i64 0, .int .i64 0] 63)) RV.out
  rw [hp] at cP
  unfold OP.v at cP
  clear hp
  go_enter Tryz.func113, Tryz.ntmps113
  have W0 : ∃ V0, (w.alloc (.cells #[.int .i64 0, .int .i64 0, .bool false, .int .i64 0, .int .i64 0, .int .i64 0, .int .i64 0, .int .i64 0, .int .i64 0, .int .i64 0, .int .i64 0, .int .i64 0] 63)).alloc (.cells #[.int .i64 0, .int .i64 0, .bool false, .int .i64 0, .int .i64 0, .int .i64 0, .int .i64 0, .int .i64 0, .int .i64 0, .int .i64 0, .int .i64 0, .int .i64 0] 63) = V0 := ⟨_, rfl⟩
  obtain ⟨V0, hV0⟩ := W0
  rw [hV0] at cP OA OB HB R RV
  obtain ⟨z0, z1, zf⟩ := R.out
  obtain ⟨⟨q0, q1, q2, q3, q4, q5, q6, q7, q8, q9, q10, q11⟩, qf⟩ := OA.out
  obtain ⟨⟨u0, u1, u2, u3, u4, u5, u6, u7, u8, u9, u10, u11⟩, uf⟩ := OB.out
  go_wp2_with fail
  refine cP.mono ?_
  rintro e V1 ⟨rfl, hb⟩
  clear z0 z1 zf q0 q1 q2 q3 q4 q5 q6 q7 q8 q9 q10 q11 qf u0 u1 u2 u3 u4 u5 u6 u7 u8 u9 u10 u11 uf
  replace OA := Lib.hid (OA.out.below hb)
  replace OB := Lib.hid (OB.out.below hb)
  replace R := Lib.hid (R.out.below hb)
  replace HB := Lib.hid (HB.out.trans (Onl.of_below b hb))
  clear hb hV0 RV
  obtain ⟨V2, hV2⟩ : ∃ V2, ((((((((((((V1.setCell ⟨(w.heap.size + 1), 0, none⟩ (.int .i64 k)).setCell ⟨(w.heap.size + 1), 1, none⟩ (.int .i64 x)).setCell ⟨(w.heap.size + 1), 2, none⟩ (.bool n)).setCell ⟨(w.heap.size + 1), 3, none⟩ (.int .i64 t)).setCell ⟨(w.heap.size + 1), 4, none⟩ (.int .i64 o)).setCell ⟨(w.heap.size + 1), 5, none⟩ (.int .i64 r)).setCell ⟨(w.heap.size + 1), 6, none⟩ (.int .i64 d)).setCell ⟨(w.heap.size + 1), 7, none⟩ (.int .i64 i)).setCell ⟨(w.heap.size + 1), 8, none⟩ (.int .i64 p)).setCell ⟨(w.heap.size + 1), 9, none⟩ (.int .i64 q)).setCell ⟨(w.heap.size + 1), 10, none⟩ (.int .i64 s)).setCell ⟨(w.heap.size + 1), 11, none⟩ (.int .i64 m)) = V2 := ⟨_, rfl⟩
  have OB2 := Lib.hid (OB.out.setall k x n t o r d i p q s m)
  have O2 : Onl (w.heap.size + 1) V1 ((((((((((((V1.setCell ⟨(w.heap.size + 1), 0, none⟩ (.int .i64 k)).setCell ⟨(w.heap.size + 1), 1, none⟩ (.int .i64 x)).setCell ⟨(w.heap.size + 1), 2, none⟩ (.bool n)).setCell ⟨(w.heap.size + 1), 3, none⟩ (.int .i64 t)).setCell ⟨(w.heap.size + 1), 4, none⟩ (.int .i64 o)).setCell ⟨(w.heap.size + 1), 5, none⟩ (.int .i64 r)).setCell ⟨(w.heap.size + 1), 6, none⟩ (.int .i64 d)).setCell ⟨(w.heap.size + 1), 7, none⟩ (.int .i64 i)).setCell ⟨(w.heap.size + 1), 8, none⟩ (.int .i64 p)).setCell ⟨(w.heap.size + 1), 9, none⟩ (.int .i64 q)).setCell ⟨(w.heap.size + 1), 10, none⟩ (.int .i64 s)).setCell ⟨(w.heap.size + 1), 11, none⟩ (.int .i64 m)) := onl_setall V1 (w.heap.size + 1) k x n t o r d i p q s m
  have hbel : Below w.heap.size V1 ((((((((((((V1.setCell ⟨(w.heap.size + 1), 0, none⟩ (.int .i64 k)).setCell ⟨(w.heap.size + 1), 1, none⟩ (.int .i64 x)).setCell ⟨(w.heap.size + 1), 2, none⟩ (.bool n)).setCell ⟨(w.heap.size + 1), 3, none⟩ (.int .i64 t)).setCell ⟨(w.heap.size + 1), 4, none⟩ (.int .i64 o)).setCell ⟨(w.heap.size + 1), 5, none⟩ (.int .i64 r)).setCell ⟨(w.heap.size + 1), 6, none⟩ (.int .i64 d)).setCell ⟨(w.heap.size + 1), 7, none⟩ (.int .i64 i)).setCell ⟨(w.heap.size + 1), 8, none⟩ (.int .i64 p)).setCell ⟨(w.heap.size + 1), 9, none⟩ (.int .i64 q)).setCell ⟨(w.heap.size + 1), 10, none⟩ (.int .i64 s)).setCell ⟨(w.heap.size + 1), 11, none⟩ (.int .i64 m)) := bel_set12 (Below.refl _ _) (by omega) k x n t o r d i p q s m
  rw [hV2] at OB2 O2 hbel
  have OA2 := Lib.hid (OA.out.onl O2 (by omega))
  have R2 := Lib.hid (R.out.onl O2 (by omega))
  have HB2 := Lib.hid (HB.out.then hbel (Nat.le_refl _))
  clear O2 hbel
  obtain ⟨⟨u0, u1, u2, u3, u4, u5, u6, u7, u8, u9, u10, u11⟩, uf⟩ := OB.out
  obtain ⟨z0, z1, zf⟩ := R2.out
  obtain ⟨V3, hV3⟩ : ∃ V3, (V2.setCell ⟨b, 0, none⟩ (.int .i64 s3)).setCell ⟨b, 1, none⟩ (.int .i64 e3) = V3 := ⟨_, rfl⟩
  have R3 := Lib.hid (R2.out.set s3 e3)
  have O3 : Onl b V2 ((V2.setCell ⟨b, 0, none⟩ (.int .i64 s3)).setCell ⟨b, 1, none⟩ (.int .i64 e3)) := ((Onl.refl _ _).set 0 _).set 1 _
  rw [hV3] at R3 O3
  have OA3 := Lib.hid (OA2.out.onl O3 hd4)
  have OB3 := Lib.hid (OB2.out.onl O3 hd2)
  have HB3 := Lib.hid (HB2.out.trans O3)
  clear O3
  obtain ⟨⟨m0, m1, m2, m3, m4, m5, m6, m7, m8, m9, m10, m11⟩, mf⟩ := OB3.out
  obtain ⟨⟨q0, q1, q2, q3, q4, q5, q6, q7, q8, q9, q10, q11⟩, qf⟩ := OA3.out
  go_wp2_with fail
  have hs := (OA3.out.setall k x n t o r d i p q s m).1
  have hbs := bel_set12 (B := w.heap.size) (Below.refl _ V3) (b := w.heap.size) (Nat.le_refl _) k x n t o r d i p q s m
  have hO4 : Onl w.heap.size V3 ((((((((((((V3.setCell ⟨w.heap.size, 0, none⟩ (.int .i64 k)).setCell ⟨w.heap.size, 1, none⟩ (.int .i64 x)).setCell ⟨w.heap.size, 2, none⟩ (.bool n)).setCell ⟨w.heap.size, 3, none⟩ (.int .i64 t)).setCell ⟨w.heap.size, 4, none⟩ (.int .i64 o)).setCell ⟨w.heap.size, 5, none⟩ (.int .i64 r)).setCell ⟨w.heap.size, 6, none⟩ (.int .i64 d)).setCell ⟨w.heap.size, 7, none⟩ (.int .i64 i)).setCell ⟨w.heap.size, 8, none⟩ (.int .i64 p)).setCell ⟨w.heap.size, 9, none⟩ (.int .i64 q)).setCell ⟨w.heap.size, 10, none⟩ (.int .i64 s)).setCell ⟨w.heap.size, 11, none⟩ (.int .i64 m)) := onl_setall V3 w.heap.size k x n t o r d i p q s m
  generalize ((((((((((((V3.setCell ⟨w.heap.size, 0, none⟩ (.int .i64 k)).setCell ⟨w.heap.size, 1, none⟩ (.int .i64 x)).setCell ⟨w.heap.size, 2, none⟩ (.bool n)).setCell ⟨w.heap.size, 3, none⟩ (.int .i64 t)).setCell ⟨w.heap.size, 4, none⟩ (.int .i64 o)).setCell ⟨w.heap.size, 5, none⟩ (.int .i64 r)).setCell ⟨w.heap.size, 6, none⟩ (.int .i64 d)).setCell ⟨w.heap.size, 7, none⟩ (.int .i64 i)).setCell ⟨w.heap.size, 8, none⟩ (.int .i64 p)).setCell ⟨w.heap.size, 9, none⟩ (.int .i64 q)).setCell ⟨w.heap.size, 10, none⟩ (.int .i64 s)).setCell ⟨w.heap.size, 11, none⟩ (.int .i64 m)) = W5 at *
  obtain ⟨s0_, s1_, s2_, s3_, s4_, s5_, s6_, s7_, s8_, s9_, s10_, s11_⟩ := hs
  exact bodyPost_ret (v := .agg #[.int .i64 k, .int .i64 x, .bool n, .int .i64 t, .int .i64 o, .int .i64 r, .int .i64 d, .int .i64 i, .int .i64 p, .int .i64 q, .int .i64 s, .int .i64 m]) (by simp [results, Tryz.results113, go_sem, s0_, s1_, s2_, s3_, s4_, s5_, s6_, s7_, s8_, s9_, s10_, s11_]) rfl ⟨rfl, R3.out.onl hO4 hd3, HB3.out.then hbs (Nat.le_refl _)⟩
 ·have hne : (e0 == 0) = false := by simpa using he
  rw [nextO, if_neg he] at hp
  simp only [OP.mk.injEq] at hp
  obtain ⟨rfl, rfl, rfl, rfl, rfl, rfl, rfl, rfl, rfl, rfl, rfl, rfl, rfl, rfl⟩ := hp
  have HE := Lib.hid he
  clear he
  go_enter Tryz.func113, Tryz.ntmps113
  have W0 : ∃ V0, (w.alloc (.cells #[.int .i64 0, .int .i64 0, .bool false, .int .i64 0, .int .i64 0, .int .i64 0, .int .i64 0, .int .i64 0, .int .i64 0, .int .i64 0, .int .i64 0, .int .i64 0] 63)).alloc (.cells #[.int .i64 0, .int .i64 0, .bool false, .int .i64 0, .int .i64 0, .int .i64 0, .int .i64 0, .int .i64 0, .int .i64 0, .int .i64 0, .int .i64 0, .int .i64 0] 63) = V0 := ⟨_, rfl⟩
  obtain ⟨V0, hV0⟩ := W0
  rw [hV0] at OA OB HB R RV
  obtain ⟨z0, z1, zf⟩ := R.out
  obtain ⟨⟨q0, q1, q2, q3, q4, q5, q6, q7, q8, q9, q10, q11⟩, qf⟩ := OA.out
  obtain ⟨⟨u0, u1, u2, u3, u4, u5, u6, u7, u8, u9, u10, u11⟩, uf⟩ := OB.out
  go_wp2_with fail
  have hs := (OA.out.setall 0 0 false 0 0 0 0 0 0 0 0 0).1
  have hbs := bel_set12 (B := w.heap.size) (Below.refl _ V0) (b := w.heap.size) (Nat.le_refl _) 0 0 false 0 0 0 0 0 0 0 0 0
  have hO4 : Onl w.heap.size V0 ((((((((((((V0.setCell ⟨w.heap.size, 0, none⟩ (.int .i64 0)).setCell ⟨w.heap.size, 1, none⟩ (.int .i64 0)).setCell ⟨w.heap.size, 2, none⟩ (.bool false)).setCell ⟨w.heap.size, 3, none⟩ (.int .i64 0)).setCell ⟨w.heap.size, 4, none⟩ (.int .i64 0)).setCell ⟨w.heap.size, 5, none⟩ (.int .i64 0)).setCell ⟨w.heap.size, 6, none⟩ (.int .i64 0)).setCell ⟨w.heap.size, 7, none⟩ (.int .i64 0)).setCell ⟨w.heap.size, 8, none⟩ (.int .i64 0)).setCell ⟨w.heap.size, 9, none⟩ (.int .i64 0)).setCell ⟨w.heap.size, 10, none⟩ (.int .i64 0)).setCell ⟨w.heap.size, 11, none⟩ (.int .i64 0)) := onl_setall V0 w.heap.size 0 0 false 0 0 0 0 0 0 0 0 0
  generalize ((((((((((((V0.setCell ⟨w.heap.size, 0, none⟩ (.int .i64 0)).setCell ⟨w.heap.size, 1, none⟩ (.int .i64 0)).setCell ⟨w.heap.size, 2, none⟩ (.bool false)).setCell ⟨w.heap.size, 3, none⟩ (.int .i64 0)).setCell ⟨w.heap.size, 4, none⟩ (.int .i64 0)).setCell ⟨w.heap.size, 5, none⟩ (.int .i64 0)).setCell ⟨w.heap.size, 6, none⟩ (.int .i64 0)).setCell ⟨w.heap.size, 7, none⟩ (.int .i64 0)).setCell ⟨w.heap.size, 8, none⟩ (.int .i64 0)).setCell ⟨w.heap.size, 9, none⟩ (.int .i64 0)).setCell ⟨w.heap.size, 10, none⟩ (.int .i64 0)).setCell ⟨w.heap.size, 11, none⟩ (.int .i64 0)) = W5 at *
  obtain ⟨s0_, s1_, s2_, s3_, s4_, s5_, s6_, s7_, s8_, s9_, s10_, s11_⟩ := hs
  exact bodyPost_ret (v := .agg #[.int .i64 0, .int .i64 0, .bool false, .int .i64 0, .int .i64 0, .int .i64 0, .int .i64 0, .int .i64 0, .int .i64 0, .int .i64 0, .int .i64 0, .int .i64 0]) (by simp [results, Tryz.results113, go_sem, s0_, s1_, s2_, s3_, s4_, s5_, s6_, s7_, s8_, s9_, s10_, s11_]) rfl ⟨rfl, R.out.onl hO4 hd3, HB.out.then hbs (Nat.le_refl _)⟩
end Go.Proofs.YtjghebcnmoojmaaGreat

namespace Go.Proofs.YtjghebcnmoojmaaGreat
set_option maxRecDepth 100000
open Go.RowKit Go.Sort

def Own2 (w : World) (b : Nat) (M : Int) (v : Value) : Prop := (w.cell? ⟨b, 0, none⟩ = some (.int .i64 M) ∧ w.cell? ⟨b, 1, none⟩ = some v) ∧ ∀ j, w.frozen? ⟨b, j, none⟩ = false
theorem own2_alloc (w : World) (M : Int) (v : Value) (T : TypeId) (g : Nat) (hg : g = w.heap.size) : Own2 (w.alloc (.cells #[.int .i64 M, v] T)) g M v := by
 subst hg
 exact ⟨⟨by simp, by simp⟩, fun j => by simp⟩
theorem Own2.lt {w : World} {b : Nat} {M : Int} {v : Value} (h : Own2 w b M v) : b < w.heap.size := World.block_lt_of_cell? w _ h.1.1
theorem Own2.below {w w' : World} {b : Nat} {M : Int} {v : Value} (h : Own2 w b M v) (hb : Below w.heap.size w w') : Own2 w' b M v :=
 ⟨⟨(hb.cell (p := ⟨b, 0, none⟩) h.lt).trans h.1.1, (hb.cell (p := ⟨b, 1, none⟩) h.lt).trans h.1.2⟩, fun j => (hb.frozen (p := ⟨b, j, none⟩) h.lt).trans (h.2 j)⟩
theorem Own2.onl {w w' : World} {b g : Nat} {M : Int} {v : Value} (h : Own2 w g M v) (ho : Onl b w w') (hg : g ≠ b) : Own2 w' g M v :=
 ⟨⟨(ho.cell (p := ⟨g, 0, none⟩) hg h.lt).trans h.1.1, (ho.cell (p := ⟨g, 1, none⟩) hg h.lt).trans h.1.2⟩, fun j => (ho.frozen (p := ⟨g, j, none⟩) hg h.lt).trans (h.2 j)⟩
theorem Own2.set {w : World} {b : Nat} {M : Int} {v : Value} (h : Own2 w b M v) (M' : Int) (v' : Value) : Own2 ((w.setCell ⟨b, 0, none⟩ (.int .i64 M')).setCell ⟨b, 1, none⟩ (v')) b M' v' := by
 obtain ⟨⟨h0, h1⟩, hf⟩ := h
 refine ⟨⟨?_, ?_⟩, fun j => ?_⟩ <;> simp [go_sem, hf, h0, h1]
theorem Own2.set1 {w : World} {b : Nat} {M : Int} {v : Value} (h : Own2 w b M v) (v' : Value) : Own2 (w.setCell ⟨b, 1, none⟩ v') b M v' := by
 obtain ⟨⟨h0, h1⟩, hf⟩ := h
 refine ⟨⟨?_, ?_⟩, fun j => ?_⟩ <;> simp [go_sem, hf, h0, h1]
theorem bel_set2 {B : Nat} {u w : World} {b : Nat} (h : Below B u w) (hB : B ≤ b) (M : Int) (v : Value) : Below B u ((w.setCell ⟨b, 0, none⟩ (.int .i64 M)).setCell ⟨b, 1, none⟩ (v)) := (h.setCell (p := ⟨b, 0, none⟩) hB _).setCell (p := ⟨b, 1, none⟩) hB _
set_option maxHeartbeats 16000000 in
theorem bdone_err (b : Nat) (M : Int) (a : Option Addr) (l c : Nat) (ok : Bool) (at' e0 e1 : Int) (w : World) (h : Rd w b at' e0) (hn : needE e0 ok = e1) (he : e1 ≠ 0) :
  Calls Tryz.prog 115 #[.pointer (some ⟨b, 0, none⟩), .agg #[.int .i64 M, .slice a l c], .bool ok] w fun e w' => e = .returned (.tuple #[.agg #[.int .i64 0, .slice none 0 0], .int .i64 0, .int .i64 e1]) ∧ Onl b w w' := by
 have hne : (e1 == 0) = false := by simpa using he
 have hlt := World.block_lt_of_cell? w _ h.1
 have hb0 : Below w.heap.size w ((w.alloc (.cells #[.int .i64 M, .slice a l c] 45)).alloc (.cells #[.int .i64 0, .slice none 0 0] 45)) := ((Below.refl _ w).alloc (Nat.le_refl _) _).alloc (by simp) _
 have cN := need_any b ok at' e0 ((w.alloc (.cells #[.int .i64 M, .slice a l c] 45)).alloc (.cells #[.int .i64 0, .slice none 0 0] 45)) (h.below hb0)
 rw [hn] at cN
 have OB := Lib.hid (own2_alloc (w.alloc (.cells #[.int .i64 M, .slice a l c] 45)) 0 (.slice none 0 0) 45 (w.heap.size + 1) (by simp))
 have HB := Lib.hid (Onl.of_below b hb0)
 have HL : Hid (b < w.heap.size) := hlt
 clear h hn he hlt hb0
 go_enter Tryz.func115, Tryz.ntmps115
 go_wp2_with (go_at_call 57; refine cN.mono ?_; rintro e w1 ⟨rfl, hR, hO⟩; replace OB := Lib.hid (OB.out.onl hO (by have := HL.out; omega)); replace HB := Lib.hid (HB.out.trans hO); have R := Lib.hid hR; clear hO hR; obtain ⟨z0, z1, zf⟩ := R.out)
 have OB2 := Lib.hid (OB.out.below ((Below.refl _ _).alloc (Nat.le_refl _) (.cells #[.int .i64 0, .slice none 0 0] 45)))
 have OZ := Lib.hid (own2_alloc w1 0 (.slice none 0 0) 45 w1.heap.size rfl)
 have R2 := Lib.hid (R.out.alloc (.cells #[.int .i64 0, .slice none 0 0] 45))
 have HB2 := Lib.hid (HB.out.alloc (.cells #[.int .i64 0, .slice none 0 0] 45))
 have hne2 : Hid (w.heap.size + 1 < w1.heap.size) := OB.out.lt
 clear z0 z1 zf R OB HB
 generalize w1.alloc (.cells #[.int .i64 0, .slice none 0 0] 45) = V at *
 obtain ⟨z0, z1, zf⟩ := R2.out
 obtain ⟨⟨q0, q1⟩, qf⟩ := OZ.out
 obtain ⟨⟨u0, u1⟩, uf⟩ := OB2.out
 have hd1 : b ≠ w.heap.size + 1 := by have := HL.out; omega
 have hd2 : w.heap.size + 1 ≠ b := by have := HL.out; omega
 go_region
 go_wp2_with fail
 have hs := (OB2.out.set 0 (.slice none 0 0)).1
 have hbs := bel_set2 (B := w.heap.size) (Below.refl _ V) (b := w.heap.size + 1) (by omega) 0 (.slice none 0 0)
 generalize ((V.setCell ⟨(w.heap.size + 1), 0, none⟩ (.int .i64 0)).setCell ⟨(w.heap.size + 1), 1, none⟩ (.slice none 0 0)) = W5 at *
 obtain ⟨s0_, s1_⟩ := hs
 exact bodyPost_ret (v := .tuple #[.agg #[.int .i64 0, .slice none 0 0], .int .i64 0, .int .i64 e1]) (by simp [results, Tryz.results115, go_sem, s0_, s1_]) rfl ⟨rfl, HB2.out.then hbs.drew (Nat.le_refl _)⟩
set_option maxHeartbeats 16000000 in
theorem bdone_ok (b : Nat) (M : Int) (a : Option Addr) (l c : Nat) (at' : Int) (w : World) (h : Rd w b at' 0) :
  Calls Tryz.prog 115 #[.pointer (some ⟨b, 0, none⟩), .agg #[.int .i64 M, .slice a l c], .bool true] w fun e w' => e = .returned (.tuple #[.agg #[.int .i64 M, .slice a l c], .int .i64 at', .int .i64 0]) ∧ Onl b w w' := by
 have hlt := World.block_lt_of_cell? w _ h.1
 have hb0 : Below w.heap.size w ((w.alloc (.cells #[.int .i64 M, .slice a l c] 45)).alloc (.cells #[.int .i64 0, .slice none 0 0] 45)) := ((Below.refl _ w).alloc (Nat.le_refl _) _).alloc (by simp) _
 have cN := need_any b true at' 0 ((w.alloc (.cells #[.int .i64 M, .slice a l c] 45)).alloc (.cells #[.int .i64 0, .slice none 0 0] 45)) (h.below hb0)
 rw [show needE 0 true = 0 from rfl] at cN
 have OA := Lib.hid ((own2_alloc w M (.slice a l c) 45 w.heap.size rfl).below ((Below.refl _ _).alloc (Nat.le_refl _) (.cells #[.int .i64 0, .slice none 0 0] 45)))
 have OB := Lib.hid (own2_alloc (w.alloc (.cells #[.int .i64 M, .slice a l c] 45)) 0 (.slice none 0 0) 45 (w.heap.size + 1) (by simp))
 have HB := Lib.hid (Onl.of_below b hb0)
 have HL : Hid (b < w.heap.size) := hlt
 clear h hlt hb0
 go_enter Tryz.func115, Tryz.ntmps115
 go_wp2_with (go_at_call 57; refine cN.mono ?_; rintro e w1 ⟨rfl, hR, hO⟩; replace OB := Lib.hid (OB.out.onl hO (by have := HL.out; omega)); replace OA := Lib.hid (OA.out.onl hO (by have := HL.out; omega)); replace HB := Lib.hid (HB.out.trans hO); have R := Lib.hid hR; clear hO hR; obtain ⟨z0, z1, zf⟩ := R.out)
 obtain ⟨⟨q0, q1⟩, qf⟩ := OA.out
 obtain ⟨⟨u0, u1⟩, uf⟩ := OB.out
 have hd1 : b ≠ w.heap.size + 1 := by have := HL.out; omega
 have hd2 : w.heap.size + 1 ≠ b := by have := HL.out; omega
 go_region
 go_wp2_with fail
 have hs := (OB.out.set M (.slice a l c)).1
 have hbs := bel_set2 (B := w.heap.size) (Below.refl _ w1) (b := w.heap.size + 1) (by omega) M (.slice a l c)
 generalize ((w1.setCell ⟨(w.heap.size + 1), 0, none⟩ (.int .i64 M)).setCell ⟨(w.heap.size + 1), 1, none⟩ (.slice a l c)) = W5 at *
 obtain ⟨s0_, s1_⟩ := hs
 exact bodyPost_ret (v := .tuple #[.agg #[.int .i64 M, .slice a l c], .int .i64 at', .int .i64 0]) (by simp [results, Tryz.results115, go_sem, s0_, s1_]) rfl ⟨rfl, HB.out.then hbs.drew (Nat.le_refl _)⟩
def bdV (e0 : Int) (ok : Bool) (M : Int) (a : Option Addr) (l c : Nat) (at' : Int) : Value :=
 if needE e0 ok = 0 then .tuple #[.agg #[.int .i64 M, .slice a l c], .int .i64 at', .int .i64 0] else .tuple #[.agg #[.int .i64 0, .slice none 0 0], .int .i64 0, .int .i64 (needE e0 ok)]
theorem bdone_any (b : Nat) (M : Int) (a : Option Addr) (l c : Nat) (ok : Bool) (at' e0 : Int) (w : World) (h : Rd w b at' e0) :
  Calls Tryz.prog 115 #[.pointer (some ⟨b, 0, none⟩), .agg #[.int .i64 M, .slice a l c], .bool ok] w fun e w' => e = .returned (bdV e0 ok M a l c at') ∧ Onl b w w' := by
 unfold bdV
 by_cases he : needE e0 ok = 0
 ·rw [if_pos he]
  have h0 : e0 = 0 := by unfold needE at he; split at he <;> omega
  subst h0
  have h1 : ok = true := by cases ok with
   | true => rfl
   | false => simp [needE] at he
  subst h1
  exact bdone_ok b M a l c at' w h
 ·rw [if_neg he]
  exact bdone_err b M a l c ok at' e0 _ w h rfl he
end Go.Proofs.YtjghebcnmoojmaaGreat

namespace Go.Proofs.YtjghebcnmoojmaaGreat
set_option maxRecDepth 100000
open Go.RowKit

set_option maxHeartbeats 16000000 in
theorem edone_err (b : Nat) (M : Int) (a : Option Addr) (l c : Nat) (ok : Bool) (at' e0 e1 : Int) (w : World) (h : Rd w b at' e0) (hn : needE e0 ok = e1) (he : e1 ≠ 0) :
  Calls Tryz.prog 111 #[.pointer (some ⟨b, 0, none⟩), .agg #[.int .i64 M, .slice a l c], .bool ok] w fun e w' => e = .returned (.tuple #[.agg #[.int .i64 0, .slice none 0 0], .int .i64 0, .int .i64 e1]) ∧ Onl b w w' := by
 have hne : (e1 == 0) = false := by simpa using he
 have hlt := World.block_lt_of_cell? w _ h.1
 have hb0 : Below w.heap.size w ((w.alloc (.cells #[.int .i64 M, .slice a l c] 42)).alloc (.cells #[.int .i64 0, .slice none 0 0] 42)) := ((Below.refl _ w).alloc (Nat.le_refl _) _).alloc (by simp) _
 have cN := need_any b ok at' e0 ((w.alloc (.cells #[.int .i64 M, .slice a l c] 42)).alloc (.cells #[.int .i64 0, .slice none 0 0] 42)) (h.below hb0)
 rw [hn] at cN
 have OB := Lib.hid (own2_alloc (w.alloc (.cells #[.int .i64 M, .slice a l c] 42)) 0 (.slice none 0 0) 42 (w.heap.size + 1) (by simp))
 have HB := Lib.hid (Onl.of_below b hb0)
 have HL : Hid (b < w.heap.size) := hlt
 clear h hn he hlt hb0
 go_enter Tryz.func111, Tryz.ntmps111
 go_wp2_with (go_at_call 57; refine cN.mono ?_; rintro e w1 ⟨rfl, hR, hO⟩; replace OB := Lib.hid (OB.out.onl hO (by have := HL.out; omega)); replace HB := Lib.hid (HB.out.trans hO); have R := Lib.hid hR; clear hO hR; obtain ⟨z0, z1, zf⟩ := R.out)
 have OB2 := Lib.hid (OB.out.below ((Below.refl _ _).alloc (Nat.le_refl _) (.cells #[.int .i64 0, .slice none 0 0] 42)))
 have OZ := Lib.hid (own2_alloc w1 0 (.slice none 0 0) 42 w1.heap.size rfl)
 have R2 := Lib.hid (R.out.alloc (.cells #[.int .i64 0, .slice none 0 0] 42))
 have HB2 := Lib.hid (HB.out.alloc (.cells #[.int .i64 0, .slice none 0 0] 42))
 have hne2 : Hid (w.heap.size + 1 < w1.heap.size) := OB.out.lt
 clear z0 z1 zf R OB HB
 generalize w1.alloc (.cells #[.int .i64 0, .slice none 0 0] 42) = V at *
 obtain ⟨z0, z1, zf⟩ := R2.out
 obtain ⟨⟨q0, q1⟩, qf⟩ := OZ.out
 obtain ⟨⟨u0, u1⟩, uf⟩ := OB2.out
 have hd1 : b ≠ w.heap.size + 1 := by have := HL.out; omega
 have hd2 : w.heap.size + 1 ≠ b := by have := HL.out; omega
 go_region
 go_wp2_with fail
 have hs := (OB2.out.set 0 (.slice none 0 0)).1
 have hbs := bel_set2 (B := w.heap.size) (Below.refl _ V) (b := w.heap.size + 1) (by omega) 0 (.slice none 0 0)
 generalize ((V.setCell ⟨(w.heap.size + 1), 0, none⟩ (.int .i64 0)).setCell ⟨(w.heap.size + 1), 1, none⟩ (.slice none 0 0)) = W5 at *
 obtain ⟨s0_, s1_⟩ := hs
 exact bodyPost_ret (v := .tuple #[.agg #[.int .i64 0, .slice none 0 0], .int .i64 0, .int .i64 e1]) (by simp [results, Tryz.results111, go_sem, s0_, s1_]) rfl ⟨rfl, HB2.out.then hbs.drew (Nat.le_refl _)⟩
set_option maxHeartbeats 16000000 in
theorem edone_ok (b : Nat) (M : Int) (a : Option Addr) (l c : Nat) (at' : Int) (w : World) (h : Rd w b at' 0) :
  Calls Tryz.prog 111 #[.pointer (some ⟨b, 0, none⟩), .agg #[.int .i64 M, .slice a l c], .bool true] w fun e w' => e = .returned (.tuple #[.agg #[.int .i64 M, .slice a l c], .int .i64 at', .int .i64 0]) ∧ Onl b w w' := by
 have hlt := World.block_lt_of_cell? w _ h.1
 have hb0 : Below w.heap.size w ((w.alloc (.cells #[.int .i64 M, .slice a l c] 42)).alloc (.cells #[.int .i64 0, .slice none 0 0] 42)) := ((Below.refl _ w).alloc (Nat.le_refl _) _).alloc (by simp) _
 have cN := need_any b true at' 0 ((w.alloc (.cells #[.int .i64 M, .slice a l c] 42)).alloc (.cells #[.int .i64 0, .slice none 0 0] 42)) (h.below hb0)
 rw [show needE 0 true = 0 from rfl] at cN
 have OA := Lib.hid ((own2_alloc w M (.slice a l c) 42 w.heap.size rfl).below ((Below.refl _ _).alloc (Nat.le_refl _) (.cells #[.int .i64 0, .slice none 0 0] 42)))
 have OB := Lib.hid (own2_alloc (w.alloc (.cells #[.int .i64 M, .slice a l c] 42)) 0 (.slice none 0 0) 42 (w.heap.size + 1) (by simp))
 have HB := Lib.hid (Onl.of_below b hb0)
 have HL : Hid (b < w.heap.size) := hlt
 clear h hlt hb0
 go_enter Tryz.func111, Tryz.ntmps111
 go_wp2_with (go_at_call 57; refine cN.mono ?_; rintro e w1 ⟨rfl, hR, hO⟩; replace OB := Lib.hid (OB.out.onl hO (by have := HL.out; omega)); replace OA := Lib.hid (OA.out.onl hO (by have := HL.out; omega)); replace HB := Lib.hid (HB.out.trans hO); have R := Lib.hid hR; clear hO hR; obtain ⟨z0, z1, zf⟩ := R.out)
 obtain ⟨⟨q0, q1⟩, qf⟩ := OA.out
 obtain ⟨⟨u0, u1⟩, uf⟩ := OB.out
 have hd1 : b ≠ w.heap.size + 1 := by have := HL.out; omega
 have hd2 : w.heap.size + 1 ≠ b := by have := HL.out; omega
 go_region
 go_wp2_with fail
 have hs := (OB.out.set M (.slice a l c)).1
 have hbs := bel_set2 (B := w.heap.size) (Below.refl _ w1) (b := w.heap.size + 1) (by omega) M (.slice a l c)
 generalize ((w1.setCell ⟨(w.heap.size + 1), 0, none⟩ (.int .i64 M)).setCell ⟨(w.heap.size + 1), 1, none⟩ (.slice a l c)) = W5 at *
 obtain ⟨s0_, s1_⟩ := hs
 exact bodyPost_ret (v := .tuple #[.agg #[.int .i64 M, .slice a l c], .int .i64 at', .int .i64 0]) (by simp [results, Tryz.results111, go_sem, s0_, s1_]) rfl ⟨rfl, HB.out.then hbs.drew (Nat.le_refl _)⟩
theorem edone_any (b : Nat) (M : Int) (a : Option Addr) (l c : Nat) (ok : Bool) (at' e0 : Int) (w : World) (h : Rd w b at' e0) :
  Calls Tryz.prog 111 #[.pointer (some ⟨b, 0, none⟩), .agg #[.int .i64 M, .slice a l c], .bool ok] w fun e w' => e = .returned (bdV e0 ok M a l c at') ∧ Onl b w w' := by
 unfold bdV
 by_cases he : needE e0 ok = 0
 ·rw [if_pos he]
  have h0 : e0 = 0 := by unfold needE at he; split at he <;> omega
  subst h0
  have h1 : ok = true := by cases ok with
   | true => rfl
   | false => simp [needE] at he
  subst h1
  exact edone_ok b M a l c at' w h
 ·rw [if_neg he]
  exact edone_err b M a l c ok at' e0 _ w h rfl he
end Go.Proofs.YtjghebcnmoojmaaGreat
