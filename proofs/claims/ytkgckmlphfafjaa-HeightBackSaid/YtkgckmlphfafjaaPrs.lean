/- A height read out of bytes: rows of five, and the whole. No conditions. -/
import Derived.Test.YtkgckmlphfafjaaPar
namespace Go.Proofs.Ytkgckmlphfafjaa
open Go.RowKit Go.Sort

set_option maxHeartbeats 8000000 in
theorem parse_row_err (a : Option Addr) (l c : Nat) (at' : Int) (xs : List Int) (w : World) (hv0 : Bs w (.slice a l c) xs) (s1 e1 t s2 e2 o s3 e3 r s4 e4 d s5 e5 i s6 e6 : Int) (hc1 : shortS xs (at', 0) = (1, s1, e1)) (hc2 : longS xs (s1, e1) = (t, s2, e2)) (hc3 : shortS xs (s2, e2) = (o, s3, e3)) (hc4 : shortS xs (s3, e3) = (r, s4, e4)) (hc5 : longS xs (s4, e4) = (d, s5, e5)) (hc6 : shortS xs (s5, e5) = (i, s6, e6)) (he : e6 ≠ 0) :
    Calls Try.prog 27 #[.slice a l c, .int .i64 at'] w fun e w' => e = .returned (.tuple #[.agg #[.bool false, .int .i64 0, .int .i64 0, .int .i64 0, .int .i64 0, .int .i64 0], .int .i64 0, .int .i64 e6]) ∧ Below w.heap.size w w' := by
  have hv := Lib.hid hv0
  clear hv0
  have c1 : ∀ V, Rd V (w.heap.size + 1) (.slice a l c) at' 0 → Bs V (.slice a l c) xs → Calls Try.prog 41 #[.pointer (some ⟨(w.heap.size + 1), 0, none⟩)] V fun e w' => e = .returned (.int .i64 1) ∧ Rd w' (w.heap.size + 1) (.slice a l c) s1 e1 ∧ Only (w.heap.size + 1) V w' := fun V h hv => by
    have h := short_any (w.heap.size + 1) (.slice a l c) at' 0 xs V h hv
    rw [hc1] at h
    exact h
  have c2 : ∀ V, Rd V (w.heap.size + 1) (.slice a l c) s1 e1 → Bs V (.slice a l c) xs → Calls Try.prog 42 #[.pointer (some ⟨(w.heap.size + 1), 0, none⟩)] V fun e w' => e = .returned (.int .i64 t) ∧ Rd w' (w.heap.size + 1) (.slice a l c) s2 e2 ∧ Only (w.heap.size + 1) V w' := fun V h hv => by
    have h := long_any (w.heap.size + 1) (.slice a l c) s1 e1 xs V h hv
    rw [hc2] at h
    exact h
  have c3 : ∀ V, Rd V (w.heap.size + 1) (.slice a l c) s2 e2 → Bs V (.slice a l c) xs → Calls Try.prog 41 #[.pointer (some ⟨(w.heap.size + 1), 0, none⟩)] V fun e w' => e = .returned (.int .i64 o) ∧ Rd w' (w.heap.size + 1) (.slice a l c) s3 e3 ∧ Only (w.heap.size + 1) V w' := fun V h hv => by
    have h := short_any (w.heap.size + 1) (.slice a l c) s2 e2 xs V h hv
    rw [hc3] at h
    exact h
  have c4 : ∀ V, Rd V (w.heap.size + 1) (.slice a l c) s3 e3 → Bs V (.slice a l c) xs → Calls Try.prog 41 #[.pointer (some ⟨(w.heap.size + 1), 0, none⟩)] V fun e w' => e = .returned (.int .i64 r) ∧ Rd w' (w.heap.size + 1) (.slice a l c) s4 e4 ∧ Only (w.heap.size + 1) V w' := fun V h hv => by
    have h := short_any (w.heap.size + 1) (.slice a l c) s3 e3 xs V h hv
    rw [hc4] at h
    exact h
  have c5 : ∀ V, Rd V (w.heap.size + 1) (.slice a l c) s4 e4 → Bs V (.slice a l c) xs → Calls Try.prog 42 #[.pointer (some ⟨(w.heap.size + 1), 0, none⟩)] V fun e w' => e = .returned (.int .i64 d) ∧ Rd w' (w.heap.size + 1) (.slice a l c) s5 e5 ∧ Only (w.heap.size + 1) V w' := fun V h hv => by
    have h := long_any (w.heap.size + 1) (.slice a l c) s4 e4 xs V h hv
    rw [hc5] at h
    exact h
  have c6 : ∀ V, Rd V (w.heap.size + 1) (.slice a l c) s5 e5 → Bs V (.slice a l c) xs → Calls Try.prog 41 #[.pointer (some ⟨(w.heap.size + 1), 0, none⟩)] V fun e w' => e = .returned (.int .i64 i) ∧ Rd w' (w.heap.size + 1) (.slice a l c) s6 e6 ∧ Only (w.heap.size + 1) V w' := fun V h hv => by
    have h := short_any (w.heap.size + 1) (.slice a l c) s5 e5 xs V h hv
    rw [hc6] at h
    exact h
  clear hc1 hc2 hc3 hc4 hc5 hc6
  have hne : (e6 == 0) = false := by simpa using he
  have HE := Lib.hid he
  clear he
  go_enter Try.func27, Try.ntmps27
  go_wp2_with fail
  have OR := Lib.hid (((own6_alloc w false 0 0 0 0 0 23 w.heap.size rfl).below ((Below.refl _ _).alloc (Nat.le_refl _) _)).below ((Below.refl _ _).alloc (Nat.le_refl _) _) : Own6 (((w.alloc (.cells #[.bool false, .int .i64 0, .int .i64 0, .int .i64 0, .int .i64 0, .int .i64 0] 23)).alloc (.cells #[.slice a l c, .int .i64 at', .int .i64 0] 59)).alloc (.cells #[.bool false, .int .i64 0, .int .i64 0, .int .i64 0, .int .i64 0, .int .i64 0] 23)) w.heap.size false 0 0 0 0 0)
  have OH := Lib.hid (own6_alloc ((w.alloc (.cells #[.bool false, .int .i64 0, .int .i64 0, .int .i64 0, .int .i64 0, .int .i64 0] 23)).alloc (.cells #[.slice a l c, .int .i64 at', .int .i64 0] 59)) false 0 0 0 0 0 23 (w.heap.size + 1 + 1) (by simp))
  have R := Lib.hid (rd_alloc w (.slice a l c) at' (.cells #[.bool false, .int .i64 0, .int .i64 0, .int .i64 0, .int .i64 0, .int .i64 0] 23) (.cells #[.bool false, .int .i64 0, .int .i64 0, .int .i64 0, .int .i64 0, .int .i64 0] 23))
  have HB : Hid (Below w.heap.size w (((w.alloc (.cells #[.bool false, .int .i64 0, .int .i64 0, .int .i64 0, .int .i64 0, .int .i64 0] 23)).alloc (.cells #[.slice a l c, .int .i64 at', .int .i64 0] 59)).alloc (.cells #[.bool false, .int .i64 0, .int .i64 0, .int .i64 0, .int .i64 0, .int .i64 0] 23))) := (((Below.refl _ w).alloc (Nat.le_refl _) _).alloc (by simp) _).alloc (by simp; omega) _
  generalize (((w.alloc (.cells #[.bool false, .int .i64 0, .int .i64 0, .int .i64 0, .int .i64 0, .int .i64 0] 23)).alloc (.cells #[.slice a l c, .int .i64 at', .int .i64 0] 59)).alloc (.cells #[.bool false, .int .i64 0, .int .i64 0, .int .i64 0, .int .i64 0, .int .i64 0] 23)) = V0 at *
  obtain ⟨⟨q0, q1, q2, q3, q4, q5⟩, qf⟩ := OH.out
  obtain ⟨⟨u0, u1, u2, u3, u4, u5⟩, uf⟩ := OR.out
  go_wp2_with (first
    | (go_at_call 41; have o1 : Only (w.heap.size + 1 + 1) V5 ((((((V5.setCell ⟨(w.heap.size + 1 + 1), 0, none⟩ (.bool false)).setCell ⟨(w.heap.size + 1 + 1), 1, none⟩ (.int .i64 t)).setCell ⟨(w.heap.size + 1 + 1), 2, none⟩ (.int .i64 o)).setCell ⟨(w.heap.size + 1 + 1), 3, none⟩ (.int .i64 r)).setCell ⟨(w.heap.size + 1 + 1), 4, none⟩ (.int .i64 d)).setCell ⟨(w.heap.size + 1 + 1), 5, none⟩ (.int .i64 0)) := ((((((Only.refl _ _).set 0 _).set 1 _).set 2 _).set 3 _).set 4 _).set 5 _; refine (c6 _ (R.out.only o1 (by omega)) (Bs_below hv.out (HB.out.trans (o1.below (by omega))))).mono ?_; rintro e V6 ⟨rfl, hR, ho⟩; replace OH := Lib.hid ((OH.out.set false t o r d 0).only ho (by omega)); replace OR := Lib.hid ((OR.out.only o1 (by omega)).only ho (by omega)); replace HB := Lib.hid ((HB.out.trans (o1.below (by omega))).trans (ho.below (by omega))); replace R := Lib.hid hR; clear ho hR o1; clear q0 q1 q2 q3 q4 q5 qf u0 u1 u2 u3 u4 u5 uf z0 z1 z2 zf; obtain ⟨⟨q0, q1, q2, q3, q4, q5⟩, qf⟩ := OH.out; obtain ⟨⟨u0, u1, u2, u3, u4, u5⟩, uf⟩ := OR.out; obtain ⟨z0, z1, z2, zf⟩ := R.out)
    | (go_at_call 41; refine (c1 _ R.out (Bs_below hv.out HB.out)).mono ?_; rintro e V1 ⟨rfl, hR, ho⟩; replace OH := Lib.hid (OH.out.only ho (by omega)); replace OR := Lib.hid (OR.out.only ho (by omega)); replace HB := Lib.hid (HB.out.trans (ho.below (by omega))); replace R := Lib.hid hR; clear ho hR; clear q0 q1 q2 q3 q4 q5 qf u0 u1 u2 u3 u4 u5 uf; obtain ⟨⟨q0, q1, q2, q3, q4, q5⟩, qf⟩ := OH.out; obtain ⟨⟨u0, u1, u2, u3, u4, u5⟩, uf⟩ := OR.out; obtain ⟨z0, z1, z2, zf⟩ := R.out)
    | (go_at_call 42; refine (c2 _ R.out (Bs_below hv.out HB.out)).mono ?_; rintro e V2 ⟨rfl, hR, ho⟩; replace OH := Lib.hid (OH.out.only ho (by omega)); replace OR := Lib.hid (OR.out.only ho (by omega)); replace HB := Lib.hid (HB.out.trans (ho.below (by omega))); replace R := Lib.hid hR; clear ho hR; clear q0 q1 q2 q3 q4 q5 qf u0 u1 u2 u3 u4 u5 uf z0 z1 z2 zf; obtain ⟨⟨q0, q1, q2, q3, q4, q5⟩, qf⟩ := OH.out; obtain ⟨⟨u0, u1, u2, u3, u4, u5⟩, uf⟩ := OR.out; obtain ⟨z0, z1, z2, zf⟩ := R.out)
    | (go_at_call 41; refine (c3 _ R.out (Bs_below hv.out HB.out)).mono ?_; rintro e V3 ⟨rfl, hR, ho⟩; replace OH := Lib.hid (OH.out.only ho (by omega)); replace OR := Lib.hid (OR.out.only ho (by omega)); replace HB := Lib.hid (HB.out.trans (ho.below (by omega))); replace R := Lib.hid hR; clear ho hR; clear q0 q1 q2 q3 q4 q5 qf u0 u1 u2 u3 u4 u5 uf z0 z1 z2 zf; obtain ⟨⟨q0, q1, q2, q3, q4, q5⟩, qf⟩ := OH.out; obtain ⟨⟨u0, u1, u2, u3, u4, u5⟩, uf⟩ := OR.out; obtain ⟨z0, z1, z2, zf⟩ := R.out)
    | (go_at_call 41; refine (c4 _ R.out (Bs_below hv.out HB.out)).mono ?_; rintro e V4 ⟨rfl, hR, ho⟩; replace OH := Lib.hid (OH.out.only ho (by omega)); replace OR := Lib.hid (OR.out.only ho (by omega)); replace HB := Lib.hid (HB.out.trans (ho.below (by omega))); replace R := Lib.hid hR; clear ho hR; clear q0 q1 q2 q3 q4 q5 qf u0 u1 u2 u3 u4 u5 uf z0 z1 z2 zf; obtain ⟨⟨q0, q1, q2, q3, q4, q5⟩, qf⟩ := OH.out; obtain ⟨⟨u0, u1, u2, u3, u4, u5⟩, uf⟩ := OR.out; obtain ⟨z0, z1, z2, zf⟩ := R.out)
    | (go_at_call 42; refine (c5 _ R.out (Bs_below hv.out HB.out)).mono ?_; rintro e V5 ⟨rfl, hR, ho⟩; replace OH := Lib.hid (OH.out.only ho (by omega)); replace OR := Lib.hid (OR.out.only ho (by omega)); replace HB := Lib.hid (HB.out.trans (ho.below (by omega))); replace R := Lib.hid hR; clear ho hR; clear q0 q1 q2 q3 q4 q5 qf u0 u1 u2 u3 u4 u5 uf z0 z1 z2 zf; obtain ⟨⟨q0, q1, q2, q3, q4, q5⟩, qf⟩ := OH.out; obtain ⟨⟨u0, u1, u2, u3, u4, u5⟩, uf⟩ := OR.out; obtain ⟨z0, z1, z2, zf⟩ := R.out))
  have o2 : Only (w.heap.size + 1 + 1) V6 (V6.setCell ⟨(w.heap.size + 1 + 1), 5, none⟩ (.int .i64 i)) := (Only.refl _ _).set 5 _
  replace OR := Lib.hid (OR.out.only o2 (by omega))
  replace R := Lib.hid (R.out.only o2 (by omega))
  replace HB := Lib.hid (HB.out.trans (o2.below (by omega)))
  clear o2
  clear q0 q1 q2 q3 q4 q5 qf u0 u1 u2 u3 u4 u5 uf z0 z1 z2 zf
  obtain ⟨⟨u0, u1, u2, u3, u4, u5⟩, uf⟩ := OR.out
  obtain ⟨z0, z1, z2, zf⟩ := R.out
  generalize V6.setCell ⟨(w.heap.size + 1 + 1), 5, none⟩ (.int .i64 i) = V9 at *
  go_region
  go_wp2_with fail
  have hs := set6 OR.out.1 false 0 0 0 0 0
  have hbs := bel_set6 (b := w.heap.size) HB.out (Nat.le_refl _) false 0 0 0 0 0
  generalize ((((((V9.setCell ⟨w.heap.size, 0, none⟩ (.bool false)).setCell ⟨w.heap.size, 1, none⟩ (.int .i64 0)).setCell ⟨w.heap.size, 2, none⟩ (.int .i64 0)).setCell ⟨w.heap.size, 3, none⟩ (.int .i64 0)).setCell ⟨w.heap.size, 4, none⟩ (.int .i64 0)).setCell ⟨w.heap.size, 5, none⟩ (.int .i64 0)) = W5 at *
  obtain ⟨s0_, s1_, s2_, s3_, s4_, s5_⟩ := hs
  exact bodyPost_ret (v := .tuple #[.agg #[.bool false, .int .i64 0, .int .i64 0, .int .i64 0, .int .i64 0, .int .i64 0], .int .i64 0, .int .i64 e6]) (by simp [results, Try.results27, go_sem, s0_, s1_, s2_, s3_, s4_, s5_]) rfl ⟨rfl, hbs.drew⟩

set_option maxHeartbeats 8000000 in
theorem parse_row_bad (a : Option Addr) (l c : Nat) (at' : Int) (xs : List Int) (w : World) (hv0 : Bs w (.slice a l c) xs) (s1 e1 t s2 e2 o s3 e3 r s4 e4 d s5 e5 i s6 : Int) (hc1 : shortS xs (at', 0) = (1, s1, e1)) (hc2 : longS xs (s1, e1) = (t, s2, e2)) (hc3 : shortS xs (s2, e2) = (o, s3, e3)) (hc4 : shortS xs (s3, e3) = (r, s4, e4)) (hc5 : longS xs (s4, e4) = (d, s5, e5)) (hc6 : shortS xs (s5, e5) = (i, s6, 0)) (hq : chk false t o r d i = 1) :
    Calls Try.prog 27 #[.slice a l c, .int .i64 at'] w fun e w' => e = .returned (.tuple #[.agg #[.bool false, .int .i64 0, .int .i64 0, .int .i64 0, .int .i64 0, .int .i64 0], .int .i64 0, .int .i64 4]) ∧ Below w.heap.size w w' := by
  have hv := Lib.hid hv0
  clear hv0
  have c1 : ∀ V, Rd V (w.heap.size + 1) (.slice a l c) at' 0 → Bs V (.slice a l c) xs → Calls Try.prog 41 #[.pointer (some ⟨(w.heap.size + 1), 0, none⟩)] V fun e w' => e = .returned (.int .i64 1) ∧ Rd w' (w.heap.size + 1) (.slice a l c) s1 e1 ∧ Only (w.heap.size + 1) V w' := fun V h hv => by
    have h := short_any (w.heap.size + 1) (.slice a l c) at' 0 xs V h hv
    rw [hc1] at h
    exact h
  have c2 : ∀ V, Rd V (w.heap.size + 1) (.slice a l c) s1 e1 → Bs V (.slice a l c) xs → Calls Try.prog 42 #[.pointer (some ⟨(w.heap.size + 1), 0, none⟩)] V fun e w' => e = .returned (.int .i64 t) ∧ Rd w' (w.heap.size + 1) (.slice a l c) s2 e2 ∧ Only (w.heap.size + 1) V w' := fun V h hv => by
    have h := long_any (w.heap.size + 1) (.slice a l c) s1 e1 xs V h hv
    rw [hc2] at h
    exact h
  have c3 : ∀ V, Rd V (w.heap.size + 1) (.slice a l c) s2 e2 → Bs V (.slice a l c) xs → Calls Try.prog 41 #[.pointer (some ⟨(w.heap.size + 1), 0, none⟩)] V fun e w' => e = .returned (.int .i64 o) ∧ Rd w' (w.heap.size + 1) (.slice a l c) s3 e3 ∧ Only (w.heap.size + 1) V w' := fun V h hv => by
    have h := short_any (w.heap.size + 1) (.slice a l c) s2 e2 xs V h hv
    rw [hc3] at h
    exact h
  have c4 : ∀ V, Rd V (w.heap.size + 1) (.slice a l c) s3 e3 → Bs V (.slice a l c) xs → Calls Try.prog 41 #[.pointer (some ⟨(w.heap.size + 1), 0, none⟩)] V fun e w' => e = .returned (.int .i64 r) ∧ Rd w' (w.heap.size + 1) (.slice a l c) s4 e4 ∧ Only (w.heap.size + 1) V w' := fun V h hv => by
    have h := short_any (w.heap.size + 1) (.slice a l c) s3 e3 xs V h hv
    rw [hc4] at h
    exact h
  have c5 : ∀ V, Rd V (w.heap.size + 1) (.slice a l c) s4 e4 → Bs V (.slice a l c) xs → Calls Try.prog 42 #[.pointer (some ⟨(w.heap.size + 1), 0, none⟩)] V fun e w' => e = .returned (.int .i64 d) ∧ Rd w' (w.heap.size + 1) (.slice a l c) s5 e5 ∧ Only (w.heap.size + 1) V w' := fun V h hv => by
    have h := long_any (w.heap.size + 1) (.slice a l c) s4 e4 xs V h hv
    rw [hc5] at h
    exact h
  have c6 : ∀ V, Rd V (w.heap.size + 1) (.slice a l c) s5 e5 → Bs V (.slice a l c) xs → Calls Try.prog 41 #[.pointer (some ⟨(w.heap.size + 1), 0, none⟩)] V fun e w' => e = .returned (.int .i64 i) ∧ Rd w' (w.heap.size + 1) (.slice a l c) s6 0 ∧ Only (w.heap.size + 1) V w' := fun V h hv => by
    have h := short_any (w.heap.size + 1) (.slice a l c) s5 e5 xs V h hv
    rw [hc6] at h
    exact h
  clear hc1 hc2 hc3 hc4 hc5 hc6
  go_enter Try.func27, Try.ntmps27
  go_wp2_with fail
  have OR := Lib.hid (((own6_alloc w false 0 0 0 0 0 23 w.heap.size rfl).below ((Below.refl _ _).alloc (Nat.le_refl _) _)).below ((Below.refl _ _).alloc (Nat.le_refl _) _) : Own6 (((w.alloc (.cells #[.bool false, .int .i64 0, .int .i64 0, .int .i64 0, .int .i64 0, .int .i64 0] 23)).alloc (.cells #[.slice a l c, .int .i64 at', .int .i64 0] 59)).alloc (.cells #[.bool false, .int .i64 0, .int .i64 0, .int .i64 0, .int .i64 0, .int .i64 0] 23)) w.heap.size false 0 0 0 0 0)
  have OH := Lib.hid (own6_alloc ((w.alloc (.cells #[.bool false, .int .i64 0, .int .i64 0, .int .i64 0, .int .i64 0, .int .i64 0] 23)).alloc (.cells #[.slice a l c, .int .i64 at', .int .i64 0] 59)) false 0 0 0 0 0 23 (w.heap.size + 1 + 1) (by simp))
  have R := Lib.hid (rd_alloc w (.slice a l c) at' (.cells #[.bool false, .int .i64 0, .int .i64 0, .int .i64 0, .int .i64 0, .int .i64 0] 23) (.cells #[.bool false, .int .i64 0, .int .i64 0, .int .i64 0, .int .i64 0, .int .i64 0] 23))
  have HB : Hid (Below w.heap.size w (((w.alloc (.cells #[.bool false, .int .i64 0, .int .i64 0, .int .i64 0, .int .i64 0, .int .i64 0] 23)).alloc (.cells #[.slice a l c, .int .i64 at', .int .i64 0] 59)).alloc (.cells #[.bool false, .int .i64 0, .int .i64 0, .int .i64 0, .int .i64 0, .int .i64 0] 23))) := (((Below.refl _ w).alloc (Nat.le_refl _) _).alloc (by simp) _).alloc (by simp; omega) _
  generalize (((w.alloc (.cells #[.bool false, .int .i64 0, .int .i64 0, .int .i64 0, .int .i64 0, .int .i64 0] 23)).alloc (.cells #[.slice a l c, .int .i64 at', .int .i64 0] 59)).alloc (.cells #[.bool false, .int .i64 0, .int .i64 0, .int .i64 0, .int .i64 0, .int .i64 0] 23)) = V0 at *
  obtain ⟨⟨q0, q1, q2, q3, q4, q5⟩, qf⟩ := OH.out
  obtain ⟨⟨u0, u1, u2, u3, u4, u5⟩, uf⟩ := OR.out
  go_wp2_with (first
    | (go_at_call 12; have o2 : Only (w.heap.size + 1 + 1) V6 (V6.setCell ⟨(w.heap.size + 1 + 1), 5, none⟩ (.int .i64 i)) := (Only.refl _ _).set 5 _; refine (check_any _ _ _ _ _ _ _).mono ?_; rintro e V9 ⟨rfl, hb⟩; rw [hq]; replace OH := Lib.hid ((OH.out.seti i).below hb); replace OR := Lib.hid ((OR.out.only o2 (by omega)).below hb); replace HB := Lib.hid ((HB.out.trans (o2.below (by omega))).trans (hb.mono (Nat.le_trans HB.out.size (Nat.le_of_eq o2.size.symm)))); replace R := Lib.hid ((R.out.only o2 (by omega)).below hb); clear hb o2; clear q0 q1 q2 q3 q4 q5 qf u0 u1 u2 u3 u4 u5 uf z0 z1 z2 zf; obtain ⟨⟨q0, q1, q2, q3, q4, q5⟩, qf⟩ := OH.out; obtain ⟨⟨u0, u1, u2, u3, u4, u5⟩, uf⟩ := OR.out; obtain ⟨z0, z1, z2, zf⟩ := R.out)
    | (go_at_call 41; have o1 : Only (w.heap.size + 1 + 1) V5 ((((((V5.setCell ⟨(w.heap.size + 1 + 1), 0, none⟩ (.bool false)).setCell ⟨(w.heap.size + 1 + 1), 1, none⟩ (.int .i64 t)).setCell ⟨(w.heap.size + 1 + 1), 2, none⟩ (.int .i64 o)).setCell ⟨(w.heap.size + 1 + 1), 3, none⟩ (.int .i64 r)).setCell ⟨(w.heap.size + 1 + 1), 4, none⟩ (.int .i64 d)).setCell ⟨(w.heap.size + 1 + 1), 5, none⟩ (.int .i64 0)) := ((((((Only.refl _ _).set 0 _).set 1 _).set 2 _).set 3 _).set 4 _).set 5 _; refine (c6 _ (R.out.only o1 (by omega)) (Bs_below hv.out (HB.out.trans (o1.below (by omega))))).mono ?_; rintro e V6 ⟨rfl, hR, ho⟩; replace OH := Lib.hid ((OH.out.set false t o r d 0).only ho (by omega)); replace OR := Lib.hid ((OR.out.only o1 (by omega)).only ho (by omega)); replace HB := Lib.hid ((HB.out.trans (o1.below (by omega))).trans (ho.below (by omega))); replace R := Lib.hid hR; clear ho hR o1; clear q0 q1 q2 q3 q4 q5 qf u0 u1 u2 u3 u4 u5 uf z0 z1 z2 zf; obtain ⟨⟨q0, q1, q2, q3, q4, q5⟩, qf⟩ := OH.out; obtain ⟨⟨u0, u1, u2, u3, u4, u5⟩, uf⟩ := OR.out; obtain ⟨z0, z1, z2, zf⟩ := R.out)
    | (go_at_call 41; refine (c1 _ R.out (Bs_below hv.out HB.out)).mono ?_; rintro e V1 ⟨rfl, hR, ho⟩; replace OH := Lib.hid (OH.out.only ho (by omega)); replace OR := Lib.hid (OR.out.only ho (by omega)); replace HB := Lib.hid (HB.out.trans (ho.below (by omega))); replace R := Lib.hid hR; clear ho hR; clear q0 q1 q2 q3 q4 q5 qf u0 u1 u2 u3 u4 u5 uf; obtain ⟨⟨q0, q1, q2, q3, q4, q5⟩, qf⟩ := OH.out; obtain ⟨⟨u0, u1, u2, u3, u4, u5⟩, uf⟩ := OR.out; obtain ⟨z0, z1, z2, zf⟩ := R.out)
    | (go_at_call 42; refine (c2 _ R.out (Bs_below hv.out HB.out)).mono ?_; rintro e V2 ⟨rfl, hR, ho⟩; replace OH := Lib.hid (OH.out.only ho (by omega)); replace OR := Lib.hid (OR.out.only ho (by omega)); replace HB := Lib.hid (HB.out.trans (ho.below (by omega))); replace R := Lib.hid hR; clear ho hR; clear q0 q1 q2 q3 q4 q5 qf u0 u1 u2 u3 u4 u5 uf z0 z1 z2 zf; obtain ⟨⟨q0, q1, q2, q3, q4, q5⟩, qf⟩ := OH.out; obtain ⟨⟨u0, u1, u2, u3, u4, u5⟩, uf⟩ := OR.out; obtain ⟨z0, z1, z2, zf⟩ := R.out)
    | (go_at_call 41; refine (c3 _ R.out (Bs_below hv.out HB.out)).mono ?_; rintro e V3 ⟨rfl, hR, ho⟩; replace OH := Lib.hid (OH.out.only ho (by omega)); replace OR := Lib.hid (OR.out.only ho (by omega)); replace HB := Lib.hid (HB.out.trans (ho.below (by omega))); replace R := Lib.hid hR; clear ho hR; clear q0 q1 q2 q3 q4 q5 qf u0 u1 u2 u3 u4 u5 uf z0 z1 z2 zf; obtain ⟨⟨q0, q1, q2, q3, q4, q5⟩, qf⟩ := OH.out; obtain ⟨⟨u0, u1, u2, u3, u4, u5⟩, uf⟩ := OR.out; obtain ⟨z0, z1, z2, zf⟩ := R.out)
    | (go_at_call 41; refine (c4 _ R.out (Bs_below hv.out HB.out)).mono ?_; rintro e V4 ⟨rfl, hR, ho⟩; replace OH := Lib.hid (OH.out.only ho (by omega)); replace OR := Lib.hid (OR.out.only ho (by omega)); replace HB := Lib.hid (HB.out.trans (ho.below (by omega))); replace R := Lib.hid hR; clear ho hR; clear q0 q1 q2 q3 q4 q5 qf u0 u1 u2 u3 u4 u5 uf z0 z1 z2 zf; obtain ⟨⟨q0, q1, q2, q3, q4, q5⟩, qf⟩ := OH.out; obtain ⟨⟨u0, u1, u2, u3, u4, u5⟩, uf⟩ := OR.out; obtain ⟨z0, z1, z2, zf⟩ := R.out)
    | (go_at_call 42; refine (c5 _ R.out (Bs_below hv.out HB.out)).mono ?_; rintro e V5 ⟨rfl, hR, ho⟩; replace OH := Lib.hid (OH.out.only ho (by omega)); replace OR := Lib.hid (OR.out.only ho (by omega)); replace HB := Lib.hid (HB.out.trans (ho.below (by omega))); replace R := Lib.hid hR; clear ho hR; clear q0 q1 q2 q3 q4 q5 qf u0 u1 u2 u3 u4 u5 uf z0 z1 z2 zf; obtain ⟨⟨q0, q1, q2, q3, q4, q5⟩, qf⟩ := OH.out; obtain ⟨⟨u0, u1, u2, u3, u4, u5⟩, uf⟩ := OR.out; obtain ⟨z0, z1, z2, zf⟩ := R.out))
  have hs := set6 OR.out.1 false 0 0 0 0 0
  have hbs := bel_set6 (b := w.heap.size) HB.out (Nat.le_refl _) false 0 0 0 0 0
  generalize ((((((V9.setCell ⟨w.heap.size, 0, none⟩ (.bool false)).setCell ⟨w.heap.size, 1, none⟩ (.int .i64 0)).setCell ⟨w.heap.size, 2, none⟩ (.int .i64 0)).setCell ⟨w.heap.size, 3, none⟩ (.int .i64 0)).setCell ⟨w.heap.size, 4, none⟩ (.int .i64 0)).setCell ⟨w.heap.size, 5, none⟩ (.int .i64 0)) = W5 at *
  obtain ⟨s0_, s1_, s2_, s3_, s4_, s5_⟩ := hs
  exact bodyPost_ret (v := .tuple #[.agg #[.bool false, .int .i64 0, .int .i64 0, .int .i64 0, .int .i64 0, .int .i64 0], .int .i64 0, .int .i64 4]) (by simp [results, Try.results27, go_sem, s0_, s1_, s2_, s3_, s4_, s5_]) rfl ⟨rfl, hbs⟩

set_option maxHeartbeats 8000000 in
theorem parse_row_ok (a : Option Addr) (l c : Nat) (at' : Int) (xs : List Int) (w : World) (hv0 : Bs w (.slice a l c) xs) (s1 e1 t s2 e2 o s3 e3 r s4 e4 d s5 e5 i s6 : Int) (hc1 : shortS xs (at', 0) = (1, s1, e1)) (hc2 : longS xs (s1, e1) = (t, s2, e2)) (hc3 : shortS xs (s2, e2) = (o, s3, e3)) (hc4 : shortS xs (s3, e3) = (r, s4, e4)) (hc5 : longS xs (s4, e4) = (d, s5, e5)) (hc6 : shortS xs (s5, e5) = (i, s6, 0)) (hq : chk false t o r d i = 0) :
    Calls Try.prog 27 #[.slice a l c, .int .i64 at'] w fun e w' => e = .returned (.tuple #[.agg #[.bool false, .int .i64 t, .int .i64 o, .int .i64 r, .int .i64 d, .int .i64 i], .int .i64 s6, .int .i64 0]) ∧ Below w.heap.size w w' := by
  have hv := Lib.hid hv0
  clear hv0
  have c1 : ∀ V, Rd V (w.heap.size + 1) (.slice a l c) at' 0 → Bs V (.slice a l c) xs → Calls Try.prog 41 #[.pointer (some ⟨(w.heap.size + 1), 0, none⟩)] V fun e w' => e = .returned (.int .i64 1) ∧ Rd w' (w.heap.size + 1) (.slice a l c) s1 e1 ∧ Only (w.heap.size + 1) V w' := fun V h hv => by
    have h := short_any (w.heap.size + 1) (.slice a l c) at' 0 xs V h hv
    rw [hc1] at h
    exact h
  have c2 : ∀ V, Rd V (w.heap.size + 1) (.slice a l c) s1 e1 → Bs V (.slice a l c) xs → Calls Try.prog 42 #[.pointer (some ⟨(w.heap.size + 1), 0, none⟩)] V fun e w' => e = .returned (.int .i64 t) ∧ Rd w' (w.heap.size + 1) (.slice a l c) s2 e2 ∧ Only (w.heap.size + 1) V w' := fun V h hv => by
    have h := long_any (w.heap.size + 1) (.slice a l c) s1 e1 xs V h hv
    rw [hc2] at h
    exact h
  have c3 : ∀ V, Rd V (w.heap.size + 1) (.slice a l c) s2 e2 → Bs V (.slice a l c) xs → Calls Try.prog 41 #[.pointer (some ⟨(w.heap.size + 1), 0, none⟩)] V fun e w' => e = .returned (.int .i64 o) ∧ Rd w' (w.heap.size + 1) (.slice a l c) s3 e3 ∧ Only (w.heap.size + 1) V w' := fun V h hv => by
    have h := short_any (w.heap.size + 1) (.slice a l c) s2 e2 xs V h hv
    rw [hc3] at h
    exact h
  have c4 : ∀ V, Rd V (w.heap.size + 1) (.slice a l c) s3 e3 → Bs V (.slice a l c) xs → Calls Try.prog 41 #[.pointer (some ⟨(w.heap.size + 1), 0, none⟩)] V fun e w' => e = .returned (.int .i64 r) ∧ Rd w' (w.heap.size + 1) (.slice a l c) s4 e4 ∧ Only (w.heap.size + 1) V w' := fun V h hv => by
    have h := short_any (w.heap.size + 1) (.slice a l c) s3 e3 xs V h hv
    rw [hc4] at h
    exact h
  have c5 : ∀ V, Rd V (w.heap.size + 1) (.slice a l c) s4 e4 → Bs V (.slice a l c) xs → Calls Try.prog 42 #[.pointer (some ⟨(w.heap.size + 1), 0, none⟩)] V fun e w' => e = .returned (.int .i64 d) ∧ Rd w' (w.heap.size + 1) (.slice a l c) s5 e5 ∧ Only (w.heap.size + 1) V w' := fun V h hv => by
    have h := long_any (w.heap.size + 1) (.slice a l c) s4 e4 xs V h hv
    rw [hc5] at h
    exact h
  have c6 : ∀ V, Rd V (w.heap.size + 1) (.slice a l c) s5 e5 → Bs V (.slice a l c) xs → Calls Try.prog 41 #[.pointer (some ⟨(w.heap.size + 1), 0, none⟩)] V fun e w' => e = .returned (.int .i64 i) ∧ Rd w' (w.heap.size + 1) (.slice a l c) s6 0 ∧ Only (w.heap.size + 1) V w' := fun V h hv => by
    have h := short_any (w.heap.size + 1) (.slice a l c) s5 e5 xs V h hv
    rw [hc6] at h
    exact h
  clear hc1 hc2 hc3 hc4 hc5 hc6
  go_enter Try.func27, Try.ntmps27
  go_wp2_with fail
  have OR := Lib.hid (((own6_alloc w false 0 0 0 0 0 23 w.heap.size rfl).below ((Below.refl _ _).alloc (Nat.le_refl _) _)).below ((Below.refl _ _).alloc (Nat.le_refl _) _) : Own6 (((w.alloc (.cells #[.bool false, .int .i64 0, .int .i64 0, .int .i64 0, .int .i64 0, .int .i64 0] 23)).alloc (.cells #[.slice a l c, .int .i64 at', .int .i64 0] 59)).alloc (.cells #[.bool false, .int .i64 0, .int .i64 0, .int .i64 0, .int .i64 0, .int .i64 0] 23)) w.heap.size false 0 0 0 0 0)
  have OH := Lib.hid (own6_alloc ((w.alloc (.cells #[.bool false, .int .i64 0, .int .i64 0, .int .i64 0, .int .i64 0, .int .i64 0] 23)).alloc (.cells #[.slice a l c, .int .i64 at', .int .i64 0] 59)) false 0 0 0 0 0 23 (w.heap.size + 1 + 1) (by simp))
  have R := Lib.hid (rd_alloc w (.slice a l c) at' (.cells #[.bool false, .int .i64 0, .int .i64 0, .int .i64 0, .int .i64 0, .int .i64 0] 23) (.cells #[.bool false, .int .i64 0, .int .i64 0, .int .i64 0, .int .i64 0, .int .i64 0] 23))
  have HB : Hid (Below w.heap.size w (((w.alloc (.cells #[.bool false, .int .i64 0, .int .i64 0, .int .i64 0, .int .i64 0, .int .i64 0] 23)).alloc (.cells #[.slice a l c, .int .i64 at', .int .i64 0] 59)).alloc (.cells #[.bool false, .int .i64 0, .int .i64 0, .int .i64 0, .int .i64 0, .int .i64 0] 23))) := (((Below.refl _ w).alloc (Nat.le_refl _) _).alloc (by simp) _).alloc (by simp; omega) _
  generalize (((w.alloc (.cells #[.bool false, .int .i64 0, .int .i64 0, .int .i64 0, .int .i64 0, .int .i64 0] 23)).alloc (.cells #[.slice a l c, .int .i64 at', .int .i64 0] 59)).alloc (.cells #[.bool false, .int .i64 0, .int .i64 0, .int .i64 0, .int .i64 0, .int .i64 0] 23)) = V0 at *
  obtain ⟨⟨q0, q1, q2, q3, q4, q5⟩, qf⟩ := OH.out
  obtain ⟨⟨u0, u1, u2, u3, u4, u5⟩, uf⟩ := OR.out
  go_wp2_with (first
    | (go_at_call 12; have o2 : Only (w.heap.size + 1 + 1) V6 (V6.setCell ⟨(w.heap.size + 1 + 1), 5, none⟩ (.int .i64 i)) := (Only.refl _ _).set 5 _; refine (check_any _ _ _ _ _ _ _).mono ?_; rintro e V9 ⟨rfl, hb⟩; rw [hq]; replace OH := Lib.hid ((OH.out.seti i).below hb); replace OR := Lib.hid ((OR.out.only o2 (by omega)).below hb); replace HB := Lib.hid ((HB.out.trans (o2.below (by omega))).trans (hb.mono (Nat.le_trans HB.out.size (Nat.le_of_eq o2.size.symm)))); replace R := Lib.hid ((R.out.only o2 (by omega)).below hb); clear hb o2; clear q0 q1 q2 q3 q4 q5 qf u0 u1 u2 u3 u4 u5 uf z0 z1 z2 zf; obtain ⟨⟨q0, q1, q2, q3, q4, q5⟩, qf⟩ := OH.out; obtain ⟨⟨u0, u1, u2, u3, u4, u5⟩, uf⟩ := OR.out; obtain ⟨z0, z1, z2, zf⟩ := R.out)
    | (go_at_call 41; have o1 : Only (w.heap.size + 1 + 1) V5 ((((((V5.setCell ⟨(w.heap.size + 1 + 1), 0, none⟩ (.bool false)).setCell ⟨(w.heap.size + 1 + 1), 1, none⟩ (.int .i64 t)).setCell ⟨(w.heap.size + 1 + 1), 2, none⟩ (.int .i64 o)).setCell ⟨(w.heap.size + 1 + 1), 3, none⟩ (.int .i64 r)).setCell ⟨(w.heap.size + 1 + 1), 4, none⟩ (.int .i64 d)).setCell ⟨(w.heap.size + 1 + 1), 5, none⟩ (.int .i64 0)) := ((((((Only.refl _ _).set 0 _).set 1 _).set 2 _).set 3 _).set 4 _).set 5 _; refine (c6 _ (R.out.only o1 (by omega)) (Bs_below hv.out (HB.out.trans (o1.below (by omega))))).mono ?_; rintro e V6 ⟨rfl, hR, ho⟩; replace OH := Lib.hid ((OH.out.set false t o r d 0).only ho (by omega)); replace OR := Lib.hid ((OR.out.only o1 (by omega)).only ho (by omega)); replace HB := Lib.hid ((HB.out.trans (o1.below (by omega))).trans (ho.below (by omega))); replace R := Lib.hid hR; clear ho hR o1; clear q0 q1 q2 q3 q4 q5 qf u0 u1 u2 u3 u4 u5 uf z0 z1 z2 zf; obtain ⟨⟨q0, q1, q2, q3, q4, q5⟩, qf⟩ := OH.out; obtain ⟨⟨u0, u1, u2, u3, u4, u5⟩, uf⟩ := OR.out; obtain ⟨z0, z1, z2, zf⟩ := R.out)
    | (go_at_call 41; refine (c1 _ R.out (Bs_below hv.out HB.out)).mono ?_; rintro e V1 ⟨rfl, hR, ho⟩; replace OH := Lib.hid (OH.out.only ho (by omega)); replace OR := Lib.hid (OR.out.only ho (by omega)); replace HB := Lib.hid (HB.out.trans (ho.below (by omega))); replace R := Lib.hid hR; clear ho hR; clear q0 q1 q2 q3 q4 q5 qf u0 u1 u2 u3 u4 u5 uf; obtain ⟨⟨q0, q1, q2, q3, q4, q5⟩, qf⟩ := OH.out; obtain ⟨⟨u0, u1, u2, u3, u4, u5⟩, uf⟩ := OR.out; obtain ⟨z0, z1, z2, zf⟩ := R.out)
    | (go_at_call 42; refine (c2 _ R.out (Bs_below hv.out HB.out)).mono ?_; rintro e V2 ⟨rfl, hR, ho⟩; replace OH := Lib.hid (OH.out.only ho (by omega)); replace OR := Lib.hid (OR.out.only ho (by omega)); replace HB := Lib.hid (HB.out.trans (ho.below (by omega))); replace R := Lib.hid hR; clear ho hR; clear q0 q1 q2 q3 q4 q5 qf u0 u1 u2 u3 u4 u5 uf z0 z1 z2 zf; obtain ⟨⟨q0, q1, q2, q3, q4, q5⟩, qf⟩ := OH.out; obtain ⟨⟨u0, u1, u2, u3, u4, u5⟩, uf⟩ := OR.out; obtain ⟨z0, z1, z2, zf⟩ := R.out)
    | (go_at_call 41; refine (c3 _ R.out (Bs_below hv.out HB.out)).mono ?_; rintro e V3 ⟨rfl, hR, ho⟩; replace OH := Lib.hid (OH.out.only ho (by omega)); replace OR := Lib.hid (OR.out.only ho (by omega)); replace HB := Lib.hid (HB.out.trans (ho.below (by omega))); replace R := Lib.hid hR; clear ho hR; clear q0 q1 q2 q3 q4 q5 qf u0 u1 u2 u3 u4 u5 uf z0 z1 z2 zf; obtain ⟨⟨q0, q1, q2, q3, q4, q5⟩, qf⟩ := OH.out; obtain ⟨⟨u0, u1, u2, u3, u4, u5⟩, uf⟩ := OR.out; obtain ⟨z0, z1, z2, zf⟩ := R.out)
    | (go_at_call 41; refine (c4 _ R.out (Bs_below hv.out HB.out)).mono ?_; rintro e V4 ⟨rfl, hR, ho⟩; replace OH := Lib.hid (OH.out.only ho (by omega)); replace OR := Lib.hid (OR.out.only ho (by omega)); replace HB := Lib.hid (HB.out.trans (ho.below (by omega))); replace R := Lib.hid hR; clear ho hR; clear q0 q1 q2 q3 q4 q5 qf u0 u1 u2 u3 u4 u5 uf z0 z1 z2 zf; obtain ⟨⟨q0, q1, q2, q3, q4, q5⟩, qf⟩ := OH.out; obtain ⟨⟨u0, u1, u2, u3, u4, u5⟩, uf⟩ := OR.out; obtain ⟨z0, z1, z2, zf⟩ := R.out)
    | (go_at_call 42; refine (c5 _ R.out (Bs_below hv.out HB.out)).mono ?_; rintro e V5 ⟨rfl, hR, ho⟩; replace OH := Lib.hid (OH.out.only ho (by omega)); replace OR := Lib.hid (OR.out.only ho (by omega)); replace HB := Lib.hid (HB.out.trans (ho.below (by omega))); replace R := Lib.hid hR; clear ho hR; clear q0 q1 q2 q3 q4 q5 qf u0 u1 u2 u3 u4 u5 uf z0 z1 z2 zf; obtain ⟨⟨q0, q1, q2, q3, q4, q5⟩, qf⟩ := OH.out; obtain ⟨⟨u0, u1, u2, u3, u4, u5⟩, uf⟩ := OR.out; obtain ⟨z0, z1, z2, zf⟩ := R.out))
  go_region
  go_wp2_with fail
  have hs := set6 OR.out.1 false t o r d i
  have hbs := bel_set6 (b := w.heap.size) HB.out (Nat.le_refl _) false t o r d i
  generalize ((((((V9.setCell ⟨w.heap.size, 0, none⟩ (.bool false)).setCell ⟨w.heap.size, 1, none⟩ (.int .i64 t)).setCell ⟨w.heap.size, 2, none⟩ (.int .i64 o)).setCell ⟨w.heap.size, 3, none⟩ (.int .i64 r)).setCell ⟨w.heap.size, 4, none⟩ (.int .i64 d)).setCell ⟨w.heap.size, 5, none⟩ (.int .i64 i)) = W5 at *
  obtain ⟨s0_, s1_, s2_, s3_, s4_, s5_⟩ := hs
  exact bodyPost_ret (v := .tuple #[.agg #[.bool false, .int .i64 t, .int .i64 o, .int .i64 r, .int .i64 d, .int .i64 i], .int .i64 s6, .int .i64 0]) (by simp [results, Try.results27, go_sem, s0_, s1_, s2_, s3_, s4_, s5_]) rfl ⟨rfl, hbs.drew⟩

/-- A height, a place, an error. -/
structure PR where
  n : Bool
  t : Int
  o : Int
  r : Int
  d : Int
  i : Int
  to : Int
  e : Int
def PR.v (p : PR) : Value := .tuple #[.agg #[.bool p.n, .int .i64 p.t, .int .i64 p.o, .int .i64 p.r, .int .i64 p.d, .int .i64 p.i], .int .i64 p.to, .int .i64 p.e]
def PR.no (e : Int) : PR := ⟨false, 0, 0, 0, 0, 0, 0, e⟩
def parseF (n : Bool) (t o r d : Int) (s : Int × Int × Int) : PR := if s.2.2 = 0 then (if HtOk n t o r d s.1 then ⟨n, t, o, r, d, s.1, s.2.1, 0⟩ else .no 4) else .no s.2.2
def parseS (xs : List Int) (k : Int) : PR :=
  if (shortS xs (k, 0)).1 = 0 then parseF true 0 0 0 0 (shortS xs (shortS xs (k, 0)).2)
  else if (shortS xs (k, 0)).1 = 1 then
    parseF false (longS xs (shortS xs (k, 0)).2).1 (shortS xs (longS xs (shortS xs (k, 0)).2).2).1 (shortS xs (shortS xs (longS xs (shortS xs (k, 0)).2).2).2).1
      (longS xs (shortS xs (shortS xs (longS xs (shortS xs (k, 0)).2).2).2).2).1 (shortS xs (longS xs (shortS xs (shortS xs (longS xs (shortS xs (k, 0)).2).2).2).2).2)
  else .no 4

theorem parse_any (v : Value) (k : Int) (xs : List Int) (w : World) (hv : Bs w v xs) : Calls Try.prog 27 #[v, .int .i64 k] w fun e w' => e = .returned (parseS xs k).v ∧ Below w.heap.size w w' := by
  obtain ⟨a, l, c, rfl⟩ := Bs_form hv
  obtain ⟨k1, s1, e1, h1⟩ : ∃ x y z, shortS xs (k, 0) = (x, y, z) := ⟨_, _, _, rfl⟩
  by_cases c0 : k1 = 0
  · subst c0
    obtain ⟨i, s6, e6, h2⟩ : ∃ x y z, shortS xs (s1, e1) = (x, y, z) := ⟨_, _, _, rfl⟩
    simp only [parseS, h1, h2, if_true, parseF]
    by_cases he : e6 = 0
    · subst he
      rw [if_pos rfl]
      by_cases hq : HtOk true 0 0 0 0 i
      · rw [if_pos hq]; exact parse_null_ok a l c k xs w hv s1 e1 i s6 h1 h2 (chk_ok hq)
      · rw [if_neg hq]; exact parse_null_bad a l c k xs w hv s1 e1 i s6 h1 h2 (chk_no hq)
    · rw [if_neg he]; exact parse_null_err a l c k xs w hv s1 e1 i s6 e6 h1 h2 he
  · by_cases c1 : k1 = 1
    · subst c1
      obtain ⟨t, s2, e2, h2⟩ : ∃ x y z, longS xs (s1, e1) = (x, y, z) := ⟨_, _, _, rfl⟩
      obtain ⟨o, s3, e3, h3⟩ : ∃ x y z, shortS xs (s2, e2) = (x, y, z) := ⟨_, _, _, rfl⟩
      obtain ⟨r, s4, e4, h4⟩ : ∃ x y z, shortS xs (s3, e3) = (x, y, z) := ⟨_, _, _, rfl⟩
      obtain ⟨d, s5, e5, h5⟩ : ∃ x y z, longS xs (s4, e4) = (x, y, z) := ⟨_, _, _, rfl⟩
      obtain ⟨i, s6, e6, h6⟩ : ∃ x y z, shortS xs (s5, e5) = (x, y, z) := ⟨_, _, _, rfl⟩
      simp only [parseS, h1, h2, h3, h4, h5, h6, if_neg c0, if_true, parseF]
      by_cases he : e6 = 0
      · subst he
        rw [if_pos rfl]
        by_cases hq : HtOk false t o r d i
        · rw [if_pos hq]; exact parse_row_ok a l c k xs w hv s1 e1 t s2 e2 o s3 e3 r s4 e4 d s5 e5 i s6 h1 h2 h3 h4 h5 h6 (chk_ok hq)
        · rw [if_neg hq]; exact parse_row_bad a l c k xs w hv s1 e1 t s2 e2 o s3 e3 r s4 e4 d s5 e5 i s6 h1 h2 h3 h4 h5 h6 (chk_no hq)
      · rw [if_neg he]; exact parse_row_err a l c k xs w hv s1 e1 t s2 e2 o s3 e3 r s4 e4 d s5 e5 i s6 e6 h1 h2 h3 h4 h5 h6 he
    · simp only [parseS, h1, if_neg c0, if_neg c1]
      exact parse_other a l c k xs w hv k1 s1 e1 h1 c0 c1
#print axioms parse_any
end Go.Proofs.Ytkgckmlphfafjaa
