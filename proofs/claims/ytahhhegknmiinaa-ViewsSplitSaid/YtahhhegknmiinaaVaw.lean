/- The law's examples. -/
import Derived.Test.YtahhhegknmiinaaVst
namespace Go.Proofs.Ytahhhegknmiinaa
set_option maxRecDepth 100000
open Go.RowKit

theorem ints_yes {v u : Value} {xs : List Int} {w : World} (hv : Zs w v xs) (hu : Zs w u xs) : Calls Try.prog 22 #[v, u] w fun e w' => e = .returned (.bool true) ∧ Below w.heap.size w w' :=
  (ints_any v u xs xs w hv hu).mono fun e w' h => ⟨by rw [h.1, decide_eq_true rfl], h.2⟩
theorem vsame_yes {v u : Value} {xs : List Vw} {w : World} (hv : Vs w v xs) (hu : Vs w u xs) (hl : xs.length ≤ 3000) : Calls Try.prog 19 #[v, u] w fun e w' => e = .returned (.bool true) ∧ Below w.heap.size w w' :=
  (rvsame_any v u xs xs w hv hu hl).mono fun e w' h => ⟨by rw [h.1, decide_eq_true rfl], h.2⟩
theorem zs_31 (w : World) : Zs (w.alloc (.cells #[.int .i64 3, .int .i64 1] 3)) (.slice (some ⟨w.heap.size, 0, none⟩) 2 2) [3, 1] := by
  refine ⟨by decide, .inr ⟨w.heap.size, 0, 2, rfl, by decide, fun i hi => ?_⟩⟩
  match i, hi with
  | 0, _ => simp
  | 1, _ => simp
set_option maxHeartbeats 4000000 in
theorem awake12 (hc : Vc) (w : World) : Calls Try.prog 18 #[] w fun e w' => e = .returned (.bool true) ∧ Below w.heap.size w w' := by
  obtain ⟨W1, hW1⟩ : ∃ W1, w.alloc (.cells awC 40) = W1 := ⟨_, rfl⟩
  have HV1 : Hid (Vs W1 (.slice (some ⟨w.heap.size, 0, none⟩) 3 3) [aw1, aw3, aw5]) := hW1 ▸ vs_aw w
  have HB1 : Hid (Below w.heap.size w W1) := hW1 ▸ (Below.refl _ w).alloc (Nat.le_refl _) _
  have HW1 := Lib.hid hW1
  clear hW1
  go_enter Try.func18, Try.ntmps18
  go_upto_region 2 with (fail)
  change Code.wp _ _ _ _ (w.alloc (.cells awC 40))
  rw [HW1.out]
  have C2 := Lib.hid (hc.set _ _ 4 aw4.2 W1 HV1.out (by decide))
  go_wp2_with fail
  refine C2.out.mono ?_
  rintro e W2 ⟨r, rfl, hv, hb⟩
  rw [aw_set.2] at hv
  rw [aw_set.1]
  obtain ⟨am, cm, hr⟩ : ∃ a c, r = .slice a 4 c := hv.form
  subst hr
  have HV2 := Lib.hid (HV1.out.below hb)
  have HM2 := Lib.hid hv
  have HB2 := Lib.hid (HB1.out.trans (hb.mono HB1.out.size))
  clear hv hb C2
  have C3 := Lib.hid (hc.lowest _ _ W2 HM2.out (by decide))
  rw [aw_low] at C3
  go_wp2_with fail
  refine C3.out.mono ?_
  rintro e W3 ⟨rfl, hb⟩
  have HV3 := Lib.hid (HV2.out.below hb)
  have HM3 := Lib.hid (HM2.out.below hb)
  have HB3 := Lib.hid (HB2.out.trans (hb.mono HB2.out.size))
  clear hb C3
  obtain ⟨W4, hW4⟩ : ∃ W4, W3.alloc (.cells #[.int .i64 aw4.1, .bool aw4.2.1, .int .i64 aw4.2.2.1, .int .i64 aw4.2.2.2.1, .int .i64 aw4.2.2.2.2.1, .int .i64 aw4.2.2.2.2.2.1, .int .i64 aw4.2.2.2.2.2.2] 40) = W4 := ⟨_, rfl⟩
  have hb4 : Below W3.heap.size W3 W4 := hW4 ▸ (Below.refl _ W3).alloc (Nat.le_refl _) _
  have OX := Lib.hid (hW4 ▸ ownV_alloc W3 aw4 W3.heap.size rfl 40 : OwnV W4 W3.heap.size aw4)
  have HV4 := Lib.hid (HV3.out.below hb4)
  have HB4 := Lib.hid (HB3.out.trans (hb4.mono HB3.out.size))
  have HW4 := Lib.hid hW4
  clear hW4 hb4
  go_upto_region 4 with (fail)
  change Code.wp _ _ _ _ (W3.alloc (.cells #[.int .i64 aw4.1, .bool aw4.2.1, .int .i64 aw4.2.2.1, .int .i64 aw4.2.2.2.1, .int .i64 aw4.2.2.2.2.1, .int .i64 aw4.2.2.2.2.2.1, .int .i64 aw4.2.2.2.2.2.2] 40))
  rw [HW4.out]
  have cB := hc.below (.slice (some ⟨w.heap.size, 0, none⟩) 3 3) [aw1, aw3, aw5] (false, 0, 0, 0, 3, 4) W4 HV4.out (by decide)
  rw [aw_bel] at cB
  have C5 := Lib.hid cB
  have x0 : W4.cell? ⟨W3.heap.size, 0, none⟩ = some (.int .i64 4) := OX.out.1.1
  clear cB
  go_wp2_with fail
  refine C5.out.mono ?_
  rintro e W5 ⟨r, rfl, hz, hb⟩
  obtain ⟨ar, cr, hr⟩ : ∃ a c, r = .slice a 2 c := Zs_form hz
  subst hr
  have x5 : W5.cell? ⟨W3.heap.size, 0, none⟩ = some (.int .i64 4) := (hb.cell (p := ⟨W3.heap.size, 0, none⟩) OX.out.lt).trans x0
  have HX5 := Lib.hid x5
  have HZ := Lib.hid hz
  have HB5 := Lib.hid (HB4.out.trans (hb.mono HB4.out.size))
  clear hz hb C5 x0 x5
  go_wp2_with (go_at_call 22; refine (ints_yes (Zs_low HZ.out ((Below.refl _ W5).alloc (Nat.le_refl _) _)) (zs_31 W5)).mono ?_; rintro e W6 ⟨rfl, hb6⟩; have x6 : W6.cell? ⟨W3.heap.size, 0, none⟩ = some (.int .i64 4) := by { have h1 := ((Below.refl W5.heap.size W5).alloc (Nat.le_refl _) (.cells #[.int .i64 3, .int .i64 1] 3)).trans (hb6.mono (by simp)); exact (h1.cell (p := ⟨W3.heap.size, 0, none⟩) (World.block_lt_of_cell? W5 _ HX5.out)).trans HX5.out }; have HB6 := Lib.hid (HB5.out.trans ((((Below.refl W5.heap.size W5).alloc (Nat.le_refl _) (.cells #[.int .i64 3, .int .i64 1] 3)).trans (hb6.mono (by simp))).mono HB5.out.size)); clear hb6)
  go_ret
  exact ⟨rfl, HB6.out⟩
end Go.Proofs.Ytahhhegknmiinaa
