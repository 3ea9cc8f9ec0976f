/- A ring of packets: one more. -/
import Derived.Test.YtgcjmnjepnmaeaaQrr
import Derived.Deep.RegionWith
import Derived.StillTailTactics
namespace Go.Proofs.Ytgcjmnjepnmaeaa
set_option maxRecDepth 100000
open Go.RowKit

/-- A packet laid at a place of the ring. -/
def putAt (w : World) (b o : Nat) (y : Pk) : World := ((((w.setCell ⟨b, o, none⟩ (.int .i64 y.1)).setCell ⟨b, o + 1, none⟩ (.int .i64 y.2.1)).setCell ⟨b, o + 2, none⟩ (.int .i64 y.2.2.1)).setCell ⟨b, o + 3, none⟩ (.int .i64 y.2.2.2.1)).setCell ⟨b, o + 4, none⟩ (.string y.2.2.2.2)
theorem cell_set (w : World) (b o j : Nat) (u v : Value) (hv : w.cell? ⟨b, o, none⟩ = some v) : (w.setCell ⟨b, o, none⟩ u).cell? ⟨b, j, none⟩ = if j = o then some u else w.cell? ⟨b, j, none⟩ := by
  by_cases h : j = o
  · subst h
    rw [if_pos rfl]
    exact World.cell?_setCell_same w _ _ hv
  · rw [if_neg h]
    exact World.cell?_setCell_other _ _ _ _ (by intro e; simp only [Addr.mk.injEq] at e; omega)
theorem putAt_cell {w : World} {b o : Nat} {y0 : Pk} (h : C5 w b o y0) (y : Pk) (j : Nat) : (putAt w b o y).cell? ⟨b, j, none⟩ = if j = o + 4 then some (.string y.2.2.2.2) else if j = o + 3 then some (.int .i64 y.2.2.2.1) else if j = o + 2 then some (.int .i64 y.2.2.1) else if j = o + 1 then some (.int .i64 y.2.1) else if j = o then some (.int .i64 y.1) else w.cell? ⟨b, j, none⟩ := by
  obtain ⟨h0, h1, h2, h3, h4⟩ := h
  have e0 := fun j => cell_set w b o j (.int .i64 y.1) _ h0
  have e1 := fun j => cell_set _ b (o + 1) j (.int .i64 y.2.1) _ ((e0 (o + 1)).trans (by rw [if_neg (by omega), h1]))
  have e2 := fun j => cell_set _ b (o + 2) j (.int .i64 y.2.2.1) _ ((e1 (o + 2)).trans (by rw [if_neg (by omega), e0, if_neg (by omega), h2]))
  have e3 := fun j => cell_set _ b (o + 3) j (.int .i64 y.2.2.2.1) _ ((e2 (o + 3)).trans (by rw [if_neg (by omega), e1, if_neg (by omega), e0, if_neg (by omega), h3]))
  have e4 := fun j => cell_set _ b (o + 4) j (.string y.2.2.2.2) _ ((e3 (o + 4)).trans (by rw [if_neg (by omega), e2, if_neg (by omega), e1, if_neg (by omega), e0, if_neg (by omega), h4]))
  unfold putAt
  rw [e4, e3, e2, e1, e0]
theorem putAt_frozen (w : World) (b o : Nat) (y : Pk) (j : Nat) (h : ∀ j, w.frozen? ⟨b, j, none⟩ = false) : (putAt w b o y).frozen? ⟨b, j, none⟩ = false := by
  unfold putAt
  simp [go_sem, h]
theorem putAt_chg (w : World) (b o : Nat) (y : Pk) : Chg (fun k => k = b) w (putAt w b o y) :=
  ((((Chg.setCell (F := fun k => k = b) (p := ⟨b, o, none⟩) (Chg.refl _ w) (.inl rfl) _).setCell (p := ⟨b, o + 1, none⟩) (.inl rfl) _).setCell (p := ⟨b, o + 2, none⟩) (.inl rfl) _).setCell (p := ⟨b, o + 3, none⟩) (.inl rfl) _).setCell (p := ⟨b, o + 4, none⟩) (.inl rfl) _
/-- The ring behind a store at one of its places. -/
theorem Ring.putAt {w : World} {b : Nat} {m : Int} {bg c : Nat} {R : Nat → Pk} (h : Ring w b m bg c R) {k : Nat} (hk : k < 64) (y : Pk) : Ring (putAt w b (k * 5) y) b m bg c (fun j => if j = k then y else R j) := by
  have hp := putAt_cell (h.pk k hk) y
  refine ⟨fun j hj => ?_, ?_, ?_, ?_, fun j => putAt_frozen w b _ y j h.fz, h.hb, h.hm⟩
  · by_cases e : j = k
    · subst e
      simp only [if_true]
      refine ⟨?_, ?_, ?_, ?_, ?_⟩ <;> rw [hp] <;> simp
    · simp only [if_neg e]
      obtain ⟨h0, h1, h2, h3, h4⟩ := h.pk j hj
      refine ⟨?_, ?_, ?_, ?_, ?_⟩ <;> rw [hp, if_neg (by omega), if_neg (by omega), if_neg (by omega), if_neg (by omega), if_neg (by omega)] <;> assumption
  · rw [hp, if_neg (by omega), if_neg (by omega), if_neg (by omega), if_neg (by omega), if_neg (by omega)]; exact h.cb
  · rw [hp, if_neg (by omega), if_neg (by omega), if_neg (by omega), if_neg (by omega), if_neg (by omega)]; exact h.cc
  · rw [hp, if_neg (by omega), if_neg (by omega), if_neg (by omega), if_neg (by omega), if_neg (by omega)]; exact h.cm
/-- The ring behind a new count. -/
theorem Ring.count {w : World} {b : Nat} {m : Int} {bg c : Nat} {R : Nat → Pk} (h : Ring w b m bg c R) (c' : Nat) (hc : (c' : Int) ≤ m) : Ring (w.setCell ⟨b, 321, none⟩ (.int .i64 c')) b m bg c' R := by
  have hp := fun j => cell_set w b 321 j (.int .i64 c') _ h.cc
  refine ⟨fun j hj => ?_, ?_, ?_, ?_, fun j => by simp [go_sem, h.fz], h.hb, hc, h.hm.2⟩
  · obtain ⟨h0, h1, h2, h3, h4⟩ := h.pk j hj
    refine ⟨?_, ?_, ?_, ?_, ?_⟩ <;> rw [hp, if_neg (by omega)] <;> assumption
  · rw [hp, if_neg (by omega)]; exact h.cb
  · rw [hp, if_pos rfl]
  · rw [hp, if_neg (by omega)]; exact h.cm
theorem held_put {bg c : Nat} (R : Nat → Pk) (y : Pk) (hc : c < 64) : held bg (c + 1) (fun j => if j = (bg + c) % 64 then y else R j) = held bg c R ++ [y] := by
  unfold held
  rw [List.range_succ, List.map_append]
  congr 1
  · refine List.map_congr_left fun i hi => ?_
    have h := List.mem_range.1 hi
    exact if_neg (by omega)
  · simp
set_option maxHeartbeats 8000000 in
theorem qput_ok (b : Nat) (m : Int) (bg c : Nat) (R : Nat → Pk) (y : Pk) (w : World) (h : Ring w b m bg c R) (hlt : (c : Int) < m) (hck : ∀ w, Calls Try.prog 23 #[pkV y] w fun e w' => e = .returned (.int .i64 0) ∧ Below w.heap.size w w') :
    Calls Try.prog 11 #[.pointer (some ⟨b, 0, none⟩), pkV y] w fun e w' => e = .returned (.int .i64 0) ∧ Ring w' b m bg (c + 1) (fun j => if j = (bg + c) % 64 then y else R j) ∧ Chg (fun k => k = b) w w' := by
  obtain ⟨w1, hw1⟩ : ∃ w1, w.alloc (.cells #[.int .i64 y.1, .int .i64 y.2.1, .int .i64 y.2.2.1, .int .i64 y.2.2.2.1, .string y.2.2.2.2] 34) = w1 := ⟨_, rfl⟩
  have hb1 : Below w.heap.size w w1 := hw1 ▸ (Below.refl _ w).alloc (Nat.le_refl _) _
  have OV : Hid (OwnP w1 w.heap.size y.1 y.2.1 y.2.2.1 y.2.2.2.1 y.2.2.2.2) := hw1 ▸ ownp_alloc w _ _ _ _ _ 34 w.heap.size rfl
  have HR := Lib.hid (h.chg (F := fun _ => False) (chg0 hb1) (fun h => h))
  have HB := Lib.hid hb1
  have HBW := Lib.hid h.lt
  clear h hb1
  have C1 := Lib.hid (hck w1)
  obtain ⟨⟨u0, u1, u2, u3, u4⟩, uf⟩ := OV.out
  go_enter Try.func11, Try.ntmps11
  go_wp2_with fail
  refine C1.out.mono ?_
  rintro e W2 ⟨rfl, hb⟩
  have OV2 := Lib.hid (OV.out.below hb)
  have HR2 := Lib.hid (HR.out.chg (F := fun _ => False) (chg0 hb) (fun h => h))
  have HB2 := Lib.hid (HB.out.trans (hb.mono HB.out.size))
  clear hb u0 u1 u2 u3 u4 uf C1 OV HR HB hw1
  have c1 := HR2.out.cc
  have c2 := HR2.out.cm
  have hne : ((c : Int) == m) = false := by simp; omega
  go_wp2_with fail
  go_quiet (fail)
  obtain ⟨W3, hW3⟩ : ∃ W3, W2.drewN nq = W3 := ⟨_, rfl⟩
  have HR3 : Hid (Ring W3 b m bg c R) := hW3 ▸ HR2.out.chg (F := fun _ => False) ((Chg.refl _ W2).dn nq) (fun h => h)
  have OV3 : Hid (OwnP W3 w.heap.size y.1 y.2.1 y.2.2.1 y.2.2.2.1 y.2.2.2.2) := hW3 ▸ OV2.out.dn nq
  have HC3 : Hid (Chg (fun k => k = b) w W3) := hW3 ▸ (chg0 HB2.out).dn nq
  rw [hW3]
  clear hW3 c1 c2 HR2 OV2 HB2 hne
  obtain ⟨k0, hk0⟩ : ∃ k0, (bg + c) % 64 = k0 := ⟨_, rfl⟩
  have hk64 : k0 < 64 := by omega
  have hki : ((bg : Int) + (c : Int)) % 64 = (k0 : Int) := by omega
  have C2 := Lib.hid (place_any b bg c W3.drew HR3.out.cb (by have := HR3.out.hb; omega) (by have := HR3.out.hm; omega))
  rw [hki] at C2
  have HK0 := Lib.hid hk0
  have c0 := HR3.out.cc
  have hfz := HR3.out.fz
  obtain ⟨p0, p1, p2, p3, p4⟩ := HR3.out.pk k0 hk64
  obtain ⟨⟨u0, u1, u2, u3, u4⟩, uf⟩ := OV3.out
  have hne : b ≠ w.heap.size := by have := HBW.out; omega
  clear hki hk0
  go_upto_region 8 with (fail)
  go_region_with (go_at_call 24; refine C2.out.mono ?_; rintro e w9 ⟨rfl, rfl⟩)
  all_goals
    have hr0 := (HR3.out.putAt hk64 y).chg (F := fun _ => False) (Chg.refl _ _).drew (fun h => h)
    have hg0 : Chg (fun k => k = b) w (putAt W3 b (k0 * 5) y).drew := (HC3.out.trans (putAt_chg W3 b (k0 * 5) y) (fun x _ hx => hx)).drew
    unfold putAt at hr0 hg0
    obtain ⟨V, hV⟩ : ∃ V, (((((W3.setCell ⟨b, k0 * 5, none⟩ (.int .i64 y.1)).setCell ⟨b, k0 * 5 + 1, none⟩ (.int .i64 y.2.1)).setCell ⟨b, k0 * 5 + 2, none⟩ (.int .i64 y.2.2.1)).setCell ⟨b, k0 * 5 + 3, none⟩ (.int .i64 y.2.2.2.1)).setCell ⟨b, k0 * 5 + 4, none⟩ (.string y.2.2.2.2)).drew = V := ⟨_, rfl⟩
    rw [hV] at hr0 hg0 ⊢
    have hm := hr0.hm
    have HM := Lib.hid hm
    have hr1 := Ring.count hr0 (c + 1) (by omega)
    have hg1 := Chg.setCell (p := ⟨b, 321, none⟩) hg0 (.inl rfl) (.int .i64 ((c + 1 : Nat) : Int))
    have HR1 := Lib.hid hr1
    have HG1 := Lib.hid hg1
    have c1 := hr0.cc
    have f1 := hr0.fz
    clear hV hr0 hg0 hr1 hg1 c0 hfz p0 p1 p2 p3 p4 u0 u1 u2 u3 u4 uf C2
    have e1 : ((c + 1 : Nat) : Int) = (c : Int) + 1 := by omega
    rw [e1] at HR1 HG1
    go_wp2_with fail
    go_ret
    rw [HK0.out]
    exact ⟨rfl, HR1.out, HG1.out⟩
end Go.Proofs.Ytgcjmnjepnmaeaa
