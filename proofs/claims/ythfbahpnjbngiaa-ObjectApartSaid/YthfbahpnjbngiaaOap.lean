/- thalweglaw04.ObjectApart: for any two objects the law answers true: of two whose bytes begin alike, as far as the shorter ones go, both are the same; no condition. -/
import Derived.Test.YthfbahpnjbngiaaOaw
import Derived.Test.YthfbahpnjbngiaaOfm
import Derived.Test.YthfbahpnjbngiaaOeq
import Derived.Test.YthfbahpnjbngiaaOpm
import Derived.Test.YthfbahpnjbngiaaTyped
import Derived.Test.YthfbahpnjbngiaaTyp2
import Derived.WalkLawsBesides
import Derived.WalkKit
import Derived.ProofKit
import Derived.OpenShut
import Derived.ShutString
import Derived.ChangeOld
import Derived.Below
namespace Go.Proofs.Ythfbahpnjbngiaa.objectApart
open Go.ChangeShapes Go.WideShapes Go.ChangeAt Go.RowKit
open Go.ChangeMaps (open_string shut_string)
set_option linter.unusedVariables false

theorem own : ownKnob Try.prog.godebug = none := by kernel_rfl
theorem laidOut : laidOutB Try.prog = true := by kernel_rfl
open Go.Sort

theorem obB_byt {k x : Int} {n : Bool} {t o r d i p q s m : Int} (h : ObOk k x n t o r d i p q s m) : Byt (obB k x n t o r d i p q s m) := by
  have hx : 0 ≤ x ∧ x < 64 := h.2.1
  have two : ∀ y z : Int, 0 ≤ y ∧ y < 256 → 0 ≤ z ∧ z < 256 → Byt [y, z] := fun y z hy hz u hu => by
    simp at hu; rcases hu with rfl | rfl <;> assumption
  rcases kind_of h with rfl | rfl | rfl | rfl
  · rw [obB_1]; exact two _ _ (by omega) (by omega)
  · have hh : HtOk n t o r d i := by have := h.2.2.2.2.1; simpa [HgOk, hgB] using this
    rw [obB_2]; exact byt_app (two _ _ (by omega) (by omega)) (htB_byt hh)
  · have hl : HtOk false p q s 0 0 := by have := h.2.2.2.1; simpa [LvOk, lvB] using this
    have hr : RowOk p q s 0 := by rcases hl.2 with h | h; · cases h.1
                                  exact h.2
    have hq : 0 ≤ q ∧ q < 64 := hr.2.2.1
    have hs : 0 ≤ s ∧ s < 256 := by have := hr.2.2.2.1; omega
    rw [obB_3]; exact byt_app (byt_app (two _ _ (by omega) (by omega)) (i8_byt p)) (two _ _ (by omega) hs)
  · have hh : HtOk n t o r d i := by have := h.2.2.2.2.1; simpa [HgOk, hgB] using this
    have hm : 0 ≤ m ∧ m ≤ 65535 := by have := h.2.2.2.2.2; simpa [NumOk, nuB] using this
    rw [obB_4]; exact byt_app (byt_app (two _ _ (by omega) (by omega)) (htB_byt hh)) (two _ _ (by omega) (by omega))
theorem obB_two (k x : Int) (n : Bool) (t o r d i p q s m : Int) : 2 ≤ (obB k x n t o r d i p q s m).length := by
  unfold obB
  split
  · simp
  · split
    · simp
    · split
      · simp
      · simp
/-- Bytes that begin alike, as far as the shorter ones go, are of the same object. -/
theorem apart {kd0 ds0 : Int} {hn0 : Bool} {ht0 ho0 hr0 hd0 hi0 lx0 ly0 lz0 nm0 : Int} {kd1 ds1 : Int} {hn1 : Bool} {ht1 ho1 hr1 hd1 hi1 lx1 ly1 lz1 nm1 : Int} (h : ObOk kd0 ds0 hn0 ht0 ho0 hr0 hd0 hi0 lx0 ly0 lz0 nm0) (h' : ObOk kd1 ds1 hn1 ht1 ho1 hr1 hd1 hi1 lx1 ly1 lz1 nm1) :
    ((strOfNums ((obB kd0 ds0 hn0 ht0 ho0 hr0 hd0 hi0 lx0 ly0 lz0 nm0).take (min (obB kd0 ds0 hn0 ht0 ho0 hr0 hd0 hi0 lx0 ly0 lz0 nm0).length (obB kd1 ds1 hn1 ht1 ho1 hr1 hd1 hi1 lx1 ly1 lz1 nm1).length))).toList == (strOfNums ((obB kd1 ds1 hn1 ht1 ho1 hr1 hd1 hi1 lx1 ly1 lz1 nm1).take (min (obB kd0 ds0 hn0 ht0 ho0 hr0 hd0 hi0 lx0 ly0 lz0 nm0).length (obB kd1 ds1 hn1 ht1 ho1 hr1 hd1 hi1 lx1 ly1 lz1 nm1).length))).toList) = eqO kd0 ds0 hn0 ht0 ho0 hr0 hd0 hi0 lx0 ly0 lz0 nm0 kd1 ds1 hn1 ht1 ho1 hr1 hd1 hi1 lx1 ly1 lz1 nm1 := by
  have b1 := obB_byt h
  have b2 := obB_byt h'
  rw [str_eq _ _ (fun x hx => b1 x (List.take_subset _ _ hx)) (fun x hx => b2 x (List.take_subset _ _ hx)), Bool.eq_iff_iff, decide_eq_true_eq, eqO_iff]
  constructor
  · intro e
    have f1 := oparse_fwd [] ((obB kd1 ds1 hn1 ht1 ho1 hr1 hd1 hi1 lx1 ly1 lz1 nm1).drop (obB kd0 ds0 hn0 ht0 ho0 hr0 hd0 hi0 lx0 ly0 lz0 nm0).length) h
    have f2 := oparse_fwd [] ((obB kd0 ds0 hn0 ht0 ho0 hr0 hd0 hi0 lx0 ly0 lz0 nm0).drop (obB kd1 ds1 hn1 ht1 ho1 hr1 hd1 hi1 lx1 ly1 lz1 nm1).length) h'
    have same : obB kd0 ds0 hn0 ht0 ho0 hr0 hd0 hi0 lx0 ly0 lz0 nm0 ++ (obB kd1 ds1 hn1 ht1 ho1 hr1 hd1 hi1 lx1 ly1 lz1 nm1).drop (obB kd0 ds0 hn0 ht0 ho0 hr0 hd0 hi0 lx0 ly0 lz0 nm0).length = obB kd1 ds1 hn1 ht1 ho1 hr1 hd1 hi1 lx1 ly1 lz1 nm1 ++ (obB kd0 ds0 hn0 ht0 ho0 hr0 hd0 hi0 lx0 ly0 lz0 nm0).drop (obB kd1 ds1 hn1 ht1 ho1 hr1 hd1 hi1 lx1 ly1 lz1 nm1).length := by
      rcases Nat.le_total (obB kd0 ds0 hn0 ht0 ho0 hr0 hd0 hi0 lx0 ly0 lz0 nm0).length (obB kd1 ds1 hn1 ht1 ho1 hr1 hd1 hi1 lx1 ly1 lz1 nm1).length with hl | hl
      · rw [Nat.min_eq_left hl, List.take_length] at e
        rw [List.drop_eq_nil_of_le hl, List.append_nil]
        conv => lhs; rw [e]; rw [List.length_take, Nat.min_eq_left hl]
        exact List.take_append_drop _ _
      · rw [Nat.min_eq_right hl, List.take_length] at e
        rw [List.drop_eq_nil_of_le hl, List.append_nil]
        conv => rhs; rw [← e]; rw [List.length_take, Nat.min_eq_left hl]
        exact (List.take_append_drop _ _).symm
    rw [List.nil_append] at f1 f2
    rw [same, f2] at f1
    simp only [OP.mk.injEq] at f1
    obtain ⟨g1, g2, g3, g4, g5, g6, g7, g8, g9, g10, g11, g12, -⟩ := f1
    exact ⟨g1.symm, g2.symm, g3.symm, g4.symm, g5.symm, g6.symm, g7.symm, g8.symm, g9.symm, g10.symm, g11.symm, g12.symm⟩
  · rintro ⟨rfl, rfl, rfl, rfl, rfl, rfl, rfl, rfl, rfl, rfl, rfl, rfl⟩
    rfl
theorem Bs_pre {w : World} {b off cap : Nat} {xs : List Int} {T : Nat} (h : Bs w (.slice (some ⟨b, off, none⟩) xs.length cap) xs) (hT : 1 ≤ T) (hl : T ≤ xs.length) : Bs w (.slice (some ⟨b, off, none⟩) T cap) (xs.take T) := by
  obtain ⟨h1, h2, ⟨a, c, hv, _, hn⟩ | ⟨b', o', c', hv, hc, hcell⟩⟩ := h
  · rw [hn] at hl; simp at hl; omega
  · simp only [Value.slice.injEq, Option.some.injEq, Addr.mk.injEq, and_true, true_and] at hv
    obtain ⟨⟨rfl, rfl⟩, rfl⟩ := hv
    have hlen : (xs.take T).length = T := by rw [List.length_take]; omega
    refine ⟨fun x hx => h1 x (List.take_subset _ _ hx), by omega, .inr ⟨b, off, cap, by rw [hlen], by omega, fun i hi => ?_⟩⟩
    have hi' : i < T := by omega
    rw [hcell i (by omega)]
    simp [List.getD, hi']
theorem Bs_some {w : World} {v : Value} {xs : List Int} (h : Bs w v xs) (hl : 1 ≤ xs.length) : ∃ b off cap, v = .slice (some ⟨b, off, none⟩) xs.length cap ∧ xs.length ≤ cap := by
  obtain ⟨_, _, ⟨a, c, _, _, hn⟩ | ⟨b, o, c, hv, hc, _⟩⟩ := h
  · rw [hn] at hl; simp at hl
  · exact ⟨b, o, c, hv, hc⟩

set_option maxHeartbeats 8000000 in
theorem walk_10 (kd0 ds0 : Int) (hn0 : Bool) (ht0 ho0 hr0 hd0 hi0 lx0 ly0 lz0 nm0 : Int) (kd1 ds1 : Int) (hn1 : Bool) (ht1 ho1 hr1 hd1 hi1 lx1 ly1 lz1 nm1 : Int) (bs1 bs2 : List Int) (w : World) (cB : ∀ w, Calls Try.prog 13 #[.agg #[.int .i64 kd0, .int .i64 ds0, .bool hn0, .int .i64 ht0, .int .i64 ho0, .int .i64 hr0, .int .i64 hd0, .int .i64 hi0, .int .i64 lx0, .int .i64 ly0, .int .i64 lz0, .int .i64 nm0]] w (RetB bs1 1 w)) (cD : ∀ w, Calls Try.prog 13 #[.agg #[.int .i64 kd1, .int .i64 ds1, .bool hn1, .int .i64 ht1, .int .i64 ho1, .int .i64 hr1, .int .i64 hd1, .int .i64 hi1, .int .i64 lx1, .int .i64 ly1, .int .i64 lz1, .int .i64 nm1]] w (RetB bs2 0 w)) :
    Calls Try.prog 6 #[.agg #[.int .i64 kd0, .int .i64 ds0, .bool hn0, .int .i64 ht0, .int .i64 ho0, .int .i64 hr0, .int .i64 hd0, .int .i64 hi0, .int .i64 lx0, .int .i64 ly0, .int .i64 lz0, .int .i64 nm0], .agg #[.int .i64 kd1, .int .i64 ds1, .bool hn1, .int .i64 ht1, .int .i64 ho1, .int .i64 hr1, .int .i64 hd1, .int .i64 hi1, .int .i64 lx1, .int .i64 ly1, .int .i64 lz1, .int .i64 nm1]] w fun e w' => e = .returned (.bool true) ∧ Below w.heap.size w w' := by
  go_enter Try.func6, Try.ntmps6
  go_wp2_with fail
  have KA := Lib.hid ((cells12_alloc w kd0 ds0 hn0 ht0 ho0 hr0 hd0 hi0 lx0 ly0 lz0 nm0 37).below ((Below.refl _ _).alloc (Nat.le_refl _) (.cells #[.int .i64 kd1, .int .i64 ds1, .bool hn1, .int .i64 ht1, .int .i64 ho1, .int .i64 hr1, .int .i64 hd1, .int .i64 hi1, .int .i64 lx1, .int .i64 ly1, .int .i64 lz1, .int .i64 nm1] 37)))
  have KB : Hid (Cells12 ((w.alloc (.cells #[.int .i64 kd0, .int .i64 ds0, .bool hn0, .int .i64 ht0, .int .i64 ho0, .int .i64 hr0, .int .i64 hd0, .int .i64 hi0, .int .i64 lx0, .int .i64 ly0, .int .i64 lz0, .int .i64 nm0] 37)).alloc (.cells #[.int .i64 kd1, .int .i64 ds1, .bool hn1, .int .i64 ht1, .int .i64 ho1, .int .i64 hr1, .int .i64 hd1, .int .i64 hi1, .int .i64 lx1, .int .i64 ly1, .int .i64 lz1, .int .i64 nm1] 37)) (w.heap.size + 1) kd1 ds1 hn1 ht1 ho1 hr1 hd1 hi1 lx1 ly1 lz1 nm1) := by
    have h := cells12_alloc (w.alloc (.cells #[.int .i64 kd0, .int .i64 ds0, .bool hn0, .int .i64 ht0, .int .i64 ho0, .int .i64 hr0, .int .i64 hd0, .int .i64 hi0, .int .i64 lx0, .int .i64 ly0, .int .i64 lz0, .int .i64 nm0] 37)) kd1 ds1 hn1 ht1 ho1 hr1 hd1 hi1 lx1 ly1 lz1 nm1 37
    rwa [show (w.alloc (.cells #[.int .i64 kd0, .int .i64 ds0, .bool hn0, .int .i64 ht0, .int .i64 ho0, .int .i64 hr0, .int .i64 hd0, .int .i64 hi0, .int .i64 lx0, .int .i64 ly0, .int .i64 lz0, .int .i64 nm0] 37)).heap.size = w.heap.size + 1 by simp] at h
  have HB : Hid (Below w.heap.size w ((w.alloc (.cells #[.int .i64 kd0, .int .i64 ds0, .bool hn0, .int .i64 ht0, .int .i64 ho0, .int .i64 hr0, .int .i64 hd0, .int .i64 hi0, .int .i64 lx0, .int .i64 ly0, .int .i64 lz0, .int .i64 nm0] 37)).alloc (.cells #[.int .i64 kd1, .int .i64 ds1, .bool hn1, .int .i64 ht1, .int .i64 ho1, .int .i64 hr1, .int .i64 hd1, .int .i64 hi1, .int .i64 lx1, .int .i64 ly1, .int .i64 lz1, .int .i64 nm1] 37))) := ((Below.refl _ w).alloc (Nat.le_refl _) _).alloc (by simp) _
  generalize ((w.alloc (.cells #[.int .i64 kd0, .int .i64 ds0, .bool hn0, .int .i64 ht0, .int .i64 ho0, .int .i64 hr0, .int .i64 hd0, .int .i64 hi0, .int .i64 lx0, .int .i64 ly0, .int .i64 lz0, .int .i64 nm0] 37)).alloc (.cells #[.int .i64 kd1, .int .i64 ds1, .bool hn1, .int .i64 ht1, .int .i64 ho1, .int .i64 hr1, .int .i64 hd1, .int .i64 hi1, .int .i64 lx1, .int .i64 ly1, .int .i64 lz1, .int .i64 nm1] 37)) = V0 at *
  have ⟨c0, c1, c2, c3, c4, c5, c6, c7, c8, c9, c10, c11⟩ := KA.out; have ⟨d0, d1, d2, d3, d4, d5, d6, d7, d8, d9, d10, d11⟩ := KB.out
  refine (cB _).mono ?_
  rintro e V1 ⟨r1, rfl, hr1, hb⟩
  replace KA := Lib.hid (KA.out.below hb); replace KB := Lib.hid (KB.out.below hb); replace HB := Lib.hid (HB.out.trans (hb.mono HB.out.size)); clear c0 c1 c2 c3 c4 c5 c6 c7 c8 c9 c10 c11 d0 d1 d2 d3 d4 d5 d6 d7 d8 d9 d10 d11; have ⟨c0, c1, c2, c3, c4, c5, c6, c7, c8, c9, c10, c11⟩ := KA.out; have ⟨d0, d1, d2, d3, d4, d5, d6, d7, d8, d9, d10, d11⟩ := KB.out
  clear hb hr1
  go_wp2_with fail
  refine (cD _).mono ?_
  rintro e V2 ⟨r2, rfl, hr2, hb⟩
  replace KA := Lib.hid (KA.out.below hb); replace KB := Lib.hid (KB.out.below hb); replace HB := Lib.hid (HB.out.trans (hb.mono HB.out.size)); clear c0 c1 c2 c3 c4 c5 c6 c7 c8 c9 c10 c11 d0 d1 d2 d3 d4 d5 d6 d7 d8 d9 d10 d11; have ⟨c0, c1, c2, c3, c4, c5, c6, c7, c8, c9, c10, c11⟩ := KA.out; have ⟨d0, d1, d2, d3, d4, d5, d6, d7, d8, d9, d10, d11⟩ := KB.out
  clear hb hr2
  go_wp2_with fail
  refine (oawake_any _).mono ?_
  rintro e V3 ⟨rfl, hb⟩
  replace HB := Lib.hid (HB.out.trans (hb.mono HB.out.size))
  go_wp2_with fail
  go_ret
  exact ⟨rfl, HB.out⟩

set_option maxHeartbeats 8000000 in
theorem walk_01 (kd0 ds0 : Int) (hn0 : Bool) (ht0 ho0 hr0 hd0 hi0 lx0 ly0 lz0 nm0 : Int) (kd1 ds1 : Int) (hn1 : Bool) (ht1 ho1 hr1 hd1 hi1 lx1 ly1 lz1 nm1 : Int) (bs1 bs2 : List Int) (w : World) (cB : ∀ w, Calls Try.prog 13 #[.agg #[.int .i64 kd0, .int .i64 ds0, .bool hn0, .int .i64 ht0, .int .i64 ho0, .int .i64 hr0, .int .i64 hd0, .int .i64 hi0, .int .i64 lx0, .int .i64 ly0, .int .i64 lz0, .int .i64 nm0]] w (RetB bs1 0 w)) (cD : ∀ w, Calls Try.prog 13 #[.agg #[.int .i64 kd1, .int .i64 ds1, .bool hn1, .int .i64 ht1, .int .i64 ho1, .int .i64 hr1, .int .i64 hd1, .int .i64 hi1, .int .i64 lx1, .int .i64 ly1, .int .i64 lz1, .int .i64 nm1]] w (RetB bs2 1 w)) :
    Calls Try.prog 6 #[.agg #[.int .i64 kd0, .int .i64 ds0, .bool hn0, .int .i64 ht0, .int .i64 ho0, .int .i64 hr0, .int .i64 hd0, .int .i64 hi0, .int .i64 lx0, .int .i64 ly0, .int .i64 lz0, .int .i64 nm0], .agg #[.int .i64 kd1, .int .i64 ds1, .bool hn1, .int .i64 ht1, .int .i64 ho1, .int .i64 hr1, .int .i64 hd1, .int .i64 hi1, .int .i64 lx1, .int .i64 ly1, .int .i64 lz1, .int .i64 nm1]] w fun e w' => e = .returned (.bool true) ∧ Below w.heap.size w w' := by
  go_enter Try.func6, Try.ntmps6
  go_wp2_with fail
  have KA := Lib.hid ((cells12_alloc w kd0 ds0 hn0 ht0 ho0 hr0 hd0 hi0 lx0 ly0 lz0 nm0 37).below ((Below.refl _ _).alloc (Nat.le_refl _) (.cells #[.int .i64 kd1, .int .i64 ds1, .bool hn1, .int .i64 ht1, .int .i64 ho1, .int .i64 hr1, .int .i64 hd1, .int .i64 hi1, .int .i64 lx1, .int .i64 ly1, .int .i64 lz1, .int .i64 nm1] 37)))
  have KB : Hid (Cells12 ((w.alloc (.cells #[.int .i64 kd0, .int .i64 ds0, .bool hn0, .int .i64 ht0, .int .i64 ho0, .int .i64 hr0, .int .i64 hd0, .int .i64 hi0, .int .i64 lx0, .int .i64 ly0, .int .i64 lz0, .int .i64 nm0] 37)).alloc (.cells #[.int .i64 kd1, .int .i64 ds1, .bool hn1, .int .i64 ht1, .int .i64 ho1, .int .i64 hr1, .int .i64 hd1, .int .i64 hi1, .int .i64 lx1, .int .i64 ly1, .int .i64 lz1, .int .i64 nm1] 37)) (w.heap.size + 1) kd1 ds1 hn1 ht1 ho1 hr1 hd1 hi1 lx1 ly1 lz1 nm1) := by
    have h := cells12_alloc (w.alloc (.cells #[.int .i64 kd0, .int .i64 ds0, .bool hn0, .int .i64 ht0, .int .i64 ho0, .int .i64 hr0, .int .i64 hd0, .int .i64 hi0, .int .i64 lx0, .int .i64 ly0, .int .i64 lz0, .int .i64 nm0] 37)) kd1 ds1 hn1 ht1 ho1 hr1 hd1 hi1 lx1 ly1 lz1 nm1 37
    rwa [show (w.alloc (.cells #[.int .i64 kd0, .int .i64 ds0, .bool hn0, .int .i64 ht0, .int .i64 ho0, .int .i64 hr0, .int .i64 hd0, .int .i64 hi0, .int .i64 lx0, .int .i64 ly0, .int .i64 lz0, .int .i64 nm0] 37)).heap.size = w.heap.size + 1 by simp] at h
  have HB : Hid (Below w.heap.size w ((w.alloc (.cells #[.int .i64 kd0, .int .i64 ds0, .bool hn0, .int .i64 ht0, .int .i64 ho0, .int .i64 hr0, .int .i64 hd0, .int .i64 hi0, .int .i64 lx0, .int .i64 ly0, .int .i64 lz0, .int .i64 nm0] 37)).alloc (.cells #[.int .i64 kd1, .int .i64 ds1, .bool hn1, .int .i64 ht1, .int .i64 ho1, .int .i64 hr1, .int .i64 hd1, .int .i64 hi1, .int .i64 lx1, .int .i64 ly1, .int .i64 lz1, .int .i64 nm1] 37))) := ((Below.refl _ w).alloc (Nat.le_refl _) _).alloc (by simp) _
  generalize ((w.alloc (.cells #[.int .i64 kd0, .int .i64 ds0, .bool hn0, .int .i64 ht0, .int .i64 ho0, .int .i64 hr0, .int .i64 hd0, .int .i64 hi0, .int .i64 lx0, .int .i64 ly0, .int .i64 lz0, .int .i64 nm0] 37)).alloc (.cells #[.int .i64 kd1, .int .i64 ds1, .bool hn1, .int .i64 ht1, .int .i64 ho1, .int .i64 hr1, .int .i64 hd1, .int .i64 hi1, .int .i64 lx1, .int .i64 ly1, .int .i64 lz1, .int .i64 nm1] 37)) = V0 at *
  have ⟨c0, c1, c2, c3, c4, c5, c6, c7, c8, c9, c10, c11⟩ := KA.out; have ⟨d0, d1, d2, d3, d4, d5, d6, d7, d8, d9, d10, d11⟩ := KB.out
  refine (cB _).mono ?_
  rintro e V1 ⟨r1, rfl, hr1, hb⟩
  replace KA := Lib.hid (KA.out.below hb); replace KB := Lib.hid (KB.out.below hb); replace HB := Lib.hid (HB.out.trans (hb.mono HB.out.size)); clear c0 c1 c2 c3 c4 c5 c6 c7 c8 c9 c10 c11 d0 d1 d2 d3 d4 d5 d6 d7 d8 d9 d10 d11; have ⟨c0, c1, c2, c3, c4, c5, c6, c7, c8, c9, c10, c11⟩ := KA.out; have ⟨d0, d1, d2, d3, d4, d5, d6, d7, d8, d9, d10, d11⟩ := KB.out
  clear hb hr1
  go_wp2_with fail
  refine (cD _).mono ?_
  rintro e V2 ⟨r2, rfl, hr2, hb⟩
  replace KA := Lib.hid (KA.out.below hb); replace KB := Lib.hid (KB.out.below hb); replace HB := Lib.hid (HB.out.trans (hb.mono HB.out.size)); clear c0 c1 c2 c3 c4 c5 c6 c7 c8 c9 c10 c11 d0 d1 d2 d3 d4 d5 d6 d7 d8 d9 d10 d11; have ⟨c0, c1, c2, c3, c4, c5, c6, c7, c8, c9, c10, c11⟩ := KA.out; have ⟨d0, d1, d2, d3, d4, d5, d6, d7, d8, d9, d10, d11⟩ := KB.out
  clear hb hr2
  go_wp2_with fail
  refine (oawake_any _).mono ?_
  rintro e V3 ⟨rfl, hb⟩
  replace HB := Lib.hid (HB.out.trans (hb.mono HB.out.size))
  go_wp2_with fail
  go_ret
  exact ⟨rfl, HB.out⟩

set_option maxHeartbeats 8000000 in
theorem walk_11 (kd0 ds0 : Int) (hn0 : Bool) (ht0 ho0 hr0 hd0 hi0 lx0 ly0 lz0 nm0 : Int) (kd1 ds1 : Int) (hn1 : Bool) (ht1 ho1 hr1 hd1 hi1 lx1 ly1 lz1 nm1 : Int) (bs1 bs2 : List Int) (w : World) (cB : ∀ w, Calls Try.prog 13 #[.agg #[.int .i64 kd0, .int .i64 ds0, .bool hn0, .int .i64 ht0, .int .i64 ho0, .int .i64 hr0, .int .i64 hd0, .int .i64 hi0, .int .i64 lx0, .int .i64 ly0, .int .i64 lz0, .int .i64 nm0]] w (RetB bs1 1 w)) (cD : ∀ w, Calls Try.prog 13 #[.agg #[.int .i64 kd1, .int .i64 ds1, .bool hn1, .int .i64 ht1, .int .i64 ho1, .int .i64 hr1, .int .i64 hd1, .int .i64 hi1, .int .i64 lx1, .int .i64 ly1, .int .i64 lz1, .int .i64 nm1]] w (RetB bs2 1 w)) :
    Calls Try.prog 6 #[.agg #[.int .i64 kd0, .int .i64 ds0, .bool hn0, .int .i64 ht0, .int .i64 ho0, .int .i64 hr0, .int .i64 hd0, .int .i64 hi0, .int .i64 lx0, .int .i64 ly0, .int .i64 lz0, .int .i64 nm0], .agg #[.int .i64 kd1, .int .i64 ds1, .bool hn1, .int .i64 ht1, .int .i64 ho1, .int .i64 hr1, .int .i64 hd1, .int .i64 hi1, .int .i64 lx1, .int .i64 ly1, .int .i64 lz1, .int .i64 nm1]] w fun e w' => e = .returned (.bool true) ∧ Below w.heap.size w w' := by
  go_enter Try.func6, Try.ntmps6
  go_wp2_with fail
  have KA := Lib.hid ((cells12_alloc w kd0 ds0 hn0 ht0 ho0 hr0 hd0 hi0 lx0 ly0 lz0 nm0 37).below ((Below.refl _ _).alloc (Nat.le_refl _) (.cells #[.int .i64 kd1, .int .i64 ds1, .bool hn1, .int .i64 ht1, .int .i64 ho1, .int .i64 hr1, .int .i64 hd1, .int .i64 hi1, .int .i64 lx1, .int .i64 ly1, .int .i64 lz1, .int .i64 nm1] 37)))
  have KB : Hid (Cells12 ((w.alloc (.cells #[.int .i64 kd0, .int .i64 ds0, .bool hn0, .int .i64 ht0, .int .i64 ho0, .int .i64 hr0, .int .i64 hd0, .int .i64 hi0, .int .i64 lx0, .int .i64 ly0, .int .i64 lz0, .int .i64 nm0] 37)).alloc (.cells #[.int .i64 kd1, .int .i64 ds1, .bool hn1, .int .i64 ht1, .int .i64 ho1, .int .i64 hr1, .int .i64 hd1, .int .i64 hi1, .int .i64 lx1, .int .i64 ly1, .int .i64 lz1, .int .i64 nm1] 37)) (w.heap.size + 1) kd1 ds1 hn1 ht1 ho1 hr1 hd1 hi1 lx1 ly1 lz1 nm1) := by
    have h := cells12_alloc (w.alloc (.cells #[.int .i64 kd0, .int .i64 ds0, .bool hn0, .int .i64 ht0, .int .i64 ho0, .int .i64 hr0, .int .i64 hd0, .int .i64 hi0, .int .i64 lx0, .int .i64 ly0, .int .i64 lz0, .int .i64 nm0] 37)) kd1 ds1 hn1 ht1 ho1 hr1 hd1 hi1 lx1 ly1 lz1 nm1 37
    rwa [show (w.alloc (.cells #[.int .i64 kd0, .int .i64 ds0, .bool hn0, .int .i64 ht0, .int .i64 ho0, .int .i64 hr0, .int .i64 hd0, .int .i64 hi0, .int .i64 lx0, .int .i64 ly0, .int .i64 lz0, .int .i64 nm0] 37)).heap.size = w.heap.size + 1 by simp] at h
  have HB : Hid (Below w.heap.size w ((w.alloc (.cells #[.int .i64 kd0, .int .i64 ds0, .bool hn0, .int .i64 ht0, .int .i64 ho0, .int .i64 hr0, .int .i64 hd0, .int .i64 hi0, .int .i64 lx0, .int .i64 ly0, .int .i64 lz0, .int .i64 nm0] 37)).alloc (.cells #[.int .i64 kd1, .int .i64 ds1, .bool hn1, .int .i64 ht1, .int .i64 ho1, .int .i64 hr1, .int .i64 hd1, .int .i64 hi1, .int .i64 lx1, .int .i64 ly1, .int .i64 lz1, .int .i64 nm1] 37))) := ((Below.refl _ w).alloc (Nat.le_refl _) _).alloc (by simp) _
  generalize ((w.alloc (.cells #[.int .i64 kd0, .int .i64 ds0, .bool hn0, .int .i64 ht0, .int .i64 ho0, .int .i64 hr0, .int .i64 hd0, .int .i64 hi0, .int .i64 lx0, .int .i64 ly0, .int .i64 lz0, .int .i64 nm0] 37)).alloc (.cells #[.int .i64 kd1, .int .i64 ds1, .bool hn1, .int .i64 ht1, .int .i64 ho1, .int .i64 hr1, .int .i64 hd1, .int .i64 hi1, .int .i64 lx1, .int .i64 ly1, .int .i64 lz1, .int .i64 nm1] 37)) = V0 at *
  have ⟨c0, c1, c2, c3, c4, c5, c6, c7, c8, c9, c10, c11⟩ := KA.out; have ⟨d0, d1, d2, d3, d4, d5, d6, d7, d8, d9, d10, d11⟩ := KB.out
  refine (cB _).mono ?_
  rintro e V1 ⟨r1, rfl, hr1, hb⟩
  replace KA := Lib.hid (KA.out.below hb); replace KB := Lib.hid (KB.out.below hb); replace HB := Lib.hid (HB.out.trans (hb.mono HB.out.size)); clear c0 c1 c2 c3 c4 c5 c6 c7 c8 c9 c10 c11 d0 d1 d2 d3 d4 d5 d6 d7 d8 d9 d10 d11; have ⟨c0, c1, c2, c3, c4, c5, c6, c7, c8, c9, c10, c11⟩ := KA.out; have ⟨d0, d1, d2, d3, d4, d5, d6, d7, d8, d9, d10, d11⟩ := KB.out
  clear hb hr1
  go_wp2_with fail
  refine (cD _).mono ?_
  rintro e V2 ⟨r2, rfl, hr2, hb⟩
  replace KA := Lib.hid (KA.out.below hb); replace KB := Lib.hid (KB.out.below hb); replace HB := Lib.hid (HB.out.trans (hb.mono HB.out.size)); clear c0 c1 c2 c3 c4 c5 c6 c7 c8 c9 c10 c11 d0 d1 d2 d3 d4 d5 d6 d7 d8 d9 d10 d11; have ⟨c0, c1, c2, c3, c4, c5, c6, c7, c8, c9, c10, c11⟩ := KA.out; have ⟨d0, d1, d2, d3, d4, d5, d6, d7, d8, d9, d10, d11⟩ := KB.out
  clear hb hr2
  go_wp2_with fail
  refine (oawake_any _).mono ?_
  rintro e V3 ⟨rfl, hb⟩
  replace HB := Lib.hid (HB.out.trans (hb.mono HB.out.size))
  go_wp2_with fail
  go_ret
  exact ⟨rfl, HB.out⟩

set_option maxHeartbeats 16000000 in
theorem walk_00a (kd0 ds0 : Int) (hn0 : Bool) (ht0 ho0 hr0 hd0 hi0 lx0 ly0 lz0 nm0 : Int) (kd1 ds1 : Int) (hn1 : Bool) (ht1 ho1 hr1 hd1 hi1 lx1 ly1 lz1 nm1 : Int) (bs1 bs2 : List Int) (w : World) (cB : ∀ w, Calls Try.prog 13 #[.agg #[.int .i64 kd0, .int .i64 ds0, .bool hn0, .int .i64 ht0, .int .i64 ho0, .int .i64 hr0, .int .i64 hd0, .int .i64 hi0, .int .i64 lx0, .int .i64 ly0, .int .i64 lz0, .int .i64 nm0]] w (RetB bs1 0 w)) (cD : ∀ w, Calls Try.prog 13 #[.agg #[.int .i64 kd1, .int .i64 ds1, .bool hn1, .int .i64 ht1, .int .i64 ho1, .int .i64 hr1, .int .i64 hd1, .int .i64 hi1, .int .i64 lx1, .int .i64 ly1, .int .i64 lz1, .int .i64 nm1]] w (RetB bs2 0 w)) (hl1 : 2 ≤ bs1.length) (hl2 : 2 ≤ bs2.length) (hcmp : bs2.length < bs1.length)
    (hS : ((strOfNums (bs1.take bs2.length)).toList == (strOfNums (bs2.take bs2.length)).toList) = eqO kd0 ds0 hn0 ht0 ho0 hr0 hd0 hi0 lx0 ly0 lz0 nm0 kd1 ds1 hn1 ht1 ho1 hr1 hd1 hi1 lx1 ly1 lz1 nm1) :
    Calls Try.prog 6 #[.agg #[.int .i64 kd0, .int .i64 ds0, .bool hn0, .int .i64 ht0, .int .i64 ho0, .int .i64 hr0, .int .i64 hd0, .int .i64 hi0, .int .i64 lx0, .int .i64 ly0, .int .i64 lz0, .int .i64 nm0], .agg #[.int .i64 kd1, .int .i64 ds1, .bool hn1, .int .i64 ht1, .int .i64 ho1, .int .i64 hr1, .int .i64 hd1, .int .i64 hi1, .int .i64 lx1, .int .i64 ly1, .int .i64 lz1, .int .i64 nm1]] w fun e w' => e = .returned (.bool true) ∧ Below w.heap.size w w' := by
  have hT1 : bs2.length ≤ bs1.length := by omega
  have hT2 : bs2.length ≤ bs2.length := by omega
  have hT3 : 1 ≤ bs2.length := by omega
  go_enter Try.func6, Try.ntmps6
  go_wp2_with fail
  have KA := Lib.hid ((cells12_alloc w kd0 ds0 hn0 ht0 ho0 hr0 hd0 hi0 lx0 ly0 lz0 nm0 37).below ((Below.refl _ _).alloc (Nat.le_refl _) (.cells #[.int .i64 kd1, .int .i64 ds1, .bool hn1, .int .i64 ht1, .int .i64 ho1, .int .i64 hr1, .int .i64 hd1, .int .i64 hi1, .int .i64 lx1, .int .i64 ly1, .int .i64 lz1, .int .i64 nm1] 37)))
  have KB : Hid (Cells12 ((w.alloc (.cells #[.int .i64 kd0, .int .i64 ds0, .bool hn0, .int .i64 ht0, .int .i64 ho0, .int .i64 hr0, .int .i64 hd0, .int .i64 hi0, .int .i64 lx0, .int .i64 ly0, .int .i64 lz0, .int .i64 nm0] 37)).alloc (.cells #[.int .i64 kd1, .int .i64 ds1, .bool hn1, .int .i64 ht1, .int .i64 ho1, .int .i64 hr1, .int .i64 hd1, .int .i64 hi1, .int .i64 lx1, .int .i64 ly1, .int .i64 lz1, .int .i64 nm1] 37)) (w.heap.size + 1) kd1 ds1 hn1 ht1 ho1 hr1 hd1 hi1 lx1 ly1 lz1 nm1) := by
    have h := cells12_alloc (w.alloc (.cells #[.int .i64 kd0, .int .i64 ds0, .bool hn0, .int .i64 ht0, .int .i64 ho0, .int .i64 hr0, .int .i64 hd0, .int .i64 hi0, .int .i64 lx0, .int .i64 ly0, .int .i64 lz0, .int .i64 nm0] 37)) kd1 ds1 hn1 ht1 ho1 hr1 hd1 hi1 lx1 ly1 lz1 nm1 37
    rwa [show (w.alloc (.cells #[.int .i64 kd0, .int .i64 ds0, .bool hn0, .int .i64 ht0, .int .i64 ho0, .int .i64 hr0, .int .i64 hd0, .int .i64 hi0, .int .i64 lx0, .int .i64 ly0, .int .i64 lz0, .int .i64 nm0] 37)).heap.size = w.heap.size + 1 by simp] at h
  have HB : Hid (Below w.heap.size w ((w.alloc (.cells #[.int .i64 kd0, .int .i64 ds0, .bool hn0, .int .i64 ht0, .int .i64 ho0, .int .i64 hr0, .int .i64 hd0, .int .i64 hi0, .int .i64 lx0, .int .i64 ly0, .int .i64 lz0, .int .i64 nm0] 37)).alloc (.cells #[.int .i64 kd1, .int .i64 ds1, .bool hn1, .int .i64 ht1, .int .i64 ho1, .int .i64 hr1, .int .i64 hd1, .int .i64 hi1, .int .i64 lx1, .int .i64 ly1, .int .i64 lz1, .int .i64 nm1] 37))) := ((Below.refl _ w).alloc (Nat.le_refl _) _).alloc (by simp) _
  generalize ((w.alloc (.cells #[.int .i64 kd0, .int .i64 ds0, .bool hn0, .int .i64 ht0, .int .i64 ho0, .int .i64 hr0, .int .i64 hd0, .int .i64 hi0, .int .i64 lx0, .int .i64 ly0, .int .i64 lz0, .int .i64 nm0] 37)).alloc (.cells #[.int .i64 kd1, .int .i64 ds1, .bool hn1, .int .i64 ht1, .int .i64 ho1, .int .i64 hr1, .int .i64 hd1, .int .i64 hi1, .int .i64 lx1, .int .i64 ly1, .int .i64 lz1, .int .i64 nm1] 37)) = V0 at *
  have ⟨c0, c1, c2, c3, c4, c5, c6, c7, c8, c9, c10, c11⟩ := KA.out; have ⟨d0, d1, d2, d3, d4, d5, d6, d7, d8, d9, d10, d11⟩ := KB.out
  refine (cB _).mono ?_
  rintro e V1 ⟨r1, rfl, hr1, hb⟩
  replace KA := Lib.hid (KA.out.below hb); replace KB := Lib.hid (KB.out.below hb); replace HB := Lib.hid (HB.out.trans (hb.mono HB.out.size)); clear c0 c1 c2 c3 c4 c5 c6 c7 c8 c9 c10 c11 d0 d1 d2 d3 d4 d5 d6 d7 d8 d9 d10 d11; have ⟨c0, c1, c2, c3, c4, c5, c6, c7, c8, c9, c10, c11⟩ := KA.out; have ⟨d0, d1, d2, d3, d4, d5, d6, d7, d8, d9, d10, d11⟩ := KB.out
  clear hb
  obtain ⟨b1, o1, p1, rfl, hp1⟩ := Bs_some hr1 (by omega)
  have R1 := Lib.hid hr1
  clear hr1
  go_wp2_with fail
  refine (cD _).mono ?_
  rintro e V4 ⟨r2, rfl, hr2, hb⟩
  replace KA := Lib.hid (KA.out.below hb); replace KB := Lib.hid (KB.out.below hb); replace HB := Lib.hid (HB.out.trans (hb.mono HB.out.size)); clear c0 c1 c2 c3 c4 c5 c6 c7 c8 c9 c10 c11 d0 d1 d2 d3 d4 d5 d6 d7 d8 d9 d10 d11; have ⟨c0, c1, c2, c3, c4, c5, c6, c7, c8, c9, c10, c11⟩ := KA.out; have ⟨d0, d1, d2, d3, d4, d5, d6, d7, d8, d9, d10, d11⟩ := KB.out
  replace R1 := Lib.hid (Bs_below R1.out hb)
  clear hb
  obtain ⟨b2, o2, p2, rfl, hp2⟩ := Bs_some hr2 (by omega)
  have R2 := Lib.hid hr2
  clear hr2
  go_wp2_with fail
  have hT0 : (0 : Int) ≤ ((bs2.length : Nat) : Int) := by omega
  have hTp1 : ((bs2.length : Nat) : Int) ≤ (p1 : Int) := by omega
  have hTp2 : ((bs2.length : Nat) : Int) ≤ (p2 : Int) := by omega
  have hTm : (((bs2.length : Nat) : Int)).toNat = bs2.length := Int.toNat_natCast _
  have kc : ∀ w', Below V4.heap.size V4 w' → Cells12 w' w.heap.size kd0 ds0 hn0 ht0 ho0 hr0 hd0 hi0 lx0 ly0 lz0 nm0 ∧ Cells12 w' (w.heap.size + 1) kd1 ds1 hn1 ht1 ho1 hr1 hd1 hi1 lx1 ly1 lz1 nm1 := fun w' h => ⟨KA.out.below h, KB.out.below h⟩
  unfold Cells12 at kc
  have hv1 : ∀ w', Below V4.heap.size V4 w' → (convert 24 9 (.slice (some ⟨b1, o1, none⟩) bs2.length p1)).run Try.prog w' = .ok (.string (strOfNums (bs1.take bs2.length))) w' := fun w' h => Bs_conv (Bs_pre (Bs_below R1.out h) hT3 hT1)
  have hv2 : ∀ w', Below V4.heap.size V4 w' → (convert 24 9 (.slice (some ⟨b2, o2, none⟩) bs2.length p2)).run Try.prog w' = .ok (.string (strOfNums (bs2.take bs2.length))) w' := fun w' h => Bs_conv (Bs_pre (Bs_below R2.out h) hT3 hT2)
  generalize strOfNums (bs1.take bs2.length) = S1 at *
  generalize strOfNums (bs2.take bs2.length) = S2 at *
  refine wp_region_typed (C := fun w' => Below V4.heap.size V4 w') (X := fun w w' => Below w.heap.size w w') (n := 48) (by kernel_rfl) (by kernel_rfl) rfl (fun w => Below.refl _ w) (Below.refl _ _).drew ?_
  refine w_call (Is _) (fun _ _ _ h _ => h) 15 (.inl rfl) (fun ρ w hC hc hfn hf => by exact ⟨_, by (conv => lhs; simp [execOp, resolve, invoke, go_sem, hc, hfn]), tc_below hC (oawake_any w)⟩) ?_
  refine w_is (fun w => Below.refl _ w) _ (.inl rfl) (fun ρ w hC hc hfn hf => by have e32 : ρ (.tmp 32) = _ := hf 32 (by decide); (conv => lhs; simp [execOp, go_sem, hc, e32])) ?_
  refine w_is (fun w => Below.refl _ w) _ (.inr ⟨1, 33, true, rfl, rfl, known_is rfl⟩) (fun ρ w hC hc hfn hf => by have e5 : ρ (.tmp 5) = _ := hf 5 (by decide); (conv => lhs; simp [execOp, go_sem, hc, e5])) ?_
  refine w_is (fun w => Below.refl _ w) _ (.inr ⟨1, 33, true, rfl, rfl, known_is rfl⟩) (fun ρ w hC hc hfn hf => by have e9 : ρ (.tmp 9) = _ := hf 9 (by decide); (conv => lhs; simp [execOp, go_sem, hc, e9])) ?_
  refine w_is (fun w => Below.refl _ w) _ (.inr ⟨1, 33, true, rfl, rfl, known_is rfl⟩) (fun ρ w hC hc hfn hf => by have e34 : ρ (.tmp 34) = _ := hf 34 (by decide); have e35 : ρ (.tmp 35) = _ := hf 35 (by decide); (conv => lhs; simp [execOp, go_sem, hc, e34, e35, hT0, hTp1, hTm])) ?_
  refine w_is (fun w => Below.refl _ w) _ (.inr ⟨1, 33, true, rfl, rfl, known_is rfl⟩) (fun ρ w hC hc hfn hf => by have e36 : ρ (.tmp 36) = _ := hf 36 (by decide); (conv => lhs; simp [execOp, go_sem, hc, e36, hv1 w hC])) ?_
  refine w_is (fun w => Below.refl _ w) _ (.inr ⟨1, 33, true, rfl, rfl, known_is rfl⟩) (fun ρ w hC hc hfn hf => by have e7 : ρ (.tmp 7) = _ := hf 7 (by decide); (conv => lhs; simp [execOp, go_sem, hc, e7])) ?_
  refine w_is (fun w => Below.refl _ w) _ (.inr ⟨1, 33, true, rfl, rfl, known_is rfl⟩) (fun ρ w hC hc hfn hf => by have e9 : ρ (.tmp 9) = _ := hf 9 (by decide); (conv => lhs; simp [execOp, go_sem, hc, e9])) ?_
  refine w_is (fun w => Below.refl _ w) _ (.inr ⟨1, 33, true, rfl, rfl, known_is rfl⟩) (fun ρ w hC hc hfn hf => by have e38 : ρ (.tmp 38) = _ := hf 38 (by decide); have e39 : ρ (.tmp 39) = _ := hf 39 (by decide); (conv => lhs; simp [execOp, go_sem, hc, e38, e39, hT0, hTp2, hTm])) ?_
  refine w_is (fun w => Below.refl _ w) _ (.inr ⟨1, 33, true, rfl, rfl, known_is rfl⟩) (fun ρ w hC hc hfn hf => by have e40 : ρ (.tmp 40) = _ := hf 40 (by decide); (conv => lhs; simp [execOp, go_sem, hc, e40, hv2 w hC])) ?_
  refine w_is (fun w => Below.refl _ w) _ (.inr ⟨1, 33, true, rfl, rfl, known_is rfl⟩) (fun ρ w hC hc hfn hf => by have e37 : ρ (.tmp 37) = _ := hf 37 (by decide); have e41 : ρ (.tmp 41) = _ := hf 41 (by decide); (conv => lhs; simp [execOp, go_sem, hc, e37, e41, hS])) ?_
  refine w_is (fun w => Below.refl _ w) _ (.inr ⟨1, 33, true, rfl, rfl, known_is rfl⟩) (fun ρ w hC hc hfn hf => by have e2 : ρ (.tmp 2) = _ := hf 2 (by decide); (conv => lhs; simp [execOp, go_sem, hc, e2, kc w hC])) ?_
  refine w_is (fun w => Below.refl _ w) _ (.inr ⟨1, 33, true, rfl, rfl, known_is rfl⟩) (fun ρ w hC hc hfn hf => by have e3 : ρ (.tmp 3) = _ := hf 3 (by decide); (conv => lhs; simp [execOp, go_sem, hc, e3, kc w hC])) ?_
  refine w_is (fun w => Below.refl _ w) _ (.inr ⟨1, 33, true, rfl, rfl, known_is rfl⟩) (fun ρ w hC hc hfn hf => by have e43 : ρ (.tmp 43) = _ := hf 43 (by decide); have e44 : ρ (.tmp 44) = _ := hf 44 (by decide); (conv => lhs; simp [execOp, go_sem, hc, e43, e44, eql37, guard37])) ?_
  refine w_is (fun w => Below.refl _ w) _ (.inr ⟨1, 33, true, rfl, rfl, known_is rfl⟩) (fun ρ w hC hc hfn hf => by have e42 : ρ (.tmp 42) = _ := hf 42 (by decide); have e45 : ρ (.tmp 45) = _ := hf 45 (by decide); (conv => lhs; simp [execOp, go_sem, hc, e42, e45])) ?_
  refine w_is (fun w => Below.refl _ w) _ (.inl rfl) (fun ρ w hC hc hfn hf => by have e33 : ρ (.tmp 33) = _ := hf 33 (by decide); have e46 : ρ (.tmp 46) = _ := hf 46 (by decide); (conv => lhs; simp [execOp, go_sem, hc, e33, e46])) ?_
  refine w_is (fun w => Below.refl _ w) _ (.inl rfl) (fun ρ w hC hc hfn hf => by have e47 : ρ (.tmp 47) = _ := hf 47 (by decide); (conv => lhs; simp [execOp, go_sem, hc, e47])) ?_
  intro A V5 hC hn hd hf
  have y0 : A.eval (.tmp 0) = _ := Eq.trans (hf 0) (by conv => lhs; simp [go_sem])
  have y1 : A.eval (.tmp 1) = _ := Eq.trans (hf 1) (by conv => lhs; simp [go_sem])
  have y2 : A.eval (.tmp 2) = _ := Eq.trans (hf 2) (by conv => lhs; simp [go_sem])
  have y3 : A.eval (.tmp 3) = _ := Eq.trans (hf 3) (by conv => lhs; simp [go_sem])
  have y4 : A.eval (.tmp 4) = _ := hf 4
  have y5 : A.eval (.tmp 5) = _ := Eq.trans (hf 5) (by conv => lhs; simp [go_sem])
  have y6 : A.eval (.tmp 6) = _ := Eq.trans (hf 6) (by conv => lhs; simp [go_sem])
  have y7 : A.eval (.tmp 7) = _ := Eq.trans (hf 7) (by conv => lhs; simp [go_sem])
  have y8 : A.eval (.tmp 8) = _ := Eq.trans (hf 8) (by conv => lhs; simp [go_sem])
  have y9 : A.eval (.tmp 9) = _ := Eq.trans (hf 9) (by conv => lhs; simp [go_sem])
  have y10 : A.eval (.tmp 10) = _ := Eq.trans (hf 10) (by conv => lhs; simp [go_sem])
  have y11 : A.eval (.tmp 11) = _ := Eq.trans (hf 11) (by conv => lhs; simp [go_sem])
  have y12 : A.eval (.tmp 12) = _ := Eq.trans (hf 12) (by conv => lhs; simp [go_sem])
  have y13 : A.eval (.tmp 13) = _ := Eq.trans (hf 13) (by conv => lhs; simp [go_sem])
  have y14 : A.eval (.tmp 14) = _ := Eq.trans (hf 14) (by conv => lhs; simp [go_sem])
  have y15 : A.eval (.tmp 15) = _ := Eq.trans (hf 15) (by conv => lhs; simp [go_sem])
  have y16 : A.eval (.tmp 16) = _ := Eq.trans (hf 16) (by conv => lhs; simp [go_sem])
  have y17 : A.eval (.tmp 17) = _ := Eq.trans (hf 17) (by conv => lhs; simp [go_sem])
  have y18 : A.eval (.tmp 18) = _ := Eq.trans (hf 18) (by conv => lhs; simp [go_sem])
  have y19 : A.eval (.tmp 19) = _ := Eq.trans (hf 19) (by conv => lhs; simp [go_sem])
  have y20 : A.eval (.tmp 20) = _ := Eq.trans (hf 20) (by conv => lhs; simp [go_sem])
  have y21 : A.eval (.tmp 21) = _ := Eq.trans (hf 21) (by conv => lhs; simp [go_sem])
  have y22 : A.eval (.tmp 22) = _ := Eq.trans (hf 22) (by conv => lhs; simp [go_sem])
  have y23 : A.eval (.tmp 23) = _ := Eq.trans (hf 23) (by conv => lhs; simp [go_sem])
  have y24 : A.eval (.tmp 24) = _ := Eq.trans (hf 24) (by conv => lhs; simp [go_sem])
  have y25 : A.eval (.tmp 25) = _ := Eq.trans (hf 25) (by conv => lhs; simp [go_sem])
  have y26 : A.eval (.tmp 26) = _ := Eq.trans (hf 26) (by conv => lhs; simp [go_sem])
  have y27 : A.eval (.tmp 27) = _ := Eq.trans (hf 27) (by conv => lhs; simp [go_sem])
  have y28 : A.eval (.tmp 28) = _ := Eq.trans (hf 28) (by conv => lhs; simp [go_sem])
  have y29 : A.eval (.tmp 29) = _ := Eq.trans (hf 29) (by conv => lhs; simp [go_sem])
  have y30 : A.eval (.tmp 30) = _ := Eq.trans (hf 30) (by conv => lhs; simp [go_sem])
  have y31 : A.eval (.tmp 31) = _ := Eq.trans (hf 31) (by conv => lhs; simp [go_sem])
  have y32 : A.eval (.tmp 32) = _ := hf 32
  have y33 : A.eval (.tmp 33) = _ := hf 33
  have y34 : A.eval (.tmp 34) = _ := hf 34
  have y35 : A.eval (.tmp 35) = _ := hf 35
  have y36 : A.eval (.tmp 36) = _ := hf 36
  have y37 : A.eval (.tmp 37) = _ := hf 37
  have y38 : A.eval (.tmp 38) = _ := hf 38
  have y39 : A.eval (.tmp 39) = _ := hf 39
  have y40 : A.eval (.tmp 40) = _ := hf 40
  have y41 : A.eval (.tmp 41) = _ := hf 41
  have y42 : A.eval (.tmp 42) = _ := hf 42
  have y43 : A.eval (.tmp 43) = _ := hf 43
  have y44 : A.eval (.tmp 44) = _ := hf 44
  have y45 : A.eval (.tmp 45) = _ := hf 45
  have y46 : A.eval (.tmp 46) = _ := hf 46
  have y47 : A.eval (.tmp 47) = _ := hf 47
  clear hf
  have hA := frame_eq hn
  rw [show List.range 48 = [0, 1, 2, 3, 4, 5, 6, 7, 8, 9, 10, 11, 12, 13, 14, 15, 16, 17, 18, 19, 20, 21, 22, 23, 24, 25, 26, 27, 28, 29, 30, 31, 32, 33, 34, 35, 36, 37, 38, 39, 40, 41, 42, 43, 44, 45, 46, 47] from rfl, hd] at hA
  simp only [List.map_cons, List.map_nil, y0, y1, y2, y3, y4, y5, y6, y7, y8, y9, y10, y11, y12, y13, y14, y15, y16, y17, y18, y19, y20, y21, y22, y23, y24, y25, y26, y27, y28, y29, y30, y31, y32, y33, y34, y35, y36, y37, y38, y39, y40, y41, y42, y43, y44, y45, y46, y47] at hA
  clear y0 y1 y2 y3 y4 y5 y6 y7 y8 y9 y10 y11 y12 y13 y14 y15 y16 y17 y18 y19 y20 y21 y22 y23 y24 y25 y26 y27 y28 y29 y30 y31 y32 y33 y34 y35 y36 y37 y38 y39 y40 y41 y42 y43 y44 y45 y46 y47
  clear hn hd
  subst hA
  go_wp2_with fail
  go_ret
  exact ⟨rfl, HB.out.trans (hC.mono HB.out.size)⟩

set_option maxHeartbeats 16000000 in
theorem walk_00b (kd0 ds0 : Int) (hn0 : Bool) (ht0 ho0 hr0 hd0 hi0 lx0 ly0 lz0 nm0 : Int) (kd1 ds1 : Int) (hn1 : Bool) (ht1 ho1 hr1 hd1 hi1 lx1 ly1 lz1 nm1 : Int) (bs1 bs2 : List Int) (w : World) (cB : ∀ w, Calls Try.prog 13 #[.agg #[.int .i64 kd0, .int .i64 ds0, .bool hn0, .int .i64 ht0, .int .i64 ho0, .int .i64 hr0, .int .i64 hd0, .int .i64 hi0, .int .i64 lx0, .int .i64 ly0, .int .i64 lz0, .int .i64 nm0]] w (RetB bs1 0 w)) (cD : ∀ w, Calls Try.prog 13 #[.agg #[.int .i64 kd1, .int .i64 ds1, .bool hn1, .int .i64 ht1, .int .i64 ho1, .int .i64 hr1, .int .i64 hd1, .int .i64 hi1, .int .i64 lx1, .int .i64 ly1, .int .i64 lz1, .int .i64 nm1]] w (RetB bs2 0 w)) (hl1 : 2 ≤ bs1.length) (hl2 : 2 ≤ bs2.length) (hcmp : ¬ bs2.length < bs1.length)
    (hS : ((strOfNums (bs1.take bs1.length)).toList == (strOfNums (bs2.take bs1.length)).toList) = eqO kd0 ds0 hn0 ht0 ho0 hr0 hd0 hi0 lx0 ly0 lz0 nm0 kd1 ds1 hn1 ht1 ho1 hr1 hd1 hi1 lx1 ly1 lz1 nm1) :
    Calls Try.prog 6 #[.agg #[.int .i64 kd0, .int .i64 ds0, .bool hn0, .int .i64 ht0, .int .i64 ho0, .int .i64 hr0, .int .i64 hd0, .int .i64 hi0, .int .i64 lx0, .int .i64 ly0, .int .i64 lz0, .int .i64 nm0], .agg #[.int .i64 kd1, .int .i64 ds1, .bool hn1, .int .i64 ht1, .int .i64 ho1, .int .i64 hr1, .int .i64 hd1, .int .i64 hi1, .int .i64 lx1, .int .i64 ly1, .int .i64 lz1, .int .i64 nm1]] w fun e w' => e = .returned (.bool true) ∧ Below w.heap.size w w' := by
  have hT1 : bs1.length ≤ bs1.length := by omega
  have hT2 : bs1.length ≤ bs2.length := by omega
  have hT3 : 1 ≤ bs1.length := by omega
  go_enter Try.func6, Try.ntmps6
  go_wp2_with fail
  have KA := Lib.hid ((cells12_alloc w kd0 ds0 hn0 ht0 ho0 hr0 hd0 hi0 lx0 ly0 lz0 nm0 37).below ((Below.refl _ _).alloc (Nat.le_refl _) (.cells #[.int .i64 kd1, .int .i64 ds1, .bool hn1, .int .i64 ht1, .int .i64 ho1, .int .i64 hr1, .int .i64 hd1, .int .i64 hi1, .int .i64 lx1, .int .i64 ly1, .int .i64 lz1, .int .i64 nm1] 37)))
  have KB : Hid (Cells12 ((w.alloc (.cells #[.int .i64 kd0, .int .i64 ds0, .bool hn0, .int .i64 ht0, .int .i64 ho0, .int .i64 hr0, .int .i64 hd0, .int .i64 hi0, .int .i64 lx0, .int .i64 ly0, .int .i64 lz0, .int .i64 nm0] 37)).alloc (.cells #[.int .i64 kd1, .int .i64 ds1, .bool hn1, .int .i64 ht1, .int .i64 ho1, .int .i64 hr1, .int .i64 hd1, .int .i64 hi1, .int .i64 lx1, .int .i64 ly1, .int .i64 lz1, .int .i64 nm1] 37)) (w.heap.size + 1) kd1 ds1 hn1 ht1 ho1 hr1 hd1 hi1 lx1 ly1 lz1 nm1) := by
    have h := cells12_alloc (w.alloc (.cells #[.int .i64 kd0, .int .i64 ds0, .bool hn0, .int .i64 ht0, .int .i64 ho0, .int .i64 hr0, .int .i64 hd0, .int .i64 hi0, .int .i64 lx0, .int .i64 ly0, .int .i64 lz0, .int .i64 nm0] 37)) kd1 ds1 hn1 ht1 ho1 hr1 hd1 hi1 lx1 ly1 lz1 nm1 37
    rwa [show (w.alloc (.cells #[.int .i64 kd0, .int .i64 ds0, .bool hn0, .int .i64 ht0, .int .i64 ho0, .int .i64 hr0, .int .i64 hd0, .int .i64 hi0, .int .i64 lx0, .int .i64 ly0, .int .i64 lz0, .int .i64 nm0] 37)).heap.size = w.heap.size + 1 by simp] at h
  have HB : Hid (Below w.heap.size w ((w.alloc (.cells #[.int .i64 kd0, .int .i64 ds0, .bool hn0, .int .i64 ht0, .int .i64 ho0, .int .i64 hr0, .int .i64 hd0, .int .i64 hi0, .int .i64 lx0, .int .i64 ly0, .int .i64 lz0, .int .i64 nm0] 37)).alloc (.cells #[.int .i64 kd1, .int .i64 ds1, .bool hn1, .int .i64 ht1, .int .i64 ho1, .int .i64 hr1, .int .i64 hd1, .int .i64 hi1, .int .i64 lx1, .int .i64 ly1, .int .i64 lz1, .int .i64 nm1] 37))) := ((Below.refl _ w).alloc (Nat.le_refl _) _).alloc (by simp) _
  generalize ((w.alloc (.cells #[.int .i64 kd0, .int .i64 ds0, .bool hn0, .int .i64 ht0, .int .i64 ho0, .int .i64 hr0, .int .i64 hd0, .int .i64 hi0, .int .i64 lx0, .int .i64 ly0, .int .i64 lz0, .int .i64 nm0] 37)).alloc (.cells #[.int .i64 kd1, .int .i64 ds1, .bool hn1, .int .i64 ht1, .int .i64 ho1, .int .i64 hr1, .int .i64 hd1, .int .i64 hi1, .int .i64 lx1, .int .i64 ly1, .int .i64 lz1, .int .i64 nm1] 37)) = V0 at *
  have ⟨c0, c1, c2, c3, c4, c5, c6, c7, c8, c9, c10, c11⟩ := KA.out; have ⟨d0, d1, d2, d3, d4, d5, d6, d7, d8, d9, d10, d11⟩ := KB.out
  refine (cB _).mono ?_
  rintro e V1 ⟨r1, rfl, hr1, hb⟩
  replace KA := Lib.hid (KA.out.below hb); replace KB := Lib.hid (KB.out.below hb); replace HB := Lib.hid (HB.out.trans (hb.mono HB.out.size)); clear c0 c1 c2 c3 c4 c5 c6 c7 c8 c9 c10 c11 d0 d1 d2 d3 d4 d5 d6 d7 d8 d9 d10 d11; have ⟨c0, c1, c2, c3, c4, c5, c6, c7, c8, c9, c10, c11⟩ := KA.out; have ⟨d0, d1, d2, d3, d4, d5, d6, d7, d8, d9, d10, d11⟩ := KB.out
  clear hb
  obtain ⟨b1, o1, p1, rfl, hp1⟩ := Bs_some hr1 (by omega)
  have R1 := Lib.hid hr1
  clear hr1
  go_wp2_with fail
  refine (cD _).mono ?_
  rintro e V4 ⟨r2, rfl, hr2, hb⟩
  replace KA := Lib.hid (KA.out.below hb); replace KB := Lib.hid (KB.out.below hb); replace HB := Lib.hid (HB.out.trans (hb.mono HB.out.size)); clear c0 c1 c2 c3 c4 c5 c6 c7 c8 c9 c10 c11 d0 d1 d2 d3 d4 d5 d6 d7 d8 d9 d10 d11; have ⟨c0, c1, c2, c3, c4, c5, c6, c7, c8, c9, c10, c11⟩ := KA.out; have ⟨d0, d1, d2, d3, d4, d5, d6, d7, d8, d9, d10, d11⟩ := KB.out
  replace R1 := Lib.hid (Bs_below R1.out hb)
  clear hb
  obtain ⟨b2, o2, p2, rfl, hp2⟩ := Bs_some hr2 (by omega)
  have R2 := Lib.hid hr2
  clear hr2
  go_wp2_with fail
  have hT0 : (0 : Int) ≤ ((bs1.length : Nat) : Int) := by omega
  have hTp1 : ((bs1.length : Nat) : Int) ≤ (p1 : Int) := by omega
  have hTp2 : ((bs1.length : Nat) : Int) ≤ (p2 : Int) := by omega
  have hTm : (((bs1.length : Nat) : Int)).toNat = bs1.length := Int.toNat_natCast _
  have kc : ∀ w', Below V4.heap.size V4 w' → Cells12 w' w.heap.size kd0 ds0 hn0 ht0 ho0 hr0 hd0 hi0 lx0 ly0 lz0 nm0 ∧ Cells12 w' (w.heap.size + 1) kd1 ds1 hn1 ht1 ho1 hr1 hd1 hi1 lx1 ly1 lz1 nm1 := fun w' h => ⟨KA.out.below h, KB.out.below h⟩
  unfold Cells12 at kc
  have hv1 : ∀ w', Below V4.heap.size V4 w' → (convert 24 9 (.slice (some ⟨b1, o1, none⟩) bs1.length p1)).run Try.prog w' = .ok (.string (strOfNums (bs1.take bs1.length))) w' := fun w' h => Bs_conv (Bs_pre (Bs_below R1.out h) hT3 hT1)
  have hv2 : ∀ w', Below V4.heap.size V4 w' → (convert 24 9 (.slice (some ⟨b2, o2, none⟩) bs1.length p2)).run Try.prog w' = .ok (.string (strOfNums (bs2.take bs1.length))) w' := fun w' h => Bs_conv (Bs_pre (Bs_below R2.out h) hT3 hT2)
  generalize strOfNums (bs1.take bs1.length) = S1 at *
  generalize strOfNums (bs2.take bs1.length) = S2 at *
  refine wp_region_typed (C := fun w' => Below V4.heap.size V4 w') (X := fun w w' => Below w.heap.size w w') (n := 48) (by kernel_rfl) (by kernel_rfl) rfl (fun w => Below.refl _ w) (Below.refl _ _).drew ?_
  refine w_call (Is _) (fun _ _ _ h _ => h) 15 (.inl rfl) (fun ρ w hC hc hfn hf => by exact ⟨_, by (conv => lhs; simp [execOp, resolve, invoke, go_sem, hc, hfn]), tc_below hC (oawake_any w)⟩) ?_
  refine w_is (fun w => Below.refl _ w) _ (.inl rfl) (fun ρ w hC hc hfn hf => by have e32 : ρ (.tmp 32) = _ := hf 32 (by decide); (conv => lhs; simp [execOp, go_sem, hc, e32])) ?_
  refine w_is (fun w => Below.refl _ w) _ (.inr ⟨1, 33, true, rfl, rfl, known_is rfl⟩) (fun ρ w hC hc hfn hf => by have e5 : ρ (.tmp 5) = _ := hf 5 (by decide); (conv => lhs; simp [execOp, go_sem, hc, e5])) ?_
  refine w_is (fun w => Below.refl _ w) _ (.inr ⟨1, 33, true, rfl, rfl, known_is rfl⟩) (fun ρ w hC hc hfn hf => by have e9 : ρ (.tmp 9) = _ := hf 9 (by decide); (conv => lhs; simp [execOp, go_sem, hc, e9])) ?_
  refine w_is (fun w => Below.refl _ w) _ (.inr ⟨1, 33, true, rfl, rfl, known_is rfl⟩) (fun ρ w hC hc hfn hf => by have e34 : ρ (.tmp 34) = _ := hf 34 (by decide); have e35 : ρ (.tmp 35) = _ := hf 35 (by decide); (conv => lhs; simp [execOp, go_sem, hc, e34, e35, hT0, hTp1, hTm])) ?_
  refine w_is (fun w => Below.refl _ w) _ (.inr ⟨1, 33, true, rfl, rfl, known_is rfl⟩) (fun ρ w hC hc hfn hf => by have e36 : ρ (.tmp 36) = _ := hf 36 (by decide); (conv => lhs; simp [execOp, go_sem, hc, e36, hv1 w hC])) ?_
  refine w_is (fun w => Below.refl _ w) _ (.inr ⟨1, 33, true, rfl, rfl, known_is rfl⟩) (fun ρ w hC hc hfn hf => by have e7 : ρ (.tmp 7) = _ := hf 7 (by decide); (conv => lhs; simp [execOp, go_sem, hc, e7])) ?_
  refine w_is (fun w => Below.refl _ w) _ (.inr ⟨1, 33, true, rfl, rfl, known_is rfl⟩) (fun ρ w hC hc hfn hf => by have e9 : ρ (.tmp 9) = _ := hf 9 (by decide); (conv => lhs; simp [execOp, go_sem, hc, e9])) ?_
  refine w_is (fun w => Below.refl _ w) _ (.inr ⟨1, 33, true, rfl, rfl, known_is rfl⟩) (fun ρ w hC hc hfn hf => by have e38 : ρ (.tmp 38) = _ := hf 38 (by decide); have e39 : ρ (.tmp 39) = _ := hf 39 (by decide); (conv => lhs; simp [execOp, go_sem, hc, e38, e39, hT0, hTp2, hTm])) ?_
  refine w_is (fun w => Below.refl _ w) _ (.inr ⟨1, 33, true, rfl, rfl, known_is rfl⟩) (fun ρ w hC hc hfn hf => by have e40 : ρ (.tmp 40) = _ := hf 40 (by decide); (conv => lhs; simp [execOp, go_sem, hc, e40, hv2 w hC])) ?_
  refine w_is (fun w => Below.refl _ w) _ (.inr ⟨1, 33, true, rfl, rfl, known_is rfl⟩) (fun ρ w hC hc hfn hf => by have e37 : ρ (.tmp 37) = _ := hf 37 (by decide); have e41 : ρ (.tmp 41) = _ := hf 41 (by decide); (conv => lhs; simp [execOp, go_sem, hc, e37, e41, hS])) ?_
  refine w_is (fun w => Below.refl _ w) _ (.inr ⟨1, 33, true, rfl, rfl, known_is rfl⟩) (fun ρ w hC hc hfn hf => by have e2 : ρ (.tmp 2) = _ := hf 2 (by decide); (conv => lhs; simp [execOp, go_sem, hc, e2, kc w hC])) ?_
  refine w_is (fun w => Below.refl _ w) _ (.inr ⟨1, 33, true, rfl, rfl, known_is rfl⟩) (fun ρ w hC hc hfn hf => by have e3 : ρ (.tmp 3) = _ := hf 3 (by decide); (conv => lhs; simp [execOp, go_sem, hc, e3, kc w hC])) ?_
  refine w_is (fun w => Below.refl _ w) _ (.inr ⟨1, 33, true, rfl, rfl, known_is rfl⟩) (fun ρ w hC hc hfn hf => by have e43 : ρ (.tmp 43) = _ := hf 43 (by decide); have e44 : ρ (.tmp 44) = _ := hf 44 (by decide); (conv => lhs; simp [execOp, go_sem, hc, e43, e44, eql37, guard37])) ?_
  refine w_is (fun w => Below.refl _ w) _ (.inr ⟨1, 33, true, rfl, rfl, known_is rfl⟩) (fun ρ w hC hc hfn hf => by have e42 : ρ (.tmp 42) = _ := hf 42 (by decide); have e45 : ρ (.tmp 45) = _ := hf 45 (by decide); (conv => lhs; simp [execOp, go_sem, hc, e42, e45])) ?_
  refine w_is (fun w => Below.refl _ w) _ (.inl rfl) (fun ρ w hC hc hfn hf => by have e33 : ρ (.tmp 33) = _ := hf 33 (by decide); have e46 : ρ (.tmp 46) = _ := hf 46 (by decide); (conv => lhs; simp [execOp, go_sem, hc, e33, e46])) ?_
  refine w_is (fun w => Below.refl _ w) _ (.inl rfl) (fun ρ w hC hc hfn hf => by have e47 : ρ (.tmp 47) = _ := hf 47 (by decide); (conv => lhs; simp [execOp, go_sem, hc, e47])) ?_
  intro A V5 hC hn hd hf
  have y0 : A.eval (.tmp 0) = _ := Eq.trans (hf 0) (by conv => lhs; simp [go_sem])
  have y1 : A.eval (.tmp 1) = _ := Eq.trans (hf 1) (by conv => lhs; simp [go_sem])
  have y2 : A.eval (.tmp 2) = _ := Eq.trans (hf 2) (by conv => lhs; simp [go_sem])
  have y3 : A.eval (.tmp 3) = _ := Eq.trans (hf 3) (by conv => lhs; simp [go_sem])
  have y4 : A.eval (.tmp 4) = _ := hf 4
  have y5 : A.eval (.tmp 5) = _ := Eq.trans (hf 5) (by conv => lhs; simp [go_sem])
  have y6 : A.eval (.tmp 6) = _ := Eq.trans (hf 6) (by conv => lhs; simp [go_sem])
  have y7 : A.eval (.tmp 7) = _ := Eq.trans (hf 7) (by conv => lhs; simp [go_sem])
  have y8 : A.eval (.tmp 8) = _ := Eq.trans (hf 8) (by conv => lhs; simp [go_sem])
  have y9 : A.eval (.tmp 9) = _ := Eq.trans (hf 9) (by conv => lhs; simp [go_sem])
  have y10 : A.eval (.tmp 10) = _ := Eq.trans (hf 10) (by conv => lhs; simp [go_sem])
  have y11 : A.eval (.tmp 11) = _ := Eq.trans (hf 11) (by conv => lhs; simp [go_sem])
  have y12 : A.eval (.tmp 12) = _ := Eq.trans (hf 12) (by conv => lhs; simp [go_sem])
  have y13 : A.eval (.tmp 13) = _ := Eq.trans (hf 13) (by conv => lhs; simp [go_sem])
  have y14 : A.eval (.tmp 14) = _ := Eq.trans (hf 14) (by conv => lhs; simp [go_sem])
  have y15 : A.eval (.tmp 15) = _ := Eq.trans (hf 15) (by conv => lhs; simp [go_sem])
  have y16 : A.eval (.tmp 16) = _ := Eq.trans (hf 16) (by conv => lhs; simp [go_sem])
  have y17 : A.eval (.tmp 17) = _ := Eq.trans (hf 17) (by conv => lhs; simp [go_sem])
  have y18 : A.eval (.tmp 18) = _ := Eq.trans (hf 18) (by conv => lhs; simp [go_sem])
  have y19 : A.eval (.tmp 19) = _ := Eq.trans (hf 19) (by conv => lhs; simp [go_sem])
  have y20 : A.eval (.tmp 20) = _ := Eq.trans (hf 20) (by conv => lhs; simp [go_sem])
  have y21 : A.eval (.tmp 21) = _ := Eq.trans (hf 21) (by conv => lhs; simp [go_sem])
  have y22 : A.eval (.tmp 22) = _ := Eq.trans (hf 22) (by conv => lhs; simp [go_sem])
  have y23 : A.eval (.tmp 23) = _ := Eq.trans (hf 23) (by conv => lhs; simp [go_sem])
  have y24 : A.eval (.tmp 24) = _ := Eq.trans (hf 24) (by conv => lhs; simp [go_sem])
  have y25 : A.eval (.tmp 25) = _ := Eq.trans (hf 25) (by conv => lhs; simp [go_sem])
  have y26 : A.eval (.tmp 26) = _ := Eq.trans (hf 26) (by conv => lhs; simp [go_sem])
  have y27 : A.eval (.tmp 27) = _ := Eq.trans (hf 27) (by conv => lhs; simp [go_sem])
  have y28 : A.eval (.tmp 28) = _ := Eq.trans (hf 28) (by conv => lhs; simp [go_sem])
  have y29 : A.eval (.tmp 29) = _ := Eq.trans (hf 29) (by conv => lhs; simp [go_sem])
  have y30 : A.eval (.tmp 30) = _ := Eq.trans (hf 30) (by conv => lhs; simp [go_sem])
  have y31 : A.eval (.tmp 31) = _ := Eq.trans (hf 31) (by conv => lhs; simp [go_sem])
  have y32 : A.eval (.tmp 32) = _ := hf 32
  have y33 : A.eval (.tmp 33) = _ := hf 33
  have y34 : A.eval (.tmp 34) = _ := hf 34
  have y35 : A.eval (.tmp 35) = _ := hf 35
  have y36 : A.eval (.tmp 36) = _ := hf 36
  have y37 : A.eval (.tmp 37) = _ := hf 37
  have y38 : A.eval (.tmp 38) = _ := hf 38
  have y39 : A.eval (.tmp 39) = _ := hf 39
  have y40 : A.eval (.tmp 40) = _ := hf 40
  have y41 : A.eval (.tmp 41) = _ := hf 41
  have y42 : A.eval (.tmp 42) = _ := hf 42
  have y43 : A.eval (.tmp 43) = _ := hf 43
  have y44 : A.eval (.tmp 44) = _ := hf 44
  have y45 : A.eval (.tmp 45) = _ := hf 45
  have y46 : A.eval (.tmp 46) = _ := hf 46
  have y47 : A.eval (.tmp 47) = _ := hf 47
  clear hf
  have hA := frame_eq hn
  rw [show List.range 48 = [0, 1, 2, 3, 4, 5, 6, 7, 8, 9, 10, 11, 12, 13, 14, 15, 16, 17, 18, 19, 20, 21, 22, 23, 24, 25, 26, 27, 28, 29, 30, 31, 32, 33, 34, 35, 36, 37, 38, 39, 40, 41, 42, 43, 44, 45, 46, 47] from rfl, hd] at hA
  simp only [List.map_cons, List.map_nil, y0, y1, y2, y3, y4, y5, y6, y7, y8, y9, y10, y11, y12, y13, y14, y15, y16, y17, y18, y19, y20, y21, y22, y23, y24, y25, y26, y27, y28, y29, y30, y31, y32, y33, y34, y35, y36, y37, y38, y39, y40, y41, y42, y43, y44, y45, y46, y47] at hA
  clear y0 y1 y2 y3 y4 y5 y6 y7 y8 y9 y10 y11 y12 y13 y14 y15 y16 y17 y18 y19 y20 y21 y22 y23 y24 y25 y26 y27 y28 y29 y30 y31 y32 y33 y34 y35 y36 y37 y38 y39 y40 y41 y42 y43 y44 y45 y46 y47
  clear hn hd
  subst hA
  go_wp2_with fail
  go_ret
  exact ⟨rfl, HB.out.trans (hC.mono HB.out.size)⟩

theorem walk (kd0 ds0 : Int) (hn0 : Bool) (ht0 ho0 hr0 hd0 hi0 lx0 ly0 lz0 nm0 : Int) (kd1 ds1 : Int) (hn1 : Bool) (ht1 ho1 hr1 hd1 hi1 lx1 ly1 lz1 nm1 : Int) (w : World) :
    Calls Try.prog 6 #[.agg #[.int .i64 kd0, .int .i64 ds0, .bool hn0, .int .i64 ht0, .int .i64 ho0, .int .i64 hr0, .int .i64 hd0, .int .i64 hi0, .int .i64 lx0, .int .i64 ly0, .int .i64 lz0, .int .i64 nm0], .agg #[.int .i64 kd1, .int .i64 ds1, .bool hn1, .int .i64 ht1, .int .i64 ho1, .int .i64 hr1, .int .i64 hd1, .int .i64 hi1, .int .i64 lx1, .int .i64 ly1, .int .i64 lz1, .int .i64 nm1]] w fun e w' => e = .returned (.bool true) ∧ Below w.heap.size w w' := by
  have cB := obytes_any kd0 ds0 hn0 ht0 ho0 hr0 hd0 hi0 lx0 ly0 lz0 nm0
  have cD := obytes_any kd1 ds1 hn1 ht1 ho1 hr1 hd1 hi1 lx1 ly1 lz1 nm1
  by_cases h : ObOk kd0 ds0 hn0 ht0 ho0 hr0 hd0 hi0 lx0 ly0 lz0 nm0
  · rw [obc_ok h] at cB
    by_cases h' : ObOk kd1 ds1 hn1 ht1 ho1 hr1 hd1 hi1 lx1 ly1 lz1 nm1
    · rw [obc_ok h'] at cD
      rw [show obBs kd0 ds0 hn0 ht0 ho0 hr0 hd0 hi0 lx0 ly0 lz0 nm0 = obB kd0 ds0 hn0 ht0 ho0 hr0 hd0 hi0 lx0 ly0 lz0 nm0 from if_pos h] at cB
      rw [show obBs kd1 ds1 hn1 ht1 ho1 hr1 hd1 hi1 lx1 ly1 lz1 nm1 = obB kd1 ds1 hn1 ht1 ho1 hr1 hd1 hi1 lx1 ly1 lz1 nm1 from if_pos h'] at cD
      have ha := apart h h'
      by_cases hcmp : (obB kd1 ds1 hn1 ht1 ho1 hr1 hd1 hi1 lx1 ly1 lz1 nm1).length < (obB kd0 ds0 hn0 ht0 ho0 hr0 hd0 hi0 lx0 ly0 lz0 nm0).length
      · rw [Nat.min_eq_right (Nat.le_of_lt hcmp)] at ha
        exact walk_00a kd0 ds0 hn0 ht0 ho0 hr0 hd0 hi0 lx0 ly0 lz0 nm0 kd1 ds1 hn1 ht1 ho1 hr1 hd1 hi1 lx1 ly1 lz1 nm1 _ _ w cB cD (obB_two kd0 ds0 hn0 ht0 ho0 hr0 hd0 hi0 lx0 ly0 lz0 nm0) (obB_two kd1 ds1 hn1 ht1 ho1 hr1 hd1 hi1 lx1 ly1 lz1 nm1) hcmp ha
      · rw [Nat.min_eq_left (by omega)] at ha
        exact walk_00b kd0 ds0 hn0 ht0 ho0 hr0 hd0 hi0 lx0 ly0 lz0 nm0 kd1 ds1 hn1 ht1 ho1 hr1 hd1 hi1 lx1 ly1 lz1 nm1 _ _ w cB cD (obB_two kd0 ds0 hn0 ht0 ho0 hr0 hd0 hi0 lx0 ly0 lz0 nm0) (obB_two kd1 ds1 hn1 ht1 ho1 hr1 hd1 hi1 lx1 ly1 lz1 nm1) hcmp ha
    · rw [obc_no h'] at cD
      exact walk_01 kd0 ds0 hn0 ht0 ho0 hr0 hd0 hi0 lx0 ly0 lz0 nm0 kd1 ds1 hn1 ht1 ho1 hr1 hd1 hi1 lx1 ly1 lz1 nm1 _ _ w cB cD
  · rw [obc_no h] at cB
    by_cases h' : ObOk kd1 ds1 hn1 ht1 ho1 hr1 hd1 hi1 lx1 ly1 lz1 nm1
    · rw [obc_ok h'] at cD
      exact walk_10 kd0 ds0 hn0 ht0 ho0 hr0 hd0 hi0 lx0 ly0 lz0 nm0 kd1 ds1 hn1 ht1 ho1 hr1 hd1 hi1 lx1 ly1 lz1 nm1 _ _ w cB cD
    · rw [obc_no h'] at cD
      exact walk_11 kd0 ds0 hn0 ht0 ho0 hr0 hd0 hi0 lx0 ly0 lz0 nm0 kd1 ds1 hn1 ht1 ho1 hr1 hd1 hi1 lx1 ly1 lz1 nm1 _ _ w cB cD

set_option maxRecDepth 100000 in
theorem lifted (os : Os) (started : os.Started) (H : Type) (enc : TypeId × Value → H) :
    ReturnsInHanded {} Try.checked os 6 .any (Rows.objectApartSpec.pre6 enc Try.prog Try.f6 Rows.objectApartRow.domain false) (Rows.objectApartSpec.post enc Try.prog Try.f6 false true false false) := by
  refine returnsInHanded_of_change (C := Try.checked) own started (by kernel_rfl) Try.func6
    (ChangeSpec.witness6 (enc := enc) (C := Try.checked) false ⟨#[], #[.agg #[.int .i64 0, .int .i64 0, .bool false, .int .i64 0, .int .i64 0, .int .i64 0, .int .i64 0, .int .i64 0, .int .i64 0, .int .i64 0, .int .i64 0, .int .i64 0], .agg #[.int .i64 0, .int .i64 0, .bool false, .int .i64 0, .int .i64 0, .int .i64 0, .int .i64 0, .int .i64 0, .int .i64 0, .int .i64 0, .int .i64 0, .int .i64 0]], []⟩ 16 (by kernel_rfl) (by kernel_rfl) (by kernel_rfl) (by kernel_rfl)) ?_
  intro W base args ds gs before hval0 hW hcnd _
  have hval : ∀ (j : Nat) t v, Try.f6.params[j]? = some t → args[j]? = some v → Value.okWide Try.prog W .any base t v := hval0
  have hW' := hW
  obtain ⟨p, q, hA0, hV, rfl, hfz, hnd⟩ := hW
  have hA : DataW.TrodAll enc Try.prog W 0 (fun _ => true) true Try.f6.params.toList args.toList ds p := hA0
  rw [Try.params6] at hA hval
  obtain ⟨v0, vs0, e0, ds0, p0, q0, hargs, rfl, rfl, h0, x0⟩ := trodAll_cons hA
  obtain ⟨v1, vs1, e1, ds1, p1, q1, rfl, rfl, rfl, h1, x1⟩ := trodAll_cons x0
  obtain ⟨rfl, rfl, rfl⟩ := trodAll_nil x1
  obtain rfl : args = #[v0, v1] := by cases args; simp_all
  obtain ⟨rfl, rfl⟩ := trodVars_none hV
  have k0 := h0
  have lt0 : ∀ x ∈ p0, x.block < W.heap.size := by obtain ⟨m, hm⟩ := k0; exact DataW.trod_lt m _ _ _ hm
  obtain ⟨kd0, ds0, hn0, ht0, ho0, hr0, hd0, hi0, lx0, ly0, lz0, nm0, rfl⟩ := ob_form (hval 0 37 v0 rfl rfl) h0
  have k1 := h1
  have lt1 : ∀ x ∈ p1, x.block < W.heap.size := by obtain ⟨m, hm⟩ := k1; exact DataW.trod_lt m _ _ _ hm
  obtain ⟨kd1, ds1, hn1, ht1, ho1, hr1, hd1, hi1, lx1, ly1, lz1, nm1, rfl⟩ := ob_form (hval 1 37 v1 rfl rfl) h1
  clear hA0 hval0
  refine (walk kd0 ds0 hn0 ht0 ho0 hr0 hd0 hi0 lx0 ly0 lz0 nm0 kd1 ds1 hn1 ht1 ho1 hr1 hd1 hi1 lx1 ly1 lz1 nm1 W).mono fun e W' ⟨he, bel⟩ => ?_
  subst he
  exact ⟨_, rfl, _, _, _, [], _, [], hW', trodAll_mk1 (shut_bool Try.underlying4 _), (trodAll_cons_mk (Below.trod laidOut (by kernel_rfl) (of_decide_eq_true (by kernel_rfl)) k0 bel lt0) (trodAll_cons_mk (Below.trod laidOut (by kernel_rfl) (of_decide_eq_true (by kernel_rfl)) k1 bel lt1) trodAll_mk0)), rfl, bel.frame _, fun h => by cases h⟩

theorem over : Rows.objectApartRow.holds Try.pinned (OpenSpec.ofChange Rows.objectApartSpec) :=
  OpenClaim.holds_of_wide 6 Try.f6 rfl rfl rfl rfl rfl rfl rfl ⟨rfl, rfl, rfl, rfl, rfl⟩ rfl rfl rfl rfl rfl (by kernel_rfl) Try.func6 (by kernel_rfl)
    (of_decide_eq_true (by kernel_rfl)) (by unfold Func.isWrapper; first | (rw [if_pos (by decide +kernel)]; kernel_rfl) | (rw [if_neg (by decide +kernel)]; exact ⟨rfl, rfl⟩))
    (fun os started H enc _ => lifted os started H enc)

theorem proved : Rows.ObjectApartSaid := over
#print axioms proved
end Go.Proofs.Ythfbahpnjbngiaa.objectApart
