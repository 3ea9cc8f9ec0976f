/- The document's example of a frame holds of the program. No conditions. thalweglaw09.FrameSteady: for any bytes the law answers true; no condition. -/
import Derived.Test.YtjghebcnmoojmaaGreatRows
import Derived.Test.YtjghebcnmoojmaaGreatU54
import Derived.WalkLawsBesides
import Derived.WalkKit
import Derived.ProofKit
import Derived.OpenShut
import Derived.ShutString
import Derived.ChangeOld
import Derived.Below
namespace Go.Proofs.YtjghebcnmoojmaaGreat
set_option maxRecDepth 100000
open Go.RowKit

def ob0 : Ob := ⟨1, 5, false, 0, 0, 0, 0, 0, 0, 0, 0, 0⟩
def pt0 : Pt := ⟨2, 0, [], 0, [ob0], [], 0, 0, 0, 0, ⟨#[]⟩⟩
theorem pt0_ok : FrOk 1 0 255 0 [pt0] := by decide
theorem pt0_take : (frB 1 0 255 0 [pt0]).take 23 = [84, 1, 1, 255, 0, 0, 0, 0, 0, 0, 0, 0, 0, 25, 1, 2, 0, 5, 0, 0, 1, 1, 5] := by decide
theorem pt0_len : (frB 1 0 255 0 [pt0]).length = 25 := by decide
theorem pt0_str : strOfNums [84, 1, 1, 255, 0, 0, 0, 0, 0, 0, 0, 0, 0, 25, 1, 2, 0, 5, 0, 0, 1, 1, 5] = ⟨#[84, 1, 1, 255, 0, 0, 0, 0, 0, 0, 0, 0, 0, 25, 1, 2, 0, 5, 0, 0, 1, 1, 5]⟩ := by rfl
theorem pt0_few : ∀ i, i < [pt0].length → PtFew ([pt0].getD i zPt) := fun i hi => by
 obtain rfl : i = 0 := by simpa using hi
 exact ptfew_ok (pt0_ok.2.1 0 (by decide))
theorem pt0_ps (w : World) : Ps (((w.alloc (.cells #[.int .i64 1, .int .i64 5, .bool false, .int .i64 0, .int .i64 0, .int .i64 0, .int .i64 0, .int .i64 0, .int .i64 0, .int .i64 0, .int .i64 0, .int .i64 0] 63)).alloc (.cells #[.int .i64 2, .int .i64 0, .slice none 0 0, .int .i64 0, .slice (some ⟨w.heap.size, 0, none⟩) 1 1, .slice none 0 0, .int .i64 0, .int .i64 0, .int .i64 0, .int .i64 0, .string ⟨#[]⟩] 50)).alloc (.cells #[.int .i64 1, .int .i64 0, .int .i64 255, .int .i64 0, .slice (some ⟨w.heap.size + 1, 0, none⟩) 1 1] 24)) (.slice (some ⟨w.heap.size + 1, 0, none⟩) [pt0].length 1) [pt0] := by
 have h1 := World.ownsRow_lit (base := w.heap.size) (e := 63) (size := 12) w #[.int .i64 1, .int .i64 5, .bool false, .int .i64 0, .int .i64 0, .int .i64 0, .int .i64 0, .int .i64 0, .int .i64 0, .int .i64 0, .int .i64 0, .int .i64 0] 1 (Nat.le_refl _) (by unfold maxLen; omega) rfl
 have h2 : Os (w.alloc (.cells #[.int .i64 1, .int .i64 5, .bool false, .int .i64 0, .int .i64 0, .int .i64 0, .int .i64 0, .int .i64 0, .int .i64 0, .int .i64 0, .int .i64 0, .int .i64 0] 63)) (.slice (some ⟨w.heap.size, 0, none⟩) 1 1) [ob0] := (Os_of_own (ys := [ob0]) h1).1
 let r0 : RPt := ⟨2, 0, none, 0, 0, 0, some ⟨w.heap.size, 0, none⟩, 1, 1, none, 0, 0, 0, 0, 0, 0, ⟨#[]⟩⟩
 have h3 := World.ownsRow_lit (base := w.heap.size) (e := 50) (size := 11) (w.alloc (.cells #[.int .i64 1, .int .i64 5, .bool false, .int .i64 0, .int .i64 0, .int .i64 0, .int .i64 0, .int .i64 0, .int .i64 0, .int .i64 0, .int .i64 0, .int .i64 0] 63)) r0.cl.toArray 1 (by simp) (by unfold maxLen; omega) rfl
 rw [show (w.alloc (.cells #[.int .i64 1, .int .i64 5, .bool false, .int .i64 0, .int .i64 0, .int .i64 0, .int .i64 0, .int .i64 0, .int .i64 0, .int .i64 0, .int .i64 0, .int .i64 0] 63)).heap.size = w.heap.size + 1 by simp] at h3
 have hb : Below (w.alloc (.cells #[.int .i64 1, .int .i64 5, .bool false, .int .i64 0, .int .i64 0, .int .i64 0, .int .i64 0, .int .i64 0, .int .i64 0, .int .i64 0, .int .i64 0, .int .i64 0] 63)).heap.size (w.alloc (.cells #[.int .i64 1, .int .i64 5, .bool false, .int .i64 0, .int .i64 0, .int .i64 0, .int .i64 0, .int .i64 0, .int .i64 0, .int .i64 0, .int .i64 0, .int .i64 0] 63)) ((w.alloc (.cells #[.int .i64 1, .int .i64 5, .bool false, .int .i64 0, .int .i64 0, .int .i64 0, .int .i64 0, .int .i64 0, .int .i64 0, .int .i64 0, .int .i64 0, .int .i64 0] 63)).alloc (.cells #[.int .i64 2, .int .i64 0, .slice none 0 0, .int .i64 0, .slice (some ⟨w.heap.size, 0, none⟩) 1 1, .slice none 0 0, .int .i64 0, .int .i64 0, .int .i64 0, .int .i64 0, .string ⟨#[]⟩] 50)) := (Below.refl _ _).alloc (Nat.le_refl _) _
 have h4 : Ps ((w.alloc (.cells #[.int .i64 1, .int .i64 5, .bool false, .int .i64 0, .int .i64 0, .int .i64 0, .int .i64 0, .int .i64 0, .int .i64 0, .int .i64 0, .int .i64 0, .int .i64 0] 63)).alloc (.cells #[.int .i64 2, .int .i64 0, .slice none 0 0, .int .i64 0, .slice (some ⟨w.heap.size, 0, none⟩) 1 1, .slice none 0 0, .int .i64 0, .int .i64 0, .int .i64 0, .int .i64 0, .string ⟨#[]⟩] 50)) (.slice (some ⟨w.heap.size + 1, 0, none⟩) 1 1) [pt0] := by
  refine ⟨[r0], rfl, (Gs_of_own (R := RP) (ys := [r0]) h3).1, fun i hi => ?_⟩
  obtain rfl : i = 0 := by simpa using hi
  exact ⟨rfl, rfl, El_nil _, rfl, h2.below hb, As_nil _, rfl, rfl, rfl, rfl, rfl⟩
 exact h4.below ((Below.refl _ _).alloc (Nat.le_refl _) _)
set_option maxHeartbeats 8000000 in
theorem awake9 (w : World) : Calls Tryz.prog 12 #[] w fun e w' => e = .returned (.bool true) ∧ Below w.heap.size w w' := by
 have OF := Lib.hid (ownf_alloc ((w.alloc (.cells #[.int .i64 1, .int .i64 5, .bool false, .int .i64 0, .int .i64 0, .int .i64 0, .int .i64 0, .int .i64 0, .int .i64 0, .int .i64 0, .int .i64 0, .int .i64 0] 63)).alloc (.cells #[.int .i64 2, .int .i64 0, .slice none 0 0, .int .i64 0, .slice (some ⟨w.heap.size, 0, none⟩) 1 1, .slice none 0 0, .int .i64 0, .int .i64 0, .int .i64 0, .int .i64 0, .string ⟨#[]⟩] 50)) 1 0 255 0 (.slice (some ⟨w.heap.size + 1, 0, none⟩) 1 1) 24 (w.heap.size + 1 + 1) (by simp))
 have HB : Hid (Below w.heap.size w (((w.alloc (.cells #[.int .i64 1, .int .i64 5, .bool false, .int .i64 0, .int .i64 0, .int .i64 0, .int .i64 0, .int .i64 0, .int .i64 0, .int .i64 0, .int .i64 0, .int .i64 0] 63)).alloc (.cells #[.int .i64 2, .int .i64 0, .slice none 0 0, .int .i64 0, .slice (some ⟨w.heap.size, 0, none⟩) 1 1, .slice none 0 0, .int .i64 0, .int .i64 0, .int .i64 0, .int .i64 0, .string ⟨#[]⟩] 50)).alloc (.cells #[.int .i64 1, .int .i64 0, .int .i64 255, .int .i64 0, .slice (some ⟨w.heap.size + 1, 0, none⟩) 1 1] 24))) := (((Below.refl _ w).alloc (Nat.le_refl _) _).alloc (by simp) _).alloc (by simp; omega) _
 have HP := Lib.hid (pt0_ps w)
 have HPF : Hid (frPF (frB 1 0 255 0 [pt0]) = .inr ⟨1, 0, 255, 0, [pt0]⟩) := frPF_fwd pt0_ok
 have cB := fun (W : World) (h : Ps W (.slice (some ⟨w.heap.size + 1, 0, none⟩) [pt0].length 1) [pt0]) => gbytes_any 1 0 255 0 (some ⟨w.heap.size + 1, 0, none⟩) 1 [pt0] W h pt0_few
 have hL : frL 1 0 255 0 [pt0] = frB 1 0 255 0 [pt0] := if_pos pt0_ok
 have hK : frK 1 0 255 0 [pt0] = 0 := if_pos pt0_ok
 unfold RetF at cB
 rw [hL, hK] at cB
 have HTK := Lib.hid pt0_take
 have hln := pt0_len
 generalize frB 1 0 255 0 [pt0] = xs at *
 clear hL hK
 go_enter Tryz.func12, Tryz.ntmps12
 go_upto_region 2 with (fail)
 obtain ⟨V0, hV0⟩ : ∃ V0, (((w.alloc (.cells #[.int .i64 1, .int .i64 5, .bool false, .int .i64 0, .int .i64 0, .int .i64 0, .int .i64 0, .int .i64 0, .int .i64 0, .int .i64 0, .int .i64 0, .int .i64 0] 63)).alloc (.cells #[.int .i64 2, .int .i64 0, .slice none 0 0, .int .i64 0, .slice (some ⟨w.heap.size, 0, none⟩) 1 1, .slice none 0 0, .int .i64 0, .int .i64 0, .int .i64 0, .int .i64 0, .string ⟨#[]⟩] 50)).alloc (.cells #[.int .i64 1, .int .i64 0, .int .i64 255, .int .i64 0, .slice (some ⟨w.heap.size + 1, 0, none⟩) 1 1] 24)) = V0 := ⟨_, rfl⟩
 rw [hV0] at OF HB HP ⊢
 clear hV0
 obtain ⟨⟨u0, u1, u2, u3, u4⟩, -⟩ := OF.out
 have cB0 := cB V0 HP.out
 clear cB
 go_wp2_with fail
 refine cB0.mono ?_
 rintro e V1 ⟨⟨a9, c9, rfl, hbs, hlc, -⟩, hb⟩
 rw [hln] at hbs hlc ⊢
 replace OF := Lib.hid (OF.out.below hb)
 replace HB := Lib.hid (HB.out.trans (hb.mono HB.out.size))
 replace HP := Lib.hid (HP.out.below hb)
 have HBS := Lib.hid hbs
 have HLC : Hid (25 ≤ c9) := hlc
 clear hb hbs hlc cB0 u0 u1 u2 u3 u4
 go_wp2_with fail
 refine (gparse_any (.slice a9 25 c9) xs V1 HBS.out).mono ?_
 rintro e V2 ⟨⟨v, q, rfl, hq⟩, hb⟩
 obtain ⟨rfl, a8, c8, rfl, hps⟩ : q = 0 ∧ ∃ a8 c8, v = .agg #[.int .i64 1, .int .i64 0, .int .i64 255, .int .i64 0, .slice a8 [pt0].length c8] ∧ PsOw V2 V1.heap.size (.slice a8 [pt0].length c8) [pt0] := by
  rcases hq with ⟨h1, _⟩ | ⟨f, h1, h2, a8, c8, h3, h4⟩
  ·rw [HPF.out] at h1; cases h1
  ·rw [HPF.out] at h1
   simp only [Sum.inr.injEq] at h1
   subst h1
   exact ⟨h2, a8, c8, h3, h4⟩
 clear hq
 simp only [List.length_cons, List.length_nil, Nat.reduceAdd] at hps HP ⊢
 have HG := Lib.hid hps.ps
 replace OF := Lib.hid (OF.out.below hb)
 replace HB := Lib.hid (HB.out.trans (hb.mono HB.out.size))
 replace HP := Lib.hid (HP.out.below hb)
 replace HBS := Lib.hid (Bs_below HBS.out hb)
 clear hb hps
 have hal := (Below.refl V2.heap.size V2).alloc (Nat.le_refl _) (.cells #[.int .i64 1, .int .i64 0, .int .i64 255, .int .i64 0, .slice a8 1 c8] 24)
 have OG := Lib.hid (ownf_alloc V2 1 0 255 0 (.slice a8 1 c8) 24 V2.heap.size rfl)
 replace HG := Lib.hid (HG.out.below hal)
 replace OF := Lib.hid (OF.out.below hal)
 replace HB := Lib.hid (HB.out.trans (hal.mono HB.out.size))
 replace HP := Lib.hid (HP.out.below hal)
 replace HBS := Lib.hid (Bs_below HBS.out hal)
 clear hal
 go_upto_region 4 with (fail)
 obtain ⟨V3, hV3⟩ : ∃ V3, V2.alloc (.cells #[.int .i64 1, .int .i64 0, .int .i64 255, .int .i64 0, .slice a8 1 c8] 24) = V3 := ⟨_, rfl⟩
 rw [hV3] at OG HG OF HB HP HBS ⊢
 clear hV3
 obtain ⟨gv, hgv⟩ : ∃ g, V2.heap.size = g := ⟨_, rfl⟩
 rw [hgv] at OG
 try rw [hgv]
 clear hgv
 obtain ⟨bb, bo, rfl⟩ : ∃ bb bo, a9 = some ⟨bb, bo, none⟩ := by
  rcases HBS.out.2.2 with ⟨a7, c7, e, _, e2⟩ | ⟨b7, o7, c7, e, _⟩
  ·rw [e2] at hln; simp at hln
  ·simp only [Value.slice.injEq] at e; exact ⟨b7, o7, e.1⟩
 have hcv : (convert 26 9 (.slice (some ⟨bb, bo, none⟩) 23 c9)).run Tryz.prog V3 = .ok (.string ⟨#[84, 1, 1, 255, 0, 0, 0, 0, 0, 0, 0, 0, 0, 25, 1, 2, 0, 5, 0, 0, 1, 1, 5]⟩) V3 := by
  have h := HBS.out
  rw [← hln] at h
  have h9 : Bs V3 (.slice (some ⟨bb, bo, none⟩) 23 c9) (xs.take 23) := by simpa using bs_window h 0 23 (by omega) c9 (by have := HLC.out; omega)
  rw [HTK.out] at h9
  rw [Bs_conv h9, pt0_str]
 have hc9 : (23 : Int) ≤ (c9 : Int) := by have := HLC.out; omega
 obtain ⟨⟨u0, u1, u2, u3, u4⟩, -⟩ := OF.out
 obtain ⟨⟨v0, v1, v2, v3, v4⟩, -⟩ := OG.out
 go_wp2_with fail
 refine (frsame_any _ _ ⟨1, 0, 255, 0, [pt0]⟩ ⟨1, 0, 255, 0, [pt0]⟩ V3 ⟨_, _, rfl, HP.out⟩ ⟨_, _, rfl, HG.out⟩ ⟨by decide, pt0_few⟩).mono ?_
 rintro e V4 ⟨⟨b, rfl, hb1⟩, hb⟩
 obtain rfl : b = true := hb1.2 rfl
 replace OF := Lib.hid (OF.out.below hb)
 replace HB := Lib.hid (HB.out.trans (hb.mono HB.out.size))
 replace HP := Lib.hid (HP.out.below hb)
 clear hb hb1 hcv u0 u1 u2 u3 u4 v0 v1 v2 v3 v4
 obtain ⟨⟨u0, u1, u2, u3, u4⟩, -⟩ := OF.out
 go_wp2_with fail
 refine (gfor_any 1 0 255 0 _ _ [pt0] 2 V4 HP.out pt0_few).mono ?_
 rw [show decide (FrOk 1 0 255 0 [pt0] ∧ (1 : Int) ≠ 2 ∧ ((255 : Int) = 2 ∨ (255 : Int) = 255)) = true from decide_eq_true ⟨pt0_ok, by decide, by decide⟩]
 rintro e V5 ⟨rfl, hb⟩
 replace OF := Lib.hid (OF.out.below hb)
 replace HB := Lib.hid (HB.out.trans (hb.mono HB.out.size))
 replace HP := Lib.hid (HP.out.below hb)
 clear hb u0 u1 u2 u3 u4
 obtain ⟨⟨u0, u1, u2, u3, u4⟩, -⟩ := OF.out
 go_wp2_with fail
 refine (gfor_any 1 0 255 0 _ _ [pt0] 1 V5 HP.out pt0_few).mono ?_
 rw [show decide (FrOk 1 0 255 0 [pt0] ∧ (1 : Int) ≠ 1 ∧ ((255 : Int) = 1 ∨ (255 : Int) = 255)) = false from decide_eq_false (fun h => h.2.1 rfl)]
 rintro e V6 ⟨rfl, hb⟩
 replace HB := Lib.hid (HB.out.trans (hb.mono HB.out.size))
 clear hb u0 u1 u2 u3 u4
 go_wp2_with fail
 go_ret
 exact ⟨rfl, HB.out⟩
end Go.Proofs.YtjghebcnmoojmaaGreat

namespace Go.Proofs.YtjghebcnmoojmaaGreat.frameSteady
open Go.ChangeShapes Go.WideShapes Go.ChangeAt Go.RowKit
open Go.ChangeMaps (open_string shut_string)
set_option linter.unusedVariables false
set_option maxRecDepth 100000

theorem own : ownKnob Tryz.prog.godebug = none := by kernel_rfl
theorem laidOut : laidOutB Tryz.prog = true := by kernel_rfl
def IsRow (k : IntKind) (w : World) (a : Option Addr) (len cap : Nat) (zs : List Int) : Prop :=
 (a = none ∧ len = 0 ∧ cap = 0 ∧ zs = []) ∨
 ∃ x, a = some x ∧ len ≤ cap ∧ cap ≤ maxLen ∧ zs.length = cap ∧ (∀ i, i < zs.length → w.cell? (x.add i) = some (.int k (zs.getD i 0))) ∧ ∀ n ∈ zs, (Lit.int k n).wf = true
theorem bs_of {w : World} {a : Option Addr} {len cap : Nat} {zs : List Int} (h : IsRow .u8 w a len cap zs) : Bs w (.slice a len cap) (zs.take len) ∧ (zs.take len).length = len := by
 rcases h with ⟨rfl, rfl, rfl, rfl⟩ | ⟨x, rfl, hl, hm, hz, hcell, hwz⟩
 ·exact ⟨Bs_nil w, rfl⟩
 ·have hlen : (zs.take len).length = len := by rw [List.length_take]; omega
  refine ⟨⟨fun n hn => ?_, by rw [hlen]; unfold maxLen at hm; omega, ?_⟩, hlen⟩
  ·have := hwz n (List.take_subset _ _ hn)
   have b := bounds_u8 this
   omega
  ·by_cases h0 : len = 0
   ·subst h0; exact .inl ⟨some x, cap, rfl, (fun h => by cases h), by simp⟩
   ·right
    obtain ⟨b, off, spot⟩ := x
    have hc := hcell 0 (by omega)
    have hspot : spot = none := by simpa [Addr.add] using World.cell?_spot hc
    subst hspot
    refine ⟨b, off, cap, by rw [hlen], by rw [hlen]; exact hl, fun i hi => ?_⟩
    have hi' : i < len := by omega
    have := hcell i (by omega)
    have hadd : (⟨b, off, none⟩ : Addr).add i = ⟨b, off + i, none⟩ := by unfold Addr.add; split <;> simp_all
    rw [hadd] at this
    rw [this]
    simp [List.getD, hi']
theorem early (a0 : Option Addr) (len0 cap0 : Nat) (w : World) (h : (1500 : Int) < (len0 : Int)) :
  Calls Tryz.prog 6 #[.slice a0 len0 cap0] w fun e w' => e = .returned (.bool true) ∧ Below w.heap.size w w' := by
 go_enter Tryz.func6, Tryz.ntmps6
 go_wp2_with fail
 go_ret
 exact ⟨rfl, Below.refl _ _⟩
set_option maxHeartbeats 16000000 in
theorem case_no (a0 : Option Addr) (len0 cap0 : Nat) (w : World) (xs : List Int) (q : Int) (w0 : Bs w (.slice a0 len0 cap0) xs) (h : ¬ (1500 : Int) < (len0 : Int)) (hp : frPF xs = .inl q) :
  Calls Tryz.prog 6 #[.slice a0 len0 cap0] w fun e w' => e = .returned (.bool true) ∧ Below w.heap.size w w' := by
 have cP := gparse_any (.slice a0 len0 cap0) xs w w0
 have HP := Lib.hid hp
 have hq9 : (q != 0) = true := by simpa using frPF_ne hp
 clear w0 hp
 go_enter Tryz.func6, Tryz.ntmps6
 go_wp2_with fail
 refine cP.mono ?_
 rintro e V1 ⟨⟨v, q', rfl, hq⟩, hb⟩
 obtain ⟨rfl, a8, c8, rfl⟩ : q' = q ∧ ∃ a8 c8, v = .agg #[.int .i64 0, .int .i64 0, .int .i64 0, .int .i64 0, .slice a8 0 c8] := by
  rcases hq with ⟨h1, a8, c8, h3, _⟩ | ⟨f, h1, _⟩
  ·rw [HP.out] at h1; cases h1; exact ⟨rfl, a8, c8, h3⟩
  ·rw [HP.out] at h1; cases h1
 have HB := Lib.hid hb
 clear hb hq cP
 have hal : Below V1.heap.size V1 (V1.alloc (.cells #[.int .i64 0, .int .i64 0, .int .i64 0, .int .i64 0, .slice a8 0 c8] 24)) := (Below.refl _ V1).alloc (Nat.le_refl _) _
 have O1 := Lib.hid (ownf_alloc V1 0 0 0 0 (.slice a8 0 c8) 24 V1.heap.size rfl)
 replace HB := Lib.hid (HB.out.trans (hal.mono HB.out.size))
 clear hal
 obtain ⟨g1, hg⟩ : ∃ g1, V1.heap.size = g1 := ⟨_, rfl⟩
 obtain ⟨U1, hU⟩ : ∃ U1, V1.alloc (.cells #[.int .i64 0, .int .i64 0, .int .i64 0, .int .i64 0, .slice a8 0 c8] 24) = U1 := ⟨_, rfl⟩
 rw [hU] at HB O1
 rw [hg] at O1
 go_wp2_with fail
 try clear hU hg
 refine (awake9 _).mono ?_
 rintro e V2 ⟨rfl, hb⟩
 replace O1 := Lib.hid (O1.out.below hb)
 replace HB := Lib.hid (HB.out.trans (hb.mono HB.out.size))
 clear hb
 obtain ⟨⟨u0, u1, u2, u3, u4⟩, -⟩ := O1.out
 go_wp2_with fail
 go_ret
 exact ⟨rfl, HB.out⟩
set_option maxHeartbeats 16000000 in
theorem case_ok (a0 : Option Addr) (len0 cap0 : Nat) (w : World) (xs : List Int) (fr ep to pe : Int) (ps : List Pt) (w0 : Bs w (.slice a0 len0 cap0) xs) (h : ¬ (1500 : Int) < (len0 : Int)) (hp : frPF xs = .inr ⟨fr, ep, to, pe, ps⟩) :
  Calls Tryz.prog 6 #[.slice a0 len0 cap0] w fun e w' => e = .returned (.bool true) ∧ Below w.heap.size w w' := by
 have cP := gparse_any (.slice a0 len0 cap0) xs w w0
 have hi := frPF_inv w0.1 hp
 simp only at hi
 have HOK : Hid (FrOk fr ep to pe ps) := hi.1
 have HEQ : Hid (frB fr ep to pe ps = xs) := hi.2
 have HF : Hid (∀ i, i < ps.length → PtFew (ps.getD i zPt)) := fun i hi2 => ptfew_ok (hi.1.2.1 i hi2)
 have HP := Lib.hid hp
 have R0 := Lib.hid w0
 have hL : frL fr ep to pe ps = xs := by rw [← hi.2]; exact if_pos hi.1
 have hK : frK fr ep to pe ps = 0 := if_pos hi.1
 have HLK : Hid (frL fr ep to pe ps = xs ∧ frK fr ep to pe ps = 0) := ⟨hL, hK⟩
 clear w0 hp hi hL hK
 go_enter Tryz.func6, Tryz.ntmps6
 go_wp2_with fail
 refine cP.mono ?_
 rintro e V1 ⟨⟨v, q', rfl, hq⟩, hb⟩
 obtain ⟨rfl, a8, c8, rfl, hps⟩ : q' = 0 ∧ ∃ a8 c8, v = .agg #[.int .i64 fr, .int .i64 ep, .int .i64 to, .int .i64 pe, .slice a8 ps.length c8] ∧ PsOw V1 w.heap.size (.slice a8 ps.length c8) ps := by
  rcases hq with ⟨h1, _⟩ | ⟨f, h1, h2, a8, c8, h3, h4⟩
  ·rw [HP.out] at h1; cases h1
  ·rw [HP.out] at h1; cases h1; exact ⟨h2, a8, c8, h3, h4⟩
 have HB := Lib.hid hb
 have HG := Lib.hid hps.ps
 replace R0 := Lib.hid (Bs_below R0.out hb)
 clear hb hq cP hps
 have hal : Below V1.heap.size V1 (V1.alloc (.cells #[.int .i64 fr, .int .i64 ep, .int .i64 to, .int .i64 pe, .slice a8 ps.length c8] 24)) := (Below.refl _ V1).alloc (Nat.le_refl _) _
 have O1 := Lib.hid (ownf_alloc V1 fr ep to pe (.slice a8 ps.length c8) 24 V1.heap.size rfl)
 replace R0 := Lib.hid (Bs_below R0.out hal)
 replace HG := Lib.hid (HG.out.below hal)
 replace HB := Lib.hid (HB.out.trans (hal.mono HB.out.size))
 clear hal
 obtain ⟨g1, hg⟩ : ∃ g1, V1.heap.size = g1 := ⟨_, rfl⟩
 obtain ⟨U1, hU⟩ : ∃ U1, V1.alloc (.cells #[.int .i64 fr, .int .i64 ep, .int .i64 to, .int .i64 pe, .slice a8 ps.length c8] 24) = U1 := ⟨_, rfl⟩
 rw [hU] at HB O1 R0 HG
 rw [hg] at O1
 obtain ⟨⟨u0, u1, u2, u3, u4⟩, -⟩ := O1.out
 go_wp2_with fail
 try clear hU hg
 clear u0 u1 u2 u3 u4
 refine (gbytes_any fr ep to pe a8 c8 ps _ HG.out HF.out).mono ?_
 rintro e V2 ⟨⟨a9, c9, rfl, hbs, -, -⟩, hb⟩
 rw [HLK.out.1] at hbs
 rw [HLK.out.1, HLK.out.2]
 have R9 := Lib.hid hbs
 replace O1 := Lib.hid (O1.out.below hb)
 replace R0 := Lib.hid (Bs_below R0.out hb)
 replace HG := Lib.hid (HG.out.below hb)
 replace HB := Lib.hid (HB.out.trans (hb.mono HB.out.size))
 clear hb hbs
 go_wp2_with fail
 refine (awake9 _).mono ?_
 rintro e V3 ⟨rfl, hb⟩
 replace O1 := Lib.hid (O1.out.below hb)
 replace R0 := Lib.hid (Bs_below R0.out hb)
 replace HG := Lib.hid (HG.out.below hb)
 replace R9 := Lib.hid (Bs_below R9.out hb)
 replace HB := Lib.hid (HB.out.trans (hb.mono HB.out.size))
 clear hb
 obtain ⟨⟨u0, u1, u2, u3, u4⟩, -⟩ := O1.out
 go_wp2_with fail
 clear u0 u1 u2 u3 u4
 refine (gcheck_any fr ep to pe a8 c8 ps _ HG.out HF.out).mono ?_
 rintro e V4 ⟨rfl, hb⟩
 rw [HLK.out.2]
 replace R0 := Lib.hid (Bs_below R0.out hb)
 replace R9 := Lib.hid (Bs_below R9.out hb)
 replace HB := Lib.hid (HB.out.trans (hb.mono HB.out.size))
 clear hb
 have hc1 : (convert 26 9 (.slice a0 len0 cap0)).run Tryz.prog V4 = .ok (.string (strOfNums xs)) V4 := Bs_conv R0.out
 have hc2 : (convert 26 9 (.slice a9 xs.length c9)).run Tryz.prog V4 = .ok (.string (strOfNums xs)) V4 := Bs_conv R9.out
 go_wp2_with fail
 go_ret
 exact ⟨rfl, HB.out⟩
theorem walk (a0 : Option Addr) (len0 cap0 : Nat) (z0 : List Int) (w : World) (w0 : IsRow .u8 w a0 len0 cap0 z0) :
  Calls Tryz.prog 6 #[.slice a0 len0 cap0] w fun e w' => e = .returned (.bool true) ∧ Below w.heap.size w w' := by
 obtain ⟨xs, b0⟩ : ∃ xs, Bs w (.slice a0 len0 cap0) xs := ⟨_, (bs_of w0).1⟩
 by_cases h : (1500 : Int) < (len0 : Int)
 ·exact early a0 len0 cap0 w h
 ·match hp : frPF xs with
  | .inl q => exact case_no a0 len0 cap0 w xs q b0 h hp
  | .inr ⟨fr, ep, to, pe, ps⟩ => exact case_ok a0 len0 cap0 w xs fr ep to pe ps b0 h hp
set_option maxRecDepth 100000 in
theorem lifted (os : _root_.Go.Os) (started : os.Started) (H : Type) (enc : TypeId × Value → H) :
  ReturnsInHanded {} Tryz.checked os 6 .any (Rows.frameSteadySpec.pre6 enc Tryz.prog Tryz.f6 Rows.frameSteadyRow.domain false) (Rows.frameSteadySpec.post enc Tryz.prog Tryz.f6 false true false false) := by
 refine returnsInHanded_of_change (C := Tryz.checked) own started (by kernel_rfl) Tryz.func6
  (ChangeSpec.witness6 (enc := enc) (C := Tryz.checked) false ⟨#[], #[.slice none 0 0], []⟩ 16 (by kernel_rfl) (by kernel_rfl) (by kernel_rfl) (by kernel_rfl)) ?_
 intro W base args ds gs before hval0 hW hcnd _
 have hval : ∀ (j : Nat) t v, Tryz.f6.params[j]? = some t → args[j]? = some v → Value.okWide Tryz.prog W .any base t v := hval0
 have hW' := hW
 obtain ⟨p, q, hA0, hV, rfl, hfz, hnd⟩ := hW
 have hA : DataW.TrodAll enc Tryz.prog W 0 (fun _ => true) true Tryz.f6.params.toList args.toList ds p := hA0
 rw [Tryz.params6] at hA hval
 obtain ⟨v0, vs0, e0, ds0, p0, q0, hargs, rfl, rfl, h0, x0⟩ := trodAll_cons hA
 obtain ⟨rfl, rfl, rfl⟩ := trodAll_nil x0
 obtain rfl : args = #[v0] := by cases args; simp_all
 obtain ⟨rfl, rfl⟩ := trodVars_none hV
 have k0 := h0
 have lt0 : ∀ x ∈ p0, x.block < W.heap.size := by obtain ⟨m, hm⟩ := k0; exact DataW.trod_lt m _ _ _ hm
 obtain ⟨a0, len0, cap0, rfl⟩ := okWide_slice Tryz.underlying26 (hval 0 26 v0 rfl rfl)
 obtain ⟨z0, w0⟩ : ∃ zs, IsRow .u8 W a0 len0 cap0 zs := by
  obtain ⟨fuel, hf⟩ := h0
  rcases open_ints Tryz.underlying26 Tryz.underlying5 (by kernel_rfl) hf with ⟨hcs, _⟩ | ⟨x, l, c, zs, hcs, _, hl, hm, hz, _, hcell, hwz⟩
  ·simp [Value.cells] at hcs
   obtain ⟨rfl, rfl, rfl⟩ := hcs
   exact ⟨[], .inl ⟨rfl, rfl, rfl, rfl⟩⟩
  ·simp [Value.cells] at hcs
   obtain ⟨rfl, rfl, rfl⟩ := hcs
   exact ⟨zs, .inr ⟨_, rfl, hl, hm, by simpa using hz, hcell, hwz⟩⟩
 clear hA0 hval0
 refine (walk a0 len0 cap0 z0 W w0).mono fun e W' ⟨he, bel⟩ => ?_
 subst he
 exact ⟨_, rfl, _, _, _, [], _, [], hW', trodAll_mk1 (shut_bool Tryz.underlying4 _), (trodAll_cons_mk (Below.trod laidOut (by kernel_rfl) (of_decide_eq_true (by kernel_rfl)) k0 bel lt0) trodAll_mk0), rfl, bel.frame _, fun h => by cases h⟩
theorem over : Rows.frameSteadyRow.holds Tryz.pinned (OpenSpec.ofChange Rows.frameSteadySpec) :=
 OpenClaim.holds_of_wide 6 Tryz.f6 rfl rfl rfl rfl rfl rfl rfl ⟨rfl, rfl, rfl, rfl, rfl⟩ rfl rfl rfl rfl rfl (by kernel_rfl) Tryz.func6 (by kernel_rfl)
  (of_decide_eq_true (by kernel_rfl)) (by unfold Func.isWrapper; first | (rw [if_pos (by decide +kernel)]; kernel_rfl) | (rw [if_neg (by decide +kernel)]; exact ⟨rfl, rfl⟩))
  (fun os started H enc _ => lifted os started H enc)
theorem proved : Rows.FrameSteadySaid := over
end Go.Proofs.YtjghebcnmoojmaaGreat.frameSteady
