/- The reference's Hear of a sensor. No conditions but on lengths. -/
import Derived.Test.YtcddicaebecneaaSn5
import Derived.BigQuiet
import Derived.BigRegion
import Derived.Shelf.RegionOpenPlain
import Derived.Deep.CutBlock
namespace Go.Proofs.Ytcddicaebecneaa
set_option maxRecDepth 100000
open Go.RowKit

/-- What may be heard. -/
def okH (s : Sn) (now fr M : Int) (ys : List (Int × Int)) : Prop := tmB s now = true ∧ 0 ≤ fr ∧ fr < 64 ∧ fr ≠ s.id ∧ BeOk M ys
def old1 (h : Hd) (M : Int) : Bool := h.1 && decide (M < h.2.1)
def dn1 (h : Hd) (M : Int) : Bool := h.1 && (decide (h.2.1 < M) && h.2.2.2)
def out1 (h : Hd) (fr M : Int) : List Ev := if dn1 h M = true then [(2, fr, h.2.1)] else []
def th1 (h : Hd) (M : Int) : Bool := if dn1 h M = true then false else h.2.2.2
def out2 (fr M : Int) (sees th : Bool) : List Ev := if sees = true ∧ th = false then [(1, fr, M)] else if sees = false ∧ th = true then [(2, fr, M)] else []
def seesB (s : Sn) (ys : List (Int × Int)) : Bool := decide (hear ys s.id = some s.ep)
def hdAt (s : Sn) (fr : Int) : Hd := s.L.getD fr.toNat zHd
open Classical in
noncomputable def hearR (s : Sn) (now fr M : Int) (ys : List (Int × Int)) : List Ev × Int × Sn :=
  if okH s now fr M ys then (if old1 (hdAt s fr) M = true then ([], 10, s) else (out1 (hdAt s fr) fr M ++ out2 fr M (seesB s ys) (th1 (hdAt s fr) M), 0, { s with now := now, L := s.L.set fr.toNat (true, M, now, seesB s ys) })) else ([], 1, s)
theorem hear_bad {s : Sn} {now fr M : Int} {ys : List (Int × Int)} (h : ¬ okH s now fr M ys) : hearR s now fr M ys = ([], 1, s) := by unfold hearR; rw [if_neg h]
theorem hear_old {s : Sn} {now fr M : Int} {ys : List (Int × Int)} (h : okH s now fr M ys) (h2 : old1 (hdAt s fr) M = true) : hearR s now fr M ys = ([], 10, s) := by unfold hearR; rw [if_pos h, if_pos h2]
theorem hear_good {s : Sn} {now M : Int} {fN : Nat} {ys : List (Int × Int)} {sees th : Bool} {xs rO : List Ev} (h : okH s now (fN : Int) M ys) (h2 : old1 (hdAt s (fN : Int)) M = false) (h3 : seesB s ys = sees) (h4 : out1 (hdAt s (fN : Int)) (fN : Int) M = xs ∧ th1 (hdAt s (fN : Int)) M = th) (h5 : xs ++ out2 (fN : Int) M sees th = rO) :
    hearR s now (fN : Int) M ys = (rO, 0, { s with now := now, L := s.L.set fN (true, M, now, sees) }) := by
  unfold hearR
  rw [if_pos h, if_neg (by rw [h2]; decide), h3, h4.1, h4.2, h5, Int.toNat_natCast]
theorem own_h3 {w : World} {b : Nat} {y : Hd} (h : OwnH w b y) (t : Bool) : OwnH (w.setCell ⟨b, 3, none⟩ (.bool t)) b (y.1, y.2.1, y.2.2.1, t) := by
  obtain ⟨⟨h0, h1, h2, h3⟩, hf⟩ := h
  refine ⟨⟨?_, ?_, ?_, ?_⟩, fun k => by simpa using hf k⟩ <;> simp [go_sem, h0, h1, h2, h3]
theorem own_h012 {w : World} {b : Nat} {y : Hd} (h : OwnH w b y) (M now : Int) : OwnH (((w.setCell ⟨b, 0, none⟩ (.bool true)).setCell ⟨b, 1, none⟩ (.int .i64 M)).setCell ⟨b, 2, none⟩ (.int .i64 now)) b (true, M, now, y.2.2.2) := by
  obtain ⟨⟨h0, h1, h2, h3⟩, hf⟩ := h
  refine ⟨⟨?_, ?_, ?_, ?_⟩, fun k => by simpa using hf k⟩ <;> simp [go_sem, h0, h1, h2, h3]
theorem own_hk {w w' : World} {b B : Nat} {y : Hd} (h : OwnH w b y) (hb : Below B w w') (hB : b < B) : OwnH w' b y :=
  ⟨h.1.chg (F := fun k => B ≤ k) (chg_of hb) (by omega), fun k => (hb.frozen (p := ⟨b, k, none⟩) hB).trans (h.2 k)⟩
/-- The two cells of a beacon that was laid down. -/
def BxAt (w : World) (b : Nat) (M : Int) (v : Value) : Prop := w.cell? ⟨b, 0, none⟩ = some (.int .i64 M) ∧ w.cell? ⟨b, 1, none⟩ = some v
theorem BxAt.keep {B : Nat} {w w' : World} {b : Nat} {M : Int} {v : Value} (h : BxAt w b M v) (hb : Below B w w') (hB : b < B) : BxAt w' b M v := ⟨(hb.cell (p := ⟨b, 0, none⟩) hB).trans h.1, (hb.cell (p := ⟨b, 1, none⟩) hB).trans h.2⟩
theorem BxAt.off {w : World} {b b' j : Nat} {M : Int} {v u : Value} (h : BxAt w b M v) (hn : b ≠ b') : BxAt (w.setCell ⟨b', j, none⟩ u) b M v := by
  have e : ∀ i, (w.setCell ⟨b', j, none⟩ u).cell? ⟨b, i, none⟩ = w.cell? ⟨b, i, none⟩ := fun i => World.cell?_setCell_other _ _ _ _ (fun e => hn (congrArg Addr.block e).symm)
  exact ⟨(e 0).trans h.1, (e 1).trans h.2⟩
set_option maxHeartbeats 32000000 in
theorem rhear_any (b g : Nat) (s : Sn) (now fr M : Int) (v : Value) (ys : List (Int × Int)) (w : World) (h : XS w b g s) (hy : Es w v ys) (hl : ys.length ≤ 3000) (rO : List Ev) (rE : Int) (rS : Sn) (hR : hearR s now fr M ys = (rO, rE, rS)) :
    Calls Try.prog 16 #[.pointer (some ⟨b, 0, none⟩), .int .i64 now, .int .i64 fr, .agg #[.int .i64 M, v]] w fun e w' => (∃ a c, e = .returned (.tuple #[.slice a rO.length c, .int .i64 rE]) ∧ OwV3 w' w.heap.size (.slice a rO.length c) rO) ∧ XS w' b g rS ∧ Chg (fun k => k = b ∨ k = g) w w' := by
  have mixed : Try.prog.follows .mixedOrders = true := by kernel_rfl
  obtain ⟨a, c, rfl⟩ := hy.form
  obtain ⟨v0, hv0⟩ : ∃ v0, Value.slice a ys.length c = v0 := ⟨_, rfl⟩
  obtain ⟨w1, hw1⟩ : ∃ w1, w.alloc (.cells #[.int .i64 M, .slice a ys.length c] 34) = w1 := ⟨_, rfl⟩
  have hb1 : Below w.heap.size w w1 := hw1 ▸ (Below.refl _ w).alloc (Nat.le_refl _) _
  have hbx : BxAt w1 w.heap.size M (.slice a ys.length c) := by rw [← hw1]; exact ⟨by simp, by simp⟩
  have hs1 : w1.heap.size = w.heap.size + 1 := by rw [← hw1]; simp
  have HRR := Lib.hid (show (rO, rE, rS) = (rO, rE, rS) from rfl)
  have HR0 := Lib.hid hR
  have H := Lib.hid h
  have HBL := Lib.hid (And.intro h.bl h.gl)
  have HY := Lib.hid hy
  have HB1 := Lib.hid hb1
  have HBX := Lib.hid hbx
  have HS1 := Lib.hid hs1
  have HW1 := Lib.hid hw1
  have CT := Lib.hid (rtime_any b g s now w1 (h.below hb1))
  clear h hy hb1 hbx hs1 hw1 hv0 hR HRR
  clear v0
  have HRR : Hid (hearR s now fr M ys = (rO, rE, rS)) := HR0
  clear HR0
  go_enter Try.func16, Try.ntmps16
  go_upto_region 1 with (fail)
  rw [HW1.out]
  go_wp2_with fail
  refine CT.out.mono ?_
  rintro e w2 ⟨rfl, hb2⟩
  have HB2 := Lib.hid (HB1.out.trans (hb2.mono HB1.out.size))
  have HBX2 := Lib.hid (HBX.out.keep hb2 (by have := HS1.out; omega))
  have HX2 := Lib.hid (H.out.keep HB2.out HBL.out.1 HBL.out.2)
  have HS2 : Hid (w.heap.size + 1 ≤ w2.heap.size) := by have := hb2.size; have := HS1.out; show _ ≤ _; omega
  clear hb2 CT
  cases ht : tmB s now with
  | false =>
    have HT := Lib.hid ht
    clear ht
    have HE := Lib.hid (hear_bad (s := s) (now := now) (fr := fr) (M := M) (ys := ys) (fun h => by have h9 := h.1; rw [HT.out] at h9; cases h9))
    go_wp2_with fail
    have hq := HRR.out.symm.trans HE.out
    simp only [Prod.mk.injEq] at hq
    obtain ⟨rfl, rfl, rfl⟩ := hq
    refine bodyPost_ret (v := .tuple #[.slice none 0 0, .int .i64 1]) (by simp [results, Try.results16, go_sem]) rfl ?_
    exact ⟨⟨none, 0, rfl, OwV3_nil _ _⟩, H.out.keep HB2.out HBL.out.1 HBL.out.2, chg0 HB2.out⟩
  | true =>
    have HT := Lib.hid ht
    clear ht
    by_cases g1 : fr < 0
    · have G1 := Lib.hid g1
      have HE := Lib.hid (hear_bad (s := s) (now := now) (fr := fr) (M := M) (ys := ys) (fun h => by have := h.2.1; have := G1.out; omega))
      go_wp2_with fail
      have hq := HRR.out.symm.trans HE.out
      simp only [Prod.mk.injEq] at hq
      obtain ⟨rfl, rfl, rfl⟩ := hq
      refine bodyPost_ret (v := .tuple #[.slice none 0 0, .int .i64 1]) (by simp [results, Try.results16, go_sem]) rfl ?_
      exact ⟨⟨none, 0, rfl, OwV3_nil _ _⟩, H.out.keep HB2.out HBL.out.1 HBL.out.2, chg0 HB2.out⟩
    · by_cases g2 : fr ≥ 64
      · have G2 := Lib.hid g2
        have g2' : 64 ≤ fr := g2
        have HE := Lib.hid (hear_bad (s := s) (now := now) (fr := fr) (M := M) (ys := ys) (fun h => by have := h.2.2.1; have := G2.out; omega))
        go_wp2_with fail
        have hq := HRR.out.symm.trans HE.out
        simp only [Prod.mk.injEq] at hq
        obtain ⟨rfl, rfl, rfl⟩ := hq
        refine bodyPost_ret (v := .tuple #[.slice none 0 0, .int .i64 1]) (by simp [results, Try.results16, go_sem]) rfl ?_
        exact ⟨⟨none, 0, rfl, OwV3_nil _ _⟩, H.out.keep HB2.out HBL.out.1 HBL.out.2, chg0 HB2.out⟩
      · obtain ⟨c0, c1, c2, c3, c4⟩ := HX2.out.cells
        by_cases g3 : fr = s.id
        · have G3 := Lib.hid g3
          have g3' : (fr == s.id) = true := by simpa using g3
          clear g3
          have HE := Lib.hid (hear_bad (s := s) (now := now) (fr := fr) (M := M) (ys := ys) (fun h => h.2.2.2.1 G3.out))
          go_wp2_with fail
          have hq := HRR.out.symm.trans HE.out
          simp only [Prod.mk.injEq] at hq
          obtain ⟨rfl, rfl, rfl⟩ := hq
          refine bodyPost_ret (v := .tuple #[.slice none 0 0, .int .i64 1]) (by simp [results, Try.results16, go_sem]) rfl ?_
          exact ⟨⟨none, 0, rfl, OwV3_nil _ _⟩, H.out.keep HB2.out HBL.out.1 HBL.out.2, chg0 HB2.out⟩
        · have g3' : (fr == s.id) = false := by simpa using g3
          have G3 := Lib.hid g3
          clear g3
          obtain ⟨x0, x1⟩ := HBX2.out
          have HYw2 := Lib.hid (HY.out.below HB2.out)
          obtain ⟨Q, hQ⟩ : ∃ Q : Bool, Q = true ↔ BeOk M ys := by
            by_cases h : BeOk M ys
            · exact ⟨true, fun _ => h, fun _ => rfl⟩
            · exact ⟨false, fun h2 => (by cases h2), fun h2 => absurd h2 h⟩
          have CR := Lib.hid (rbright_fix M (.slice a ys.length c) ys Q hQ w2 HYw2.out hl)
          have HQ := Lib.hid hQ
          clear hQ
          cases Q with
          | false =>
            go_wp2_with fail
            refine CR.out.mono ?_
            rintro e w3 ⟨rfl, hb3⟩
            have HB3 := Lib.hid (HB2.out.trans (hb3.mono HB2.out.size))
            clear hb3 CR
            have HE := Lib.hid (hear_bad (s := s) (now := now) (fr := fr) (M := M) (ys := ys) (fun h => by have := HQ.out.2 h.2.2.2.2; cases this))
            go_wp2_with fail
            have hq := HRR.out.symm.trans HE.out
            simp only [Prod.mk.injEq] at hq
            obtain ⟨rfl, rfl, rfl⟩ := hq
            refine bodyPost_ret (v := .tuple #[.slice none 0 0, .int .i64 1]) (by simp [results, Try.results16, go_sem]) rfl ?_
            exact ⟨⟨none, 0, rfl, OwV3_nil _ _⟩, H.out.keep HB3.out HBL.out.1 HBL.out.2, chg0 HB3.out⟩
          | true =>
            obtain ⟨fN, rfl⟩ : ∃ fN : Nat, fr = (fN : Int) := ⟨fr.toNat, by omega⟩
            have hokh : okH s now (fN : Int) M ys := ⟨HT.out, by omega, by omega, G3.out, HQ.out.1 rfl⟩
            have HOKH := Lib.hid hokh
            have HFN : Hid (fN < 64) := by show _ < _; omega
            have hfz : (fN : Int) < 64 := by omega
            clear hokh g1 g2
            have g1 : ¬ (fN : Int) < 0 := by omega
            have g2 : ¬ (fN : Int) ≥ 64 := by omega
            go_wp2_with fail
            refine CR.out.mono ?_
            rintro e w3 ⟨rfl, hb3⟩
            have HB3 := Lib.hid (HB2.out.trans (hb3.mono HB2.out.size))
            have HBX3 := Lib.hid (HBX2.out.keep hb3 (by have := HS2.out; omega))
            have HX3 := Lib.hid (H.out.keep HB3.out HBL.out.1 HBL.out.2)
            have HS3 : Hid (w.heap.size + 1 ≤ w3.heap.size) := Nat.le_trans HS2.out hb3.size
            clear hb3 CR c0 c1 c2 c3 c4 x0 x1 g1 g2 g3'
            obtain ⟨c0, c1, c2, c3, c4⟩ := HX3.out.cells
            obtain ⟨r0, r1, r2, r3⟩ := HX3.out.row fN HFN.out
            obtain ⟨y, hy⟩ : ∃ y, s.L.getD fN zHd = y := ⟨_, rfl⟩
            have HYD : Hid (hdAt s (fN : Int) = y) := by show _ = _; unfold hdAt; rw [Int.toNat_natCast]; exact hy
            rw [hy] at r0 r1 r2 r3
            clear hy
            obtain ⟨V, hV⟩ : ∃ V, w3.alloc (.cells #[.bool y.1, .int .i64 y.2.1, .int .i64 y.2.2.1, .bool y.2.2.2] 81) = V := ⟨_, rfl⟩
            have hbv : Below w3.heap.size w3 V := hV ▸ (Below.refl _ w3).alloc (Nat.le_refl _) _
            obtain ⟨bh, hbh⟩ : ∃ bh, w3.heap.size = bh := ⟨_, rfl⟩
            obtain ⟨SB, hSB⟩ : ∃ SB, V.heap.size = SB := ⟨_, rfl⟩
            have hsv : SB = bh + 1 := by rw [← hSB, ← hV, ← hbh]; simp
            have HHV : Hid (OwnH V bh y) := hbh ▸ hV ▸ ownH_alloc w3 y
            have HBV := Lib.hid (HB3.out.trans (hbv.mono HB3.out.size))
            have HBXV := Lib.hid (HBX3.out.keep hbv (by have := HS3.out; omega))
            have HNB2 : Hid (w.heap.size ≤ bh) := by have := HS3.out; show _ ≤ _; omega
            have HNBX : Hid (w.heap.size ≠ bh) := by have := HS3.out; show _ ≠ _; omega
            have HBS2 : Hid (bh < SB) := by show _ < _; omega
            have HGS2 : Hid (g < SB) := by have := HBL.out.2; have := HNB2.out; show _ < _; omega
            have HBS3 : Hid (b < SB) := by have := HBL.out.1; have := HNB2.out; show _ < _; omega
            have HSB : Hid (w.heap.size ≤ SB) := by have := HNB2.out; show _ ≤ _; omega
            have HSV : Hid (V.heap.size = SB) := hSB
            clear hsv hSB
            have hVS := hV
            go_upto_region 4 with (fail)
            try simp only [hbh]
            clear c0 c1 c2 c3 c4 r0 r1 r2 r3 hV hbv hbh hVS
            obtain ⟨⟨v0, v1, v2, v3⟩, vf⟩ := HHV.out
            obtain ⟨x0, x1⟩ := HBXV.out
            simp only [Nat.zero_add] at v1 v2 v3
            go_cut [55] from 15 to 54 (fun r wx => r = .bool (old1 y M) ∧ V = wx)
            case first =>
              rcases Bool.eq_false_or_eq_true y.1 with e1 | e1
              rotate_left
              · have HO1 : Hid (old1 y M = false) := by show _ = _; unfold old1; rw [e1]; rfl
                rw [e1] at v0
                clear e1
                go_wp2_with fail
                go_meet
                case rel => exact ⟨by rw [HO1.out], rfl⟩
              · rw [e1] at v0
                by_cases e2 : M < y.2.1
                · have HO1 : Hid (old1 y M = true) := by show _ = _; unfold old1; rw [e1, decide_eq_true e2]; rfl
                  have e3 : y.2.1 > M := e2
                  clear e1
                  go_wp2_with fail
                  go_meet
                  case rel => exact ⟨by rw [HO1.out], rfl⟩
                · have HO1 : Hid (old1 y M = false) := by show _ = _; unfold old1; rw [e1, decide_eq_false e2]; rfl
                  have e3 : ¬ y.2.1 > M := e2
                  clear e1
                  go_wp2_with fail
                  go_meet
                  case rel => exact ⟨by rw [HO1.out], rfl⟩
            obtain ⟨rfl, rfl⟩ := hcut
            cases ho : old1 y M with
            | true =>
              have HOL := Lib.hid ho
              clear ho
              have HE := Lib.hid (hear_old HOKH.out (by rw [HYD.out]; exact HOL.out))
              go_wp2_with fail
              have hq := HRR.out.symm.trans HE.out
              simp only [Prod.mk.injEq] at hq
              obtain ⟨rfl, rfl, rfl⟩ := hq
              refine bodyPost_ret (v := .tuple #[.slice none 0 0, .int .i64 10]) (by simp [results, Try.results16, go_sem]) rfl ?_
              exact ⟨⟨none, 0, rfl, OwV3_nil _ _⟩, H.out.keep HBV.out HBL.out.1 HBL.out.2, chg0 HBV.out⟩
            | false =>
              have HOLD : Hid (old1 (hdAt s (fN : Int)) M = false) := by show _ = _; rw [HYD.out]; exact ho
              clear ho
              have hcells : V.cell? ⟨bh, 3, none⟩ = some (.bool y.2.2.2) := v3
              go_upto_region 7 with (fail)
              go_cut [68] from 15 to 67 (fun r wx => r = .bool (dn1 y M) ∧ V = wx)
              case first =>
                rcases Bool.eq_false_or_eq_true y.1 with e1 | e1
                rotate_left
                · have HO1 : Hid (dn1 y M = false) := by show _ = _; unfold dn1; rw [e1]; rfl
                  rw [e1] at v0
                  clear e1
                  go_wp2_with fail
                  go_meet
                  case rel => exact ⟨by rw [HO1.out], rfl⟩
                · rw [e1] at v0
                  by_cases e2 : y.2.1 < M
                  · rcases Bool.eq_false_or_eq_true y.2.2.2 with e4 | e4
                    · have HO1 : Hid (dn1 y M = true) := by show _ = _; unfold dn1; rw [e1, decide_eq_true e2, e4]; rfl
                      rw [e4] at v3
                      clear e1 e4 hcells
                      go_wp2_with fail
                      go_meet
                      case rel => exact ⟨by rw [HO1.out], rfl⟩
                    · have HO1 : Hid (dn1 y M = false) := by show _ = _; unfold dn1; rw [e1, decide_eq_true e2, e4]; rfl
                      rw [e4] at v3
                      clear e1 e4 hcells
                      go_wp2_with fail
                      go_meet
                      case rel => exact ⟨by rw [HO1.out], rfl⟩
                  · have HO1 : Hid (dn1 y M = false) := by show _ = _; unfold dn1; rw [e1, decide_eq_false e2]; rfl
                    clear e1
                    go_wp2_with fail
                    go_meet
                    case rel => exact ⟨by rw [HO1.out], rfl⟩
              obtain ⟨rfl, rfl⟩ := hcut
              clear hcells
              go_upto_if 68 with (fail)
              go_cut [11] from 15 to 76 (fun ov wx => ∃ (ax : Option Addr) (cx : Nat) (xs : List Ev) (th : Bool), ov = .slice ax xs.length cx ∧ Hid (out1 y (fN : Int) M = xs ∧ th1 y M = th) ∧ Hid (OwV3 wx SB (.slice ax xs.length cx) xs) ∧ Hid (OwnH wx bh (y.1, y.2.1, y.2.2.1, th)) ∧ Hid (BxAt wx w.heap.size M (.slice a ys.length c)) ∧ Hid (Below w.heap.size w wx) ∧ Hid (SB ≤ wx.heap.size) ∧ Hid (xs.length ≤ 3000))
              case first =>
                cases hd : dn1 y M with
                | true =>
                  have HD : Hid (out1 y (fN : Int) M = [(2, (fN : Int), y.2.1)] ∧ th1 y M = false) := ⟨by unfold out1; rw [if_pos hd], by unfold th1; rw [if_pos hd]⟩
                  clear hd
                  go_upto_region 9 with (at_builtin; refine eapp3_any rfl (.tmp 69) (.tmp 74) rfl V (2, (fN : Int), y.2.1) rfl SB (.slice none 0 0) [] rfl rfl (OwV3_nil _ _) (by simp) (Nat.le_of_eq HSV.out.symm) ?_; intro g1 cap1 wa ho9 hb9; have HO1 := Lib.hid ho9; have HA1 := Lib.hid hb9; clear ho9 hb9)
                  have HHa := Lib.hid (own_hk HHV.out HA1.out HBS2.out)
                  clear v0 v1 v2 v3 vf x0 x1
                  obtain ⟨⟨v0, v1, v2, v3⟩, vf⟩ := HHa.out
                  simp only [Nat.zero_add] at v1 v2 v3
                  have vf3 := vf 3
                  have HBa := Lib.hid (HBV.out.trans (HA1.out.mono HSB.out))
                  have HBXa := Lib.hid (HBXV.out.keep HA1.out (by have := HBS2.out; have := HNB2.out; omega))
                  go_wp2_with fail
                  go_meet
                  case rel => exact ⟨some ⟨g1, 0, none⟩, cap1, [(2, (fN : Int), y.2.1)], false, rfl, HD, gown_apart HO1.out HBS2.out _, own_h3 HHa.out false, HBXa.out.off HNBX.out, HBa.out.setCell (p := ⟨bh, 3, none⟩) HNB2.out _, by show _ ≤ _; have := HA1.out.size; have := HSV.out; simp; omega, by show _ ≤ _; simp⟩
                | false =>
                  have HD : Hid (out1 y (fN : Int) M = [] ∧ th1 y M = y.2.2.2) := ⟨by unfold out1; rw [if_neg (by rw [hd]; decide)], by unfold th1; rw [if_neg (by rw [hd]; decide)]⟩
                  clear hd
                  go_wp2_with fail
                  go_meet
                  case rel => exact ⟨none, 0, [], y.2.2.2, rfl, HD, OwV3_nil _ _, HHV.out, HBXV.out, HBV.out, Nat.le_of_eq HSV.out.symm, by show _ ≤ _; simp⟩
              obtain ⟨ax, cx, xs, th, rfl, HD0, HO2, HV2, HX2b, HB2b, HSW2, HXL⟩ := hcut
              clear v0 v1 v2 v3 vf x0 x1 HHV HBXV HBV HSV
              have HD1 : Hid (out1 (hdAt s (fN : Int)) (fN : Int) M = xs ∧ th1 (hdAt s (fN : Int)) M = th) := by show _ ∧ _; rw [HYD.out]; exact HD0.out
              obtain ⟨⟨v0, v1, v2, v3⟩, vf⟩ := HV2.out
              obtain ⟨x0, x1⟩ := HX2b.out
              simp only [Nat.zero_add] at v1 v2 v3
              have vf0 := vf 0
              have vf1 := vf 1
              have vf2 := vf 2
              have hnx : w.heap.size ≠ bh := HNBX.out
              have hnx2 : bh ≠ w.heap.size := hnx.symm
              go_upto_region 13 with (fail)
              obtain ⟨Vb, hVb⟩ : ∃ Vb, ((wc.setCell ⟨bh, 0, none⟩ (.bool true)).setCell ⟨bh, 1, none⟩ (.int .i64 M)).setCell ⟨bh, 2, none⟩ (.int .i64 now) = Vb := ⟨_, rfl⟩
              have HV4 : Hid (OwnH Vb bh (true, M, now, th)) := hVb ▸ own_h012 HV2.out M now
              have HB4 : Hid (Below w.heap.size w Vb) := hVb ▸ ((HB2b.out.setCell (p := ⟨bh, 0, none⟩) HNB2.out _).setCell (p := ⟨bh, 1, none⟩) HNB2.out _).setCell (p := ⟨bh, 2, none⟩) HNB2.out _
              have HO4 : Hid (OwV3 Vb SB (.slice ax xs.length cx) xs) := hVb ▸ gown_apart (gown_apart (gown_apart HO2.out HBS2.out _) HBS2.out _) HBS2.out _
              have HX4b : Hid (BxAt Vb w.heap.size M (.slice a ys.length c)) := hVb ▸ ((HX2b.out.off HNBX.out).off HNBX.out).off HNBX.out
              have HSV4 : Hid (SB ≤ Vb.heap.size) := by show _ ≤ _; rw [← hVb]; simpa using HSW2.out
              try rw [hVb]
              clear v0 v1 v2 v3 vf vf0 vf1 vf2 x0 x1 hnx hnx2 hVb HV2 HB2b HO2 HX2b HSW2
              obtain ⟨⟨x0, x1⟩⟩ : Nonempty (BxAt Vb w.heap.size M (.slice a ys.length c)) := ⟨HX4b.out⟩
              have hid0 := (H.out.keep HB4.out HBL.out.1 HBL.out.2).cells.1
              have hsz1 : w.heap.size < Vb.heap.size := by have := HSV4.out; have := HBS2.out; have := HNB2.out; omega
              have hsz2 : b < Vb.heap.size := Nat.lt_trans HBL.out.1 hsz1
              have kc : ∀ w', Below Vb.heap.size Vb w' → w'.cell? ⟨w.heap.size, 0, none⟩ = some (.int .i64 M) ∧ w'.cell? ⟨w.heap.size, 1, none⟩ = some (.slice a ys.length c) ∧ w'.cell? ⟨b, 0, none⟩ = some (.int .i64 s.id) := fun w' hb =>
                ⟨(hb.cell (p := ⟨w.heap.size, 0, none⟩) hsz1).trans x0, (hb.cell (p := ⟨w.heap.size, 1, none⟩) hsz1).trans x1, (hb.cell (p := ⟨b, 0, none⟩) hsz2).trans hid0⟩
              have HYV := Lib.hid (HY.out.below HB4.out)
              have cH := fun W (hb : Below Vb.heap.size Vb W) => rheard_any M (.slice a ys.length c) ys s.id W (HYV.out.below hb) hl
              refine wp_region_typed (C := fun w' => Below Vb.heap.size Vb w') (X := fun w w' => Below w.heap.size w w') (n := 141) (by kernel_rfl) (by kernel_rfl) rfl (fun w => Below.refl _ w) (Below.refl _ _).drew ?_
              refine w_is (fun w => Below.refl _ w) _ (.inl rfl) (fun ρ w hC hc hfn hf => by have e7 : ρ (.tmp 7) = _ := hf 7 (by decide); (conv => lhs; simp [execOp, go_sem, hc, e7, kc w hC])) ?_
              refine w_is (fun w => Below.refl _ w) _ (.inl rfl) (fun ρ w hC hc hfn hf => by have e0 : ρ (.tmp 0) = _ := hf 0 (by decide); (conv => lhs; simp [execOp, go_sem, hc, e0])) ?_
              refine w_is (fun w => Below.refl _ w) _ (.inl rfl) (fun ρ w hC hc hfn hf => by have e85 : ρ (.tmp 85) = _ := hf 85 (by decide); (conv => lhs; simp [execOp, go_sem, hc, e85])) ?_
              refine w_is (fun w => Below.refl _ w) _ (.inl rfl) (fun ρ w hC hc hfn hf => by have e86 : ρ (.tmp 86) = _ := hf 86 (by decide); (conv => lhs; simp [execOp, go_sem, hc, e86])) ?_
              refine w_is (fun w => Below.refl _ w) _ (.inl rfl) (fun ρ w hC hc hfn hf => by have e87 : ρ (.tmp 87) = _ := hf 87 (by decide); (conv => lhs; simp [execOp, go_sem, hc, e87, kc w hC])) ?_
              refine w_call (Is _) (fun _ _ _ h _ => h) 34 (.inl rfl) (fun ρ w hC hc hfn hf => by have e84 : ρ (.tmp 84) = _ := hf 84 (by decide); have e88 : ρ (.tmp 88) = _ := hf 88 (by decide); exact ⟨_, by (conv => lhs; simp [execOp, resolve, invoke, go_sem, hc, hfn, e84, e88]), tc_below hC (cH w hC)⟩) ?_
              refine w_is (fun w => Below.refl _ w) _ (.inl rfl) (fun ρ w hC hc hfn hf => by have e89 : ρ (.tmp 89) = _ := hf 89 (by decide); (conv => lhs; simp [execOp, go_sem, hc, e89])) ?_
              refine w_is (fun w => Below.refl _ w) _ (.inl rfl) (fun ρ w hC hc hfn hf => by have e83 : ρ (.tmp 83) = _ := hf 83 (by decide); (conv => lhs; simp [execOp, go_sem, hc, e83])) ?_
              refine w_is (fun w => Below.refl _ w) _ (.inl rfl) (fun ρ w hC hc hfn hf => by have e83 : ρ (.tmp 83) = _ := hf 83 (by decide); (conv => lhs; simp [execOp, go_sem, hc, e83])) ?_
              refine w_is (fun w => Below.refl _ w) _ (.inl rfl) (fun ρ w hC hc hfn hf => by have e90 : ρ (.tmp 90) = _ := hf 90 (by decide); (conv => lhs; simp [execOp, go_sem, hc, e90])) ?_
              refine w_is (fun w => Below.refl _ w) _ (.inl rfl) (fun ρ w hC hc hfn hf => by have e91 : ρ (.tmp 91) = _ := hf 91 (by decide); (conv => lhs; simp [execOp, go_sem, hc, e91])) ?_
              intro A V5 hC hn hd hf
              have y0 : A.eval (.tmp 0) = _ := Eq.trans (hf 0) (by conv => lhs; simp [go_sem])
              have y1 : A.eval (.tmp 1) = _ := Eq.trans (hf 1) (by conv => lhs; simp [go_sem])
              have y2 : A.eval (.tmp 2) = _ := Eq.trans (hf 2) (by conv => lhs; simp [go_sem])
              have y3 : A.eval (.tmp 3) = _ := Eq.trans (hf 3) (by conv => lhs; simp [go_sem])
              have y4 : A.eval (.tmp 4) = _ := Eq.trans (hf 4) (by conv => lhs; simp [go_sem])
              have y5 : A.eval (.tmp 5) = _ := Eq.trans (hf 5) (by conv => lhs; simp [go_sem])
              have y6 : A.eval (.tmp 6) = _ := Eq.trans (hf 6) (by conv => lhs; simp [go_sem])
              have y7 : A.eval (.tmp 7) = _ := Eq.trans (hf 7) (by conv => lhs; simp [go_sem])
              have y8 : A.eval (.tmp 8) = _ := Eq.trans (hf 8) (by conv => lhs; simp [go_sem])
              have y9 : A.eval (.tmp 9) = _ := Eq.trans (hf 9) (by conv => lhs; simp [go_sem])
              have y10 : A.eval (.tmp 10) = _ := Eq.trans (hf 10) (by conv => lhs; simp [go_sem])
              have y11 : A.eval (.tmp 11) = _ := Eq.trans (hf 11) (by conv => lhs; simp [go_sem])
              have y12 : A.eval (.tmp 12) = _ := hf 12
              have y13 : A.eval (.tmp 13) = _ := hf 13
              have y14 : A.eval (.tmp 14) = _ := Eq.trans (hf 14) (by conv => lhs; simp [go_sem])
              have y15 : A.eval (.tmp 15) = _ := Eq.trans (hf 15) (by conv => lhs; simp [go_sem])
              have y16 : A.eval (.tmp 16) = _ := Eq.trans (hf 16) (by conv => lhs; simp [go_sem])
              have y17 : A.eval (.tmp 17) = _ := Eq.trans (hf 17) (by conv => lhs; simp [go_sem])
              have y18 : A.eval (.tmp 18) = _ := Eq.trans (hf 18) (by conv => lhs; simp [go_sem])
              have y19 : A.eval (.tmp 19) = _ := Eq.trans (hf 19) (by conv => lhs; simp [go_sem])
              have y20 : A.eval (.tmp 20) = _ := Eq.trans (hf 20) (by conv => lhs; simp [go_sem])
              have y21 : A.eval (.tmp 21) = _ := Eq.trans (hf 21) (by conv => lhs; simp [go_sem])
              have y22 : A.eval (.tmp 22) = _ := Eq.trans (hf 22) (by conv => lhs; simp [go_sem])
              have y23 : A.eval (.tmp 23) = _ := Eq.trans (hf 23) (by conv => lhs; simp [go_sem])
              have y24 : A.eval (.tmp 24) = _ := Eq.trans (hf 24) (by conv => lhs; simp [go_sem])
              have y25 : A.eval (.tmp 25) = _ := Eq.trans (hf 25) (by conv => lhs; simp [go_sem])
              have y26 : A.eval (.tmp 26) = _ := Eq.trans (hf 26) (by conv => lhs; simp [go_sem])
              have y27 : A.eval (.tmp 27) = _ := Eq.trans (hf 27) (by conv => lhs; simp [go_sem])
              have y28 : A.eval (.tmp 28) = _ := Eq.trans (hf 28) (by conv => lhs; simp [go_sem])
              have y29 : A.eval (.tmp 29) = _ := Eq.trans (hf 29) (by conv => lhs; simp [go_sem])
              have y30 : A.eval (.tmp 30) = _ := Eq.trans (hf 30) (by conv => lhs; simp [go_sem])
              have y31 : A.eval (.tmp 31) = _ := Eq.trans (hf 31) (by conv => lhs; simp [go_sem])
              have y32 : A.eval (.tmp 32) = _ := Eq.trans (hf 32) (by conv => lhs; simp [go_sem])
              have y33 : A.eval (.tmp 33) = _ := Eq.trans (hf 33) (by conv => lhs; simp [go_sem])
              have y34 : A.eval (.tmp 34) = _ := Eq.trans (hf 34) (by conv => lhs; simp [go_sem])
              have y35 : A.eval (.tmp 35) = _ := Eq.trans (hf 35) (by conv => lhs; simp [go_sem])
              have y36 : A.eval (.tmp 36) = _ := Eq.trans (hf 36) (by conv => lhs; simp [go_sem])
              have y37 : A.eval (.tmp 37) = _ := Eq.trans (hf 37) (by conv => lhs; simp [go_sem])
              have y38 : A.eval (.tmp 38) = _ := Eq.trans (hf 38) (by conv => lhs; simp [go_sem])
              have y39 : A.eval (.tmp 39) = _ := Eq.trans (hf 39) (by conv => lhs; simp [go_sem])
              have y40 : A.eval (.tmp 40) = _ := Eq.trans (hf 40) (by conv => lhs; simp [go_sem])
              have y41 : A.eval (.tmp 41) = _ := Eq.trans (hf 41) (by conv => lhs; simp [go_sem])
              have y42 : A.eval (.tmp 42) = _ := Eq.trans (hf 42) (by conv => lhs; simp [go_sem])
              have y43 : A.eval (.tmp 43) = _ := Eq.trans (hf 43) (by conv => lhs; simp [go_sem])
              have y44 : A.eval (.tmp 44) = _ := Eq.trans (hf 44) (by conv => lhs; simp [go_sem])
              have y45 : A.eval (.tmp 45) = _ := Eq.trans (hf 45) (by conv => lhs; simp [go_sem])
              have y46 : A.eval (.tmp 46) = _ := Eq.trans (hf 46) (by conv => lhs; simp [go_sem])
              have y47 : A.eval (.tmp 47) = _ := Eq.trans (hf 47) (by conv => lhs; simp [go_sem])
              have y48 : A.eval (.tmp 48) = _ := Eq.trans (hf 48) (by conv => lhs; simp [go_sem])
              have y49 : A.eval (.tmp 49) = _ := Eq.trans (hf 49) (by conv => lhs; simp [go_sem])
              have y50 : A.eval (.tmp 50) = _ := Eq.trans (hf 50) (by conv => lhs; simp [go_sem])
              have y51 : A.eval (.tmp 51) = _ := Eq.trans (hf 51) (by conv => lhs; simp [go_sem])
              have y52 : A.eval (.tmp 52) = _ := Eq.trans (hf 52) (by conv => lhs; simp [go_sem])
              have y53 : A.eval (.tmp 53) = _ := Eq.trans (hf 53) (by conv => lhs; simp [go_sem])
              have y54 : A.eval (.tmp 54) = _ := Eq.trans (hf 54) (by conv => lhs; simp [go_sem])
              have y55 : A.eval (.tmp 55) = _ := Eq.trans (hf 55) (by conv => lhs; simp [go_sem])
              have y56 : A.eval (.tmp 56) = _ := Eq.trans (hf 56) (by conv => lhs; simp [go_sem])
              have y57 : A.eval (.tmp 57) = _ := Eq.trans (hf 57) (by conv => lhs; simp [go_sem])
              have y58 : A.eval (.tmp 58) = _ := Eq.trans (hf 58) (by conv => lhs; simp [go_sem])
              have y59 : A.eval (.tmp 59) = _ := Eq.trans (hf 59) (by conv => lhs; simp [go_sem])
              have y60 : A.eval (.tmp 60) = _ := Eq.trans (hf 60) (by conv => lhs; simp [go_sem])
              have y61 : A.eval (.tmp 61) = _ := Eq.trans (hf 61) (by conv => lhs; simp [go_sem])
              have y62 : A.eval (.tmp 62) = _ := Eq.trans (hf 62) (by conv => lhs; simp [go_sem])
              have y63 : A.eval (.tmp 63) = _ := Eq.trans (hf 63) (by conv => lhs; simp [go_sem])
              have y64 : A.eval (.tmp 64) = _ := Eq.trans (hf 64) (by conv => lhs; simp [go_sem])
              have y65 : A.eval (.tmp 65) = _ := Eq.trans (hf 65) (by conv => lhs; simp [go_sem])
              have y66 : A.eval (.tmp 66) = _ := Eq.trans (hf 66) (by conv => lhs; simp [go_sem])
              have y67 : A.eval (.tmp 67) = _ := Eq.trans (hf 67) (by conv => lhs; simp [go_sem])
              have y68 : A.eval (.tmp 68) = _ := Eq.trans (hf 68) (by conv => lhs; simp [go_sem])
              have y69 : A.eval (.tmp 69) = _ := Eq.trans (hf 69) (by conv => lhs; simp [go_sem])
              have y70 : A.eval (.tmp 70) = _ := Eq.trans (hf 70) (by conv => lhs; simp [go_sem])
              have y71 : A.eval (.tmp 71) = _ := Eq.trans (hf 71) (by conv => lhs; simp [go_sem])
              have y72 : A.eval (.tmp 72) = _ := Eq.trans (hf 72) (by conv => lhs; simp [go_sem])
              have y73 : A.eval (.tmp 73) = _ := Eq.trans (hf 73) (by conv => lhs; simp [go_sem])
              have y74 : A.eval (.tmp 74) = _ := Eq.trans (hf 74) (by conv => lhs; simp [go_sem])
              have y75 : A.eval (.tmp 75) = _ := Eq.trans (hf 75) (by conv => lhs; simp [go_sem])
              have y76 : A.eval (.tmp 76) = _ := Eq.trans (hf 76) (by conv => lhs; simp [go_sem])
              have y77 : A.eval (.tmp 77) = _ := Eq.trans (hf 77) (by conv => lhs; simp [go_sem])
              have y78 : A.eval (.tmp 78) = _ := Eq.trans (hf 78) (by conv => lhs; simp [go_sem])
              have y79 : A.eval (.tmp 79) = _ := Eq.trans (hf 79) (by conv => lhs; simp [go_sem])
              have y80 : A.eval (.tmp 80) = _ := Eq.trans (hf 80) (by conv => lhs; simp [go_sem])
              have y81 : A.eval (.tmp 81) = _ := Eq.trans (hf 81) (by conv => lhs; simp [go_sem])
              have y82 : A.eval (.tmp 82) = _ := Eq.trans (hf 82) (by conv => lhs; simp [go_sem])
              have y83 : A.eval (.tmp 83) = _ := hf 83
              have y84 : A.eval (.tmp 84) = _ := hf 84
              have y85 : A.eval (.tmp 85) = _ := hf 85
              have y86 : A.eval (.tmp 86) = _ := hf 86
              have y87 : A.eval (.tmp 87) = _ := hf 87
              have y88 : A.eval (.tmp 88) = _ := hf 88
              have y89 : A.eval (.tmp 89) = _ := hf 89
              have y90 : A.eval (.tmp 90) = _ := hf 90
              have y91 : A.eval (.tmp 91) = _ := hf 91
              have y92 : A.eval (.tmp 92) = _ := Eq.trans (hf 92) (by conv => lhs; simp [go_sem])
              have y93 : A.eval (.tmp 93) = _ := Eq.trans (hf 93) (by conv => lhs; simp [go_sem])
              have y94 : A.eval (.tmp 94) = _ := Eq.trans (hf 94) (by conv => lhs; simp [go_sem])
              have y95 : A.eval (.tmp 95) = _ := Eq.trans (hf 95) (by conv => lhs; simp [go_sem])
              have y96 : A.eval (.tmp 96) = _ := Eq.trans (hf 96) (by conv => lhs; simp [go_sem])
              have y97 : A.eval (.tmp 97) = _ := Eq.trans (hf 97) (by conv => lhs; simp [go_sem])
              have y98 : A.eval (.tmp 98) = _ := Eq.trans (hf 98) (by conv => lhs; simp [go_sem])
              have y99 : A.eval (.tmp 99) = _ := Eq.trans (hf 99) (by conv => lhs; simp [go_sem])
              have y100 : A.eval (.tmp 100) = _ := Eq.trans (hf 100) (by conv => lhs; simp [go_sem])
              have y101 : A.eval (.tmp 101) = _ := Eq.trans (hf 101) (by conv => lhs; simp [go_sem])
              have y102 : A.eval (.tmp 102) = _ := Eq.trans (hf 102) (by conv => lhs; simp [go_sem])
              have y103 : A.eval (.tmp 103) = _ := Eq.trans (hf 103) (by conv => lhs; simp [go_sem])
              have y104 : A.eval (.tmp 104) = _ := Eq.trans (hf 104) (by conv => lhs; simp [go_sem])
              have y105 : A.eval (.tmp 105) = _ := Eq.trans (hf 105) (by conv => lhs; simp [go_sem])
              have y106 : A.eval (.tmp 106) = _ := Eq.trans (hf 106) (by conv => lhs; simp [go_sem])
              have y107 : A.eval (.tmp 107) = _ := Eq.trans (hf 107) (by conv => lhs; simp [go_sem])
              have y108 : A.eval (.tmp 108) = _ := Eq.trans (hf 108) (by conv => lhs; simp [go_sem])
              have y109 : A.eval (.tmp 109) = _ := Eq.trans (hf 109) (by conv => lhs; simp [go_sem])
              have y110 : A.eval (.tmp 110) = _ := Eq.trans (hf 110) (by conv => lhs; simp [go_sem])
              have y111 : A.eval (.tmp 111) = _ := Eq.trans (hf 111) (by conv => lhs; simp [go_sem])
              have y112 : A.eval (.tmp 112) = _ := Eq.trans (hf 112) (by conv => lhs; simp [go_sem])
              have y113 : A.eval (.tmp 113) = _ := Eq.trans (hf 113) (by conv => lhs; simp [go_sem])
              have y114 : A.eval (.tmp 114) = _ := Eq.trans (hf 114) (by conv => lhs; simp [go_sem])
              have y115 : A.eval (.tmp 115) = _ := Eq.trans (hf 115) (by conv => lhs; simp [go_sem])
              have y116 : A.eval (.tmp 116) = _ := Eq.trans (hf 116) (by conv => lhs; simp [go_sem])
              have y117 : A.eval (.tmp 117) = _ := Eq.trans (hf 117) (by conv => lhs; simp [go_sem])
              have y118 : A.eval (.tmp 118) = _ := Eq.trans (hf 118) (by conv => lhs; simp [go_sem])
              have y119 : A.eval (.tmp 119) = _ := Eq.trans (hf 119) (by conv => lhs; simp [go_sem])
              have y120 : A.eval (.tmp 120) = _ := Eq.trans (hf 120) (by conv => lhs; simp [go_sem])
              have y121 : A.eval (.tmp 121) = _ := Eq.trans (hf 121) (by conv => lhs; simp [go_sem])
              have y122 : A.eval (.tmp 122) = _ := Eq.trans (hf 122) (by conv => lhs; simp [go_sem])
              have y123 : A.eval (.tmp 123) = _ := Eq.trans (hf 123) (by conv => lhs; simp [go_sem])
              have y124 : A.eval (.tmp 124) = _ := Eq.trans (hf 124) (by conv => lhs; simp [go_sem])
              have y125 : A.eval (.tmp 125) = _ := Eq.trans (hf 125) (by conv => lhs; simp [go_sem])
              have y126 : A.eval (.tmp 126) = _ := Eq.trans (hf 126) (by conv => lhs; simp [go_sem])
              have y127 : A.eval (.tmp 127) = _ := Eq.trans (hf 127) (by conv => lhs; simp [go_sem])
              have y128 : A.eval (.tmp 128) = _ := Eq.trans (hf 128) (by conv => lhs; simp [go_sem])
              have y129 : A.eval (.tmp 129) = _ := Eq.trans (hf 129) (by conv => lhs; simp [go_sem])
              have y130 : A.eval (.tmp 130) = _ := Eq.trans (hf 130) (by conv => lhs; simp [go_sem])
              have y131 : A.eval (.tmp 131) = _ := Eq.trans (hf 131) (by conv => lhs; simp [go_sem])
              have y132 : A.eval (.tmp 132) = _ := Eq.trans (hf 132) (by conv => lhs; simp [go_sem])
              have y133 : A.eval (.tmp 133) = _ := Eq.trans (hf 133) (by conv => lhs; simp [go_sem])
              have y134 : A.eval (.tmp 134) = _ := Eq.trans (hf 134) (by conv => lhs; simp [go_sem])
              have y135 : A.eval (.tmp 135) = _ := Eq.trans (hf 135) (by conv => lhs; simp [go_sem])
              have y136 : A.eval (.tmp 136) = _ := Eq.trans (hf 136) (by conv => lhs; simp [go_sem])
              have y137 : A.eval (.tmp 137) = _ := Eq.trans (hf 137) (by conv => lhs; simp [go_sem])
              have y138 : A.eval (.tmp 138) = _ := Eq.trans (hf 138) (by conv => lhs; simp [go_sem])
              have y139 : A.eval (.tmp 139) = _ := Eq.trans (hf 139) (by conv => lhs; simp [go_sem])
              have y140 : A.eval (.tmp 140) = _ := Eq.trans (hf 140) (by conv => lhs; simp [go_sem])
              clear hf
              have hA := frame_eq hn
              rw [show List.range 141 = [0, 1, 2, 3, 4, 5, 6, 7, 8, 9, 10, 11, 12, 13, 14, 15, 16, 17, 18, 19, 20, 21, 22, 23, 24, 25, 26, 27, 28, 29, 30, 31, 32, 33, 34, 35, 36, 37, 38, 39, 40, 41, 42, 43, 44, 45, 46, 47, 48, 49, 50, 51, 52, 53, 54, 55, 56, 57, 58, 59, 60, 61, 62, 63, 64, 65, 66, 67, 68, 69, 70, 71, 72, 73, 74, 75, 76, 77, 78, 79, 80, 81, 82, 83, 84, 85, 86, 87, 88, 89, 90, 91, 92, 93, 94, 95, 96, 97, 98, 99, 100, 101, 102, 103, 104, 105, 106, 107, 108, 109, 110, 111, 112, 113, 114, 115, 116, 117, 118, 119, 120, 121, 122, 123, 124, 125, 126, 127, 128, 129, 130, 131, 132, 133, 134, 135, 136, 137, 138, 139, 140] from rfl, hd] at hA
              simp only [List.map_cons, List.map_nil, y0, y1, y2, y3, y4, y5, y6, y7, y8, y9, y10, y11, y12, y13, y14, y15, y16, y17, y18, y19, y20, y21, y22, y23, y24, y25, y26, y27, y28, y29, y30, y31, y32, y33, y34, y35, y36, y37, y38, y39, y40, y41, y42, y43, y44, y45, y46, y47, y48, y49, y50, y51, y52, y53, y54, y55, y56, y57, y58, y59, y60, y61, y62, y63, y64, y65, y66, y67, y68, y69, y70, y71, y72, y73, y74, y75, y76, y77, y78, y79, y80, y81, y82, y83, y84, y85, y86, y87, y88, y89, y90, y91, y92, y93, y94, y95, y96, y97, y98, y99, y100, y101, y102, y103, y104, y105, y106, y107, y108, y109, y110, y111, y112, y113, y114, y115, y116, y117, y118, y119, y120, y121, y122, y123, y124, y125, y126, y127, y128, y129, y130, y131, y132, y133, y134, y135, y136, y137, y138, y139, y140] at hA
              clear y0 y1 y2 y3 y4 y5 y6 y7 y8 y9 y10 y11 y12 y13 y14 y15 y16 y17 y18 y19 y20 y21 y22 y23 y24 y25 y26 y27 y28 y29 y30 y31 y32 y33 y34 y35 y36 y37 y38 y39 y40 y41 y42 y43 y44 y45 y46 y47 y48 y49 y50 y51 y52 y53 y54 y55 y56 y57 y58 y59 y60 y61 y62 y63 y64 y65 y66 y67 y68 y69 y70 y71 y72 y73 y74 y75 y76 y77 y78 y79 y80 y81 y82 y83 y84 y85 y86 y87 y88 y89 y90 y91 y92 y93 y94 y95 y96 y97 y98 y99 y100 y101 y102 y103 y104 y105 y106 y107 y108 y109 y110 y111 y112 y113 y114 y115 y116 y117 y118 y119 y120 y121 y122 y123 y124 y125 y126 y127 y128 y129 y130 y131 y132 y133 y134 y135 y136 y137 y138 y139 y140
              clear hn hd
              subst hA
              have HV5 := Lib.hid (HV4.out.below hC)
              have HB5 := Lib.hid (HB4.out.trans (hC.mono HB4.out.size))
              have HO5 := Lib.hid (HO4.out.below hC)
              have HX5b := Lib.hid (HX4b.out.keep hC hsz1)
              have HSV5 : Hid (SB ≤ V5.heap.size) := Nat.le_trans HSV4.out hC.size
              clear hC kc cH x0 x1 hid0 hsz1 hsz2 HV4 HB4 HO4 HX4b HSV4
              have HX5 := Lib.hid (H.out.keep HB5.out HBL.out.1 HBL.out.2)
              obtain ⟨c0, c1, c2, c3, c4⟩ := HX5.out.cells
              go_upto_region 14 with (fail)
              go_cut [12, 13, 14] from 15 to 100 (fun _ _ r wx => r = .bool (seesB s ys) ∧ V5 = wx)
              case first =>
                cases hh : hear ys s.id with
                | none =>
                  have HO1 : Hid (seesB s ys = false) := by show _ = _; unfold seesB; rw [hh]; exact decide_eq_false (fun h => by cases h)
                  clear hh
                  go_wp2_with fail
                  go_meet
                  case rel => exact ⟨by rw [HO1.out], rfl⟩
                | some n =>
                  by_cases e2 : n = s.ep
                  · have HO1 : Hid (seesB s ys = true) := by show _ = _; unfold seesB; rw [hh, e2]; exact decide_eq_true rfl
                    have e3 : (n == s.ep) = true := by simpa using e2
                    clear hh e2
                    go_wp2_with fail
                    go_meet
                    case rel => exact ⟨by rw [HO1.out], rfl⟩
                  · have HO1 : Hid (seesB s ys = false) := by show _ = _; unfold seesB; rw [hh]; exact decide_eq_false (fun h => e2 (by cases h; rfl))
                    have e3 : (n == s.ep) = false := by simpa using e2
                    clear hh e2
                    go_wp2_with fail
                    go_meet
                    case rel => exact ⟨by rw [HO1.out], rfl⟩
              obtain ⟨rfl, rfl⟩ := hcut
              clear c0 c1 c2 c3 c4
              obtain ⟨⟨v0, v1, v2, v3⟩, vf⟩ := HV5.out
              simp only [Nat.zero_add] at v1 v2 v3
              obtain ⟨sees, hse⟩ : ∃ sees, seesB s ys = sees := ⟨_, rfl⟩
              rw [hse]
              have HSE := Lib.hid hse
              clear hse
              cases sees with
              | true =>
                cases th with
                | true =>
                  have HEE := Lib.hid (hear_good (s := s) (now := now) (fN := fN) (M := M) (ys := ys) (rO := xs) HOKH.out HOLD.out HSE.out HD1.out (by simp [out2]))
                  obtain ⟨⟨v0, v1, v2, v3⟩, vf⟩ := HV5.out
                  simp only [Nat.zero_add] at v1 v2 v3
                  have vf3 := vf 3
                  go_upto_region 20 with (fail)
                  obtain ⟨Wp, hWp⟩ : ∃ Wp, V5.setCell ⟨bh, 3, none⟩ (.bool true) = Wp := ⟨_, rfl⟩
                  have HVp : Hid (OwnH Wp bh (true, M, now, true)) := hWp ▸ own_h3 HV5.out true
                  have HBp : Hid (Below w.heap.size w Wp) := hWp ▸ HB5.out.setCell (p := ⟨bh, 3, none⟩) HNB2.out _
                  have HOp : Hid (OwV3 Wp SB (.slice ax xs.length cx) xs) := hWp ▸ gown_apart HO5.out HBS2.out _
                  have HXp := Lib.hid (H.out.keep HBp.out HBL.out.1 HBL.out.2)
                  try rw [hWp]
                  clear v0 v1 v2 v3 vf vf3 hWp
                  obtain ⟨⟨v0, v1, v2, v3⟩, vf⟩ := HVp.out
                  simp only [Nat.zero_add] at v1 v2 v3
                  obtain ⟨c0, c1, c2, c3, c4⟩ := HXp.out.cells
                  obtain ⟨r0, r1, r2, r3⟩ := HXp.out.row fN HFN.out
                  have fz0 := HXp.out.gz (fN * 4)
                  have fz1 := HXp.out.gz (fN * 4 + 1)
                  have fz2 := HXp.out.gz (fN * 4 + 2)
                  have fz3 := HXp.out.gz (fN * 4 + 3)
                  have hx9 := HXp.out.put HFN.out (true, M, now, true)
                  have hc9 := (chg0 (F := fun k => k = b ∨ k = g) HBp.out).trans (chain4_chg Wp g (fN * 4) (true, M, now, true)) (fun x _ e => .inr e)
                  have ho9 : OwV3 (chain4 Wp g (fN * 4) (true, M, now, true)) SB (.slice ax xs.length cx) xs := gown_apart (gown_apart (gown_apart (gown_apart HOp.out HGS2.out _) HGS2.out _) HGS2.out _) HGS2.out _
                  have HXq := Lib.hid (hx9.chg (F := fun _ => False) (Chg.refl _ _).drew (fun h => h) (fun h => h))
                  have HCq := Lib.hid hc9.drew
                  have HOq := Lib.hid (OwV3.below ho9 (Below.refl _ _).drew)
                  unfold chain4 at HXq HCq HOq
                  dsimp only at HXq HCq HOq
                  clear hx9 hc9 ho9
                  have hlz : (fN : Int) < 64 := by have := HFN.out; omega
                  go_big_region_o
                  generalize ((((Wp.setCell ⟨g, fN * 4, none⟩ (.bool true)).setCell ⟨g, fN * 4 + 1, none⟩ (.int .i64 M)).setCell ⟨g, fN * 4 + 2, none⟩ (.int .i64 now)).setCell ⟨g, fN * 4 + 3, none⟩ (.bool true)).drew = Wq at HXq HCq HOq ⊢
                  clear v0 v1 v2 v3 vf c0 c1 c2 c3 c4 r0 r1 r2 r3 fz0 fz1 fz2 fz3
                  obtain ⟨c0, c1, c2, c3, c4⟩ := HXq.out.cells
                  have f3 := HXq.out.fz 3
                  have hx9 := HXq.out.tick now
                  have hc9 := HCq.out.trans ((Chg.refl (fun k => k = b) Wq).setCell (p := ⟨b, 3, none⟩) (.inl rfl) (.int .i64 now)) (fun x _ e => .inl e)
                  have ho9 : OwV3 (Wq.setCell ⟨b, 3, none⟩ (.int .i64 now)) SB (.slice ax xs.length cx) xs := gown_apart HOq.out HBS3.out _
                  have HX9 := Lib.hid hx9
                  have HC9 := Lib.hid hc9
                  have HO9 := Lib.hid (OwV3.mono ho9 HSB.out)
                  clear hx9 hc9 ho9
                  go_wp2_with fail
                  have hq := HRR.out.symm.trans HEE.out
                  simp only [Prod.mk.injEq] at hq
                  obtain ⟨hq1, hq2, hq3⟩ := hq
                  refine bodyPost_ret (v := .tuple #[.slice ax xs.length cx, .int .i64 0]) (by simp [results, Try.results16, go_sem]) rfl ?_
                  rw [hq1, hq2, hq3]
                  exact ⟨⟨_, _, rfl, HO9.out⟩, HX9.out, HC9.out⟩
                | false =>
                  have HEE := Lib.hid (hear_good (s := s) (now := now) (fN := fN) (M := M) (ys := ys) (rO := (xs ++ [((1 : Int), (fN : Int), M)])) HOKH.out HOLD.out HSE.out HD1.out (by simp [out2]))
                  have HLE1 : Hid (xs.length ≤ 3000) := HXL
                  have HSW1 : Hid (SB ≤ V5.heap.size) := HSV5
                  obtain ⟨⟨v0, v1, v2, v3⟩, vf⟩ := HV5.out
                  obtain ⟨x0, x1⟩ := HX5b.out
                  simp only [Nat.zero_add] at v1 v2 v3
                  go_upto_region 19 with (at_builtin; refine eapp3_any rfl (.tmp 107) (.tmp 112) rfl V5 (1, (fN : Int), M) rfl SB (.slice ax xs.length cx) xs rfl rfl HO5.out HLE1.out HSW1.out ?_; intro g1 cap1 wa ho9 hb9; have HO1 := Lib.hid ho9; have HA1 := Lib.hid hb9; clear ho9 hb9)
                  have HV6 := Lib.hid (show OwnH wa bh _ from own_hk HV5.out HA1.out HBS2.out)
                  have HB6 : Hid (Below w.heap.size w wa) := HB5.out.trans (HA1.out.mono HSB.out)
                  have HO6 : Hid (OwV3 wa SB (.slice (some ⟨g1, 0, none⟩) (xs ++ [((1 : Int), (fN : Int), M)]).length cap1) (xs ++ [((1 : Int), (fN : Int), M)])) := by have h9 := HO1.out; show OwV3 _ _ _ _; rw [List.length_append]; exact h9
                  clear v0 v1 v2 v3 vf x0 x1
                  try rw [show xs.length + 1 = (xs ++ [((1 : Int), (fN : Int), M)]).length by rw [List.length_append]; rfl]
                  obtain ⟨⟨v0, v1, v2, v3⟩, vf⟩ := HV6.out
                  simp only [Nat.zero_add] at v1 v2 v3
                  have vf3 := vf 3
                  go_upto_region 20 with (fail)
                  obtain ⟨Wp, hWp⟩ : ∃ Wp, wa.setCell ⟨bh, 3, none⟩ (.bool true) = Wp := ⟨_, rfl⟩
                  have HVp : Hid (OwnH Wp bh (true, M, now, true)) := hWp ▸ own_h3 HV6.out true
                  have HBp : Hid (Below w.heap.size w Wp) := hWp ▸ HB6.out.setCell (p := ⟨bh, 3, none⟩) HNB2.out _
                  have HOp : Hid (OwV3 Wp SB (.slice (some ⟨g1, 0, none⟩) (xs ++ [((1 : Int), (fN : Int), M)]).length cap1) (xs ++ [((1 : Int), (fN : Int), M)])) := hWp ▸ gown_apart HO6.out HBS2.out _
                  have HXp := Lib.hid (H.out.keep HBp.out HBL.out.1 HBL.out.2)
                  try rw [hWp]
                  clear v0 v1 v2 v3 vf vf3 hWp
                  obtain ⟨⟨v0, v1, v2, v3⟩, vf⟩ := HVp.out
                  simp only [Nat.zero_add] at v1 v2 v3
                  obtain ⟨c0, c1, c2, c3, c4⟩ := HXp.out.cells
                  obtain ⟨r0, r1, r2, r3⟩ := HXp.out.row fN HFN.out
                  have fz0 := HXp.out.gz (fN * 4)
                  have fz1 := HXp.out.gz (fN * 4 + 1)
                  have fz2 := HXp.out.gz (fN * 4 + 2)
                  have fz3 := HXp.out.gz (fN * 4 + 3)
                  have hx9 := HXp.out.put HFN.out (true, M, now, true)
                  have hc9 := (chg0 (F := fun k => k = b ∨ k = g) HBp.out).trans (chain4_chg Wp g (fN * 4) (true, M, now, true)) (fun x _ e => .inr e)
                  have ho9 : OwV3 (chain4 Wp g (fN * 4) (true, M, now, true)) SB (.slice (some ⟨g1, 0, none⟩) (xs ++ [((1 : Int), (fN : Int), M)]).length cap1) (xs ++ [((1 : Int), (fN : Int), M)]) := gown_apart (gown_apart (gown_apart (gown_apart HOp.out HGS2.out _) HGS2.out _) HGS2.out _) HGS2.out _
                  have HXq := Lib.hid (hx9.chg (F := fun _ => False) (Chg.refl _ _).drew (fun h => h) (fun h => h))
                  have HCq := Lib.hid hc9.drew
                  have HOq := Lib.hid (OwV3.below ho9 (Below.refl _ _).drew)
                  unfold chain4 at HXq HCq HOq
                  dsimp only at HXq HCq HOq
                  clear hx9 hc9 ho9
                  have hlz : (fN : Int) < 64 := by have := HFN.out; omega
                  go_big_region_o
                  generalize ((((Wp.setCell ⟨g, fN * 4, none⟩ (.bool true)).setCell ⟨g, fN * 4 + 1, none⟩ (.int .i64 M)).setCell ⟨g, fN * 4 + 2, none⟩ (.int .i64 now)).setCell ⟨g, fN * 4 + 3, none⟩ (.bool true)).drew = Wq at HXq HCq HOq ⊢
                  clear v0 v1 v2 v3 vf c0 c1 c2 c3 c4 r0 r1 r2 r3 fz0 fz1 fz2 fz3
                  obtain ⟨c0, c1, c2, c3, c4⟩ := HXq.out.cells
                  have f3 := HXq.out.fz 3
                  have hx9 := HXq.out.tick now
                  have hc9 := HCq.out.trans ((Chg.refl (fun k => k = b) Wq).setCell (p := ⟨b, 3, none⟩) (.inl rfl) (.int .i64 now)) (fun x _ e => .inl e)
                  have ho9 : OwV3 (Wq.setCell ⟨b, 3, none⟩ (.int .i64 now)) SB (.slice (some ⟨g1, 0, none⟩) (xs ++ [((1 : Int), (fN : Int), M)]).length cap1) (xs ++ [((1 : Int), (fN : Int), M)]) := gown_apart HOq.out HBS3.out _
                  have HX9 := Lib.hid hx9
                  have HC9 := Lib.hid hc9
                  have HO9 := Lib.hid (OwV3.mono ho9 HSB.out)
                  clear hx9 hc9 ho9
                  go_wp2_with fail
                  have hq := HRR.out.symm.trans HEE.out
                  simp only [Prod.mk.injEq] at hq
                  obtain ⟨hq1, hq2, hq3⟩ := hq
                  refine bodyPost_ret (v := .tuple #[.slice (some ⟨g1, 0, none⟩) (xs ++ [((1 : Int), (fN : Int), M)]).length cap1, .int .i64 0]) (by simp [results, Try.results16, go_sem]) rfl ?_
                  rw [hq1, hq2, hq3]
                  exact ⟨⟨_, _, rfl, HO9.out⟩, HX9.out, HC9.out⟩
              | false =>
                cases th with
                | true =>
                  have HEE := Lib.hid (hear_good (s := s) (now := now) (fN := fN) (M := M) (ys := ys) (rO := (xs ++ [((2 : Int), (fN : Int), M)])) HOKH.out HOLD.out HSE.out HD1.out (by simp [out2]))
                  have HLE1 : Hid (xs.length ≤ 3000) := HXL
                  have HSW1 : Hid (SB ≤ V5.heap.size) := HSV5
                  obtain ⟨⟨v0, v1, v2, v3⟩, vf⟩ := HV5.out
                  obtain ⟨x0, x1⟩ := HX5b.out
                  simp only [Nat.zero_add] at v1 v2 v3
                  go_upto_region 19 with (at_builtin; refine eapp3_any rfl (.tmp 120) (.tmp 125) rfl V5 (2, (fN : Int), M) rfl SB (.slice ax xs.length cx) xs rfl rfl HO5.out HLE1.out HSW1.out ?_; intro g1 cap1 wa ho9 hb9; have HO1 := Lib.hid ho9; have HA1 := Lib.hid hb9; clear ho9 hb9)
                  have HV6 := Lib.hid (show OwnH wa bh _ from own_hk HV5.out HA1.out HBS2.out)
                  have HB6 : Hid (Below w.heap.size w wa) := HB5.out.trans (HA1.out.mono HSB.out)
                  have HO6 : Hid (OwV3 wa SB (.slice (some ⟨g1, 0, none⟩) (xs ++ [((2 : Int), (fN : Int), M)]).length cap1) (xs ++ [((2 : Int), (fN : Int), M)])) := by have h9 := HO1.out; show OwV3 _ _ _ _; rw [List.length_append]; exact h9
                  clear v0 v1 v2 v3 vf x0 x1
                  try rw [show xs.length + 1 = (xs ++ [((2 : Int), (fN : Int), M)]).length by rw [List.length_append]; rfl]
                  obtain ⟨⟨v0, v1, v2, v3⟩, vf⟩ := HV6.out
                  simp only [Nat.zero_add] at v1 v2 v3
                  have vf3 := vf 3
                  go_upto_region 20 with (fail)
                  obtain ⟨Wp, hWp⟩ : ∃ Wp, wa.setCell ⟨bh, 3, none⟩ (.bool false) = Wp := ⟨_, rfl⟩
                  have HVp : Hid (OwnH Wp bh (true, M, now, false)) := hWp ▸ own_h3 HV6.out false
                  have HBp : Hid (Below w.heap.size w Wp) := hWp ▸ HB6.out.setCell (p := ⟨bh, 3, none⟩) HNB2.out _
                  have HOp : Hid (OwV3 Wp SB (.slice (some ⟨g1, 0, none⟩) (xs ++ [((2 : Int), (fN : Int), M)]).length cap1) (xs ++ [((2 : Int), (fN : Int), M)])) := hWp ▸ gown_apart HO6.out HBS2.out _
                  have HXp := Lib.hid (H.out.keep HBp.out HBL.out.1 HBL.out.2)
                  try rw [hWp]
                  clear v0 v1 v2 v3 vf vf3 hWp
                  obtain ⟨⟨v0, v1, v2, v3⟩, vf⟩ := HVp.out
                  simp only [Nat.zero_add] at v1 v2 v3
                  obtain ⟨c0, c1, c2, c3, c4⟩ := HXp.out.cells
                  obtain ⟨r0, r1, r2, r3⟩ := HXp.out.row fN HFN.out
                  have fz0 := HXp.out.gz (fN * 4)
                  have fz1 := HXp.out.gz (fN * 4 + 1)
                  have fz2 := HXp.out.gz (fN * 4 + 2)
                  have fz3 := HXp.out.gz (fN * 4 + 3)
                  have hx9 := HXp.out.put HFN.out (true, M, now, false)
                  have hc9 := (chg0 (F := fun k => k = b ∨ k = g) HBp.out).trans (chain4_chg Wp g (fN * 4) (true, M, now, false)) (fun x _ e => .inr e)
                  have ho9 : OwV3 (chain4 Wp g (fN * 4) (true, M, now, false)) SB (.slice (some ⟨g1, 0, none⟩) (xs ++ [((2 : Int), (fN : Int), M)]).length cap1) (xs ++ [((2 : Int), (fN : Int), M)]) := gown_apart (gown_apart (gown_apart (gown_apart HOp.out HGS2.out _) HGS2.out _) HGS2.out _) HGS2.out _
                  have HXq := Lib.hid (hx9.chg (F := fun _ => False) (Chg.refl _ _).drew (fun h => h) (fun h => h))
                  have HCq := Lib.hid hc9.drew
                  have HOq := Lib.hid (OwV3.below ho9 (Below.refl _ _).drew)
                  unfold chain4 at HXq HCq HOq
                  dsimp only at HXq HCq HOq
                  clear hx9 hc9 ho9
                  have hlz : (fN : Int) < 64 := by have := HFN.out; omega
                  go_big_region_o
                  generalize ((((Wp.setCell ⟨g, fN * 4, none⟩ (.bool true)).setCell ⟨g, fN * 4 + 1, none⟩ (.int .i64 M)).setCell ⟨g, fN * 4 + 2, none⟩ (.int .i64 now)).setCell ⟨g, fN * 4 + 3, none⟩ (.bool false)).drew = Wq at HXq HCq HOq ⊢
                  clear v0 v1 v2 v3 vf c0 c1 c2 c3 c4 r0 r1 r2 r3 fz0 fz1 fz2 fz3
                  obtain ⟨c0, c1, c2, c3, c4⟩ := HXq.out.cells
                  have f3 := HXq.out.fz 3
                  have hx9 := HXq.out.tick now
                  have hc9 := HCq.out.trans ((Chg.refl (fun k => k = b) Wq).setCell (p := ⟨b, 3, none⟩) (.inl rfl) (.int .i64 now)) (fun x _ e => .inl e)
                  have ho9 : OwV3 (Wq.setCell ⟨b, 3, none⟩ (.int .i64 now)) SB (.slice (some ⟨g1, 0, none⟩) (xs ++ [((2 : Int), (fN : Int), M)]).length cap1) (xs ++ [((2 : Int), (fN : Int), M)]) := gown_apart HOq.out HBS3.out _
                  have HX9 := Lib.hid hx9
                  have HC9 := Lib.hid hc9
                  have HO9 := Lib.hid (OwV3.mono ho9 HSB.out)
                  clear hx9 hc9 ho9
                  go_wp2_with fail
                  have hq := HRR.out.symm.trans HEE.out
                  simp only [Prod.mk.injEq] at hq
                  obtain ⟨hq1, hq2, hq3⟩ := hq
                  refine bodyPost_ret (v := .tuple #[.slice (some ⟨g1, 0, none⟩) (xs ++ [((2 : Int), (fN : Int), M)]).length cap1, .int .i64 0]) (by simp [results, Try.results16, go_sem]) rfl ?_
                  rw [hq1, hq2, hq3]
                  exact ⟨⟨_, _, rfl, HO9.out⟩, HX9.out, HC9.out⟩
                | false =>
                  have HEE := Lib.hid (hear_good (s := s) (now := now) (fN := fN) (M := M) (ys := ys) (rO := xs) HOKH.out HOLD.out HSE.out HD1.out (by simp [out2]))
                  obtain ⟨⟨v0, v1, v2, v3⟩, vf⟩ := HV5.out
                  simp only [Nat.zero_add] at v1 v2 v3
                  have vf3 := vf 3
                  go_upto_region 20 with (fail)
                  obtain ⟨Wp, hWp⟩ : ∃ Wp, V5.setCell ⟨bh, 3, none⟩ (.bool false) = Wp := ⟨_, rfl⟩
                  have HVp : Hid (OwnH Wp bh (true, M, now, false)) := hWp ▸ own_h3 HV5.out false
                  have HBp : Hid (Below w.heap.size w Wp) := hWp ▸ HB5.out.setCell (p := ⟨bh, 3, none⟩) HNB2.out _
                  have HOp : Hid (OwV3 Wp SB (.slice ax xs.length cx) xs) := hWp ▸ gown_apart HO5.out HBS2.out _
                  have HXp := Lib.hid (H.out.keep HBp.out HBL.out.1 HBL.out.2)
                  try rw [hWp]
                  clear v0 v1 v2 v3 vf vf3 hWp
                  obtain ⟨⟨v0, v1, v2, v3⟩, vf⟩ := HVp.out
                  simp only [Nat.zero_add] at v1 v2 v3
                  obtain ⟨c0, c1, c2, c3, c4⟩ := HXp.out.cells
                  obtain ⟨r0, r1, r2, r3⟩ := HXp.out.row fN HFN.out
                  have fz0 := HXp.out.gz (fN * 4)
                  have fz1 := HXp.out.gz (fN * 4 + 1)
                  have fz2 := HXp.out.gz (fN * 4 + 2)
                  have fz3 := HXp.out.gz (fN * 4 + 3)
                  have hx9 := HXp.out.put HFN.out (true, M, now, false)
                  have hc9 := (chg0 (F := fun k => k = b ∨ k = g) HBp.out).trans (chain4_chg Wp g (fN * 4) (true, M, now, false)) (fun x _ e => .inr e)
                  have ho9 : OwV3 (chain4 Wp g (fN * 4) (true, M, now, false)) SB (.slice ax xs.length cx) xs := gown_apart (gown_apart (gown_apart (gown_apart HOp.out HGS2.out _) HGS2.out _) HGS2.out _) HGS2.out _
                  have HXq := Lib.hid (hx9.chg (F := fun _ => False) (Chg.refl _ _).drew (fun h => h) (fun h => h))
                  have HCq := Lib.hid hc9.drew
                  have HOq := Lib.hid (OwV3.below ho9 (Below.refl _ _).drew)
                  unfold chain4 at HXq HCq HOq
                  dsimp only at HXq HCq HOq
                  clear hx9 hc9 ho9
                  have hlz : (fN : Int) < 64 := by have := HFN.out; omega
                  go_big_region_o
                  generalize ((((Wp.setCell ⟨g, fN * 4, none⟩ (.bool true)).setCell ⟨g, fN * 4 + 1, none⟩ (.int .i64 M)).setCell ⟨g, fN * 4 + 2, none⟩ (.int .i64 now)).setCell ⟨g, fN * 4 + 3, none⟩ (.bool false)).drew = Wq at HXq HCq HOq ⊢
                  clear v0 v1 v2 v3 vf c0 c1 c2 c3 c4 r0 r1 r2 r3 fz0 fz1 fz2 fz3
                  obtain ⟨c0, c1, c2, c3, c4⟩ := HXq.out.cells
                  have f3 := HXq.out.fz 3
                  have hx9 := HXq.out.tick now
                  have hc9 := HCq.out.trans ((Chg.refl (fun k => k = b) Wq).setCell (p := ⟨b, 3, none⟩) (.inl rfl) (.int .i64 now)) (fun x _ e => .inl e)
                  have ho9 : OwV3 (Wq.setCell ⟨b, 3, none⟩ (.int .i64 now)) SB (.slice ax xs.length cx) xs := gown_apart HOq.out HBS3.out _
                  have HX9 := Lib.hid hx9
                  have HC9 := Lib.hid hc9
                  have HO9 := Lib.hid (OwV3.mono ho9 HSB.out)
                  clear hx9 hc9 ho9
                  go_wp2_with fail
                  have hq := HRR.out.symm.trans HEE.out
                  simp only [Prod.mk.injEq] at hq
                  obtain ⟨hq1, hq2, hq3⟩ := hq
                  refine bodyPost_ret (v := .tuple #[.slice ax xs.length cx, .int .i64 0]) (by simp [results, Try.results16, go_sem]) rfl ?_
                  rw [hq1, hq2, hq3]
                  exact ⟨⟨_, _, rfl, HO9.out⟩, HX9.out, HC9.out⟩
end Go.Proofs.Ytcddicaebecneaa
