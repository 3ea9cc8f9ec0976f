/- The walk of a law (text of its own: memory). No conditions. -/
import Derived.Test.YtdigjklhfimnbaaGreatVce
import Derived.ArgAppend
import Derived.Below
import Derived.BigQuiet
import Derived.BigRegion
import Derived.Calls
import Derived.ChangeAlike
import Derived.ChangeArms
import Derived.ChangeKeysEq
import Derived.ChangeMade
import Derived.ChangeOld
import Derived.Deep.Cut
import Derived.Deep.CutBlock
import Derived.Deep.LoopGhost
import Derived.Deep.QuietTactic
import Derived.Deep.RegionHeld
import Derived.Deep.RegionLaw
import Derived.Deep.RegionWith
import Derived.Deep.Slices
import Derived.Deep.WholeRow
import Derived.Defers
import Derived.Ground.GgzProg
import Derived.Ground.Names2Prog
import Derived.Laws.AppendOwnNone
import Derived.Laws.BitsLemmas
import Derived.Laws.BytesArg
import Derived.Laws.LoneSync
import Derived.Laws.OwnMore
import Derived.Laws.Pointers
import Derived.Laws.Rows
import Derived.Laws.StructEq
import Derived.Laws.Tables
import Derived.Lib.AppendStr
import Derived.Lib.ConvBytes
import Derived.Lib.Hide
import Derived.Lib.OwnBridge
import Derived.Lib.QuietBelow
import Derived.Lib.SliceRun
import Derived.Lib.SlicesCompact
import Derived.LoopIn
import Derived.LoopTactic
import Derived.Maps.AppendAt
import Derived.Maps.Own
import Derived.Maps.OwnOps
import Derived.Maps.OwnSet
import Derived.Maps.RangeWalk
import Derived.Maps.Views
import Derived.OpenShut
import Derived.Orders
import Derived.OrdersIn
import Derived.Outline
import Derived.OwnWalkIn
import Derived.ProofKit
import Derived.RangeFuncBox
import Derived.RangeFuncCalls
import Derived.RangeFuncLeaves
import Derived.RangeFuncNested
import Derived.RegionCalls
import Derived.RegionTactic
import Derived.Shelf.RegionOpen
import Derived.Shelf.RegionOpenPlain
import Derived.Shelf.SlIterI.Nil
import Derived.Shelf.Slices.CompactI
import Derived.Shelf.Slices.In.SortNone
import Derived.Shelf.Sort.Plain
import Derived.ShutString
import Derived.Sort.Grow
import Derived.StillTail
import Derived.TacticsInMore
import Derived.WalkKit
import Derived.WalkLawsBesides
import Derived.WalkSpells
import Derived.WideShapes
namespace Go.Proofs.YtdigjklhfimnbaaGreat.castPeers
open Go.ChangeShapes Go.WideShapes Go.ChangeAt Go.RowKit
open Go.ChangeMaps (open_string shut_string)
set_option linter.unusedVariables false
set_option maxRecDepth 100000

set_option maxHeartbeats 64000000 in
theorem walk (n0 : Nd) (a1 : Option Addr) (cap1 : Nat) (w : World) (z1 : List (RopW w).α) (r1 : Gs (RopW w) w (.slice a1 z1.length cap1) z1) :
    Calls Tryz.prog 6 #[.agg #[.int .i64 n0.1, .int .i64 n0.2], .slice a1 z1.length cap1] w fun e w' => e = .returned (.bool true) ∧ Below w.heap.size w w' := by
  obtain ⟨W1, hW1⟩ : ∃ W1, w.alloc (.cells #[.int .i64 n0.1, .int .i64 n0.2] 23) = W1 := ⟨_, rfl⟩
  have HB1 : Hid (Below w.heap.size w W1) := hW1 ▸ (Below.refl _ w).alloc (Nat.le_refl _) _
  obtain ⟨p, hp⟩ : ∃ p, w.heap.size = p := ⟨_, rfl⟩
  have HQ : Hid (NdAt W1 p n0) := by
    rw [← hW1, ← hp]
    exact ⟨by simp, by simp⟩
  obtain ⟨n, hn⟩ : ∃ n, z1.length = n := ⟨_, rfl⟩
  have HR := Lib.hid r1
  have HN := Lib.hid hn
  have HW := Lib.hid hW1
  have HG := Lib.hid hp
  have C1 := Lib.hid (cnew_any n0 3 5 W1)
  have FEW : Hid (∀ w', Below w.heap.size w w' → Calls Tryz.prog 18 #[.slice a1 n cap1] w' fun e w'' => ∃ q, e = .returned (.bool q) ∧ Below w'.heap.size w' w'' ∧ (q = true → n ≤ 60)) := fun w' hb => hn ▸ few17_any w w' a1 cap1 z1 r1 hb
  rw [hn]
  clear hW1 hp r1 hn
  go_enter Tryz.func6, Tryz.ntmps6
  go_upto_region 1 with (fail)
  rw [HW.out]
  try simp only [HG.out]
  obtain ⟨q0, q1⟩ := HQ.out
  go_wp2_with fail
  refine C1.out.mono ?_
  rintro e w2 ⟨hb, ⟨_, rfl⟩ | ⟨_, b, F, M, rfl, hc, hF⟩⟩
  · as_aux_lemma =>
      have HB2 := Lib.hid (HB1.out.trans (hb.mono HB1.out.size))
      clear hb C1 q0 q1
      go_wp2_with fail
      refine (awake17 w2).mono ?_
      rintro e w3 ⟨rfl, hb⟩
      have HB3 := Lib.hid (HB2.out.trans (hb.mono HB2.out.size))
      clear hb
      go_wp2_with fail
      go_ret
      exact ⟨rfl, HB3.out⟩
  have HB2 := Lib.hid (HB1.out.trans (hb.mono HB1.out.size))
  have HC2 := Lib.hid hc
  have HF : Hid (∀ k, F k → W1.heap.size ≤ k) := hF
  have HND : Hid (NdAt w2 p n0) := HQ.out.below hb
  have HPL : Hid (p < W1.heap.size) := World.block_lt_of_cell? W1 _ q0
  clear hb hc hF C1 q0 q1
  go_wp2_with fail
  refine (FEW.out w2 HB2.out).mono ?_
  rintro e w3 ⟨qf, rfl, hb, hq⟩
  have HB3 := Lib.hid (HB2.out.trans (hb.mono HB2.out.size))
  have HC3 := Lib.hid (HC2.out.below hb)
  have HND3 : Hid (NdAt w3 p n0) := HND.out.below hb
  have HQF := Lib.hid hq
  clear hb hq
  cases qf
  · as_aux_lemma =>
      go_wp2_with fail
      refine (awake17 w3).mono ?_
      rintro e w4 ⟨rfl, hb⟩
      have HB4 := Lib.hid (HB3.out.trans (hb.mono HB3.out.size))
      clear hb
      go_wp2_with fail
      go_ret
      exact ⟨rfl, HB4.out⟩
  have HL60 : Hid (n ≤ 60) := HQF.out rfl
  obtain ⟨i0, hi, hz0, hz1, hz2⟩ := info_parts infoI17
  go_wp2_with (at_make; go_must (refine wpList_make_full _ rfl _ _ 69 rfl w3.heap.size 3 i0 (.int .i64 0) 1 underI17 hi hz0 hz1 _ _ _ _ 64 rfl rfl rfl rfl (by rw [hz2]; omega) (by unfold maxLen; omega) (Nat.le_refl _) ?_); intro w4 hown hgrow)
  obtain ⟨ub, hub⟩ : ∃ u, w3.heap.size = u := ⟨_, rfl⟩
  have HLP : Hid (LPE w F M b ub p n0 noS w4) := by
    have hb4 : Below w3.heap.size w3 w4 := (Below.refl _ w3).grown hgrow (Nat.le_refl _) (fun k e => by cases e)
    have hm : ∀ j, j < 64 → (madeCells (Value.int .i64 0).cells (64 * 1)).toList[j]? = some (.int .i64 0) := fun j hj => by simp [madeCells, Value.cells, hj, Nat.mod_one]
    have h1 := HB1.out.size
    have h2 := HPL.out
    have h3 : p < w3.heap.size := World.block_lt_of_cell? w3 _ HND3.out.1
    have h4 := HB3.out.size
    refine ⟨HC3.out.below hb4, fun k hk => by have := HF.out k hk; omega, fun hk => by have := HC3.out.lt _ hk; omega, by omega, ⟨fun i hi => ?_, fun j => ?_⟩, fun i q hq => (by cases hq), HND3.out.below hb4, fun hk => by have := HF.out p hk; omega, by omega, HB3.out.trans (hb4.mono h4)⟩
    · rw [← hub]
      exact (hown.cellAt i (by omega)).trans (hm i hi)
    · rw [← hub]
      exact hown.frozenAt j
  simp only [hub]
  clear hown hgrow hi hz0 hz1 hz2 hub
  go_wp2_with fail
  go_loopw [8] (fun i wr => ∃ (k : Nat) (F : Nat → Prop) (M : Nat → Nat) (S : Nat → Option Pr), k ≤ n ∧ i = .int .i64 k ∧ LPE w F M b ub p n0 S wr) (fun i _ => n - (intOf i).toNat)
  case atStart => exact ⟨0, F, M, noS, Nat.zero_le _, rfl, HLP.out⟩
  case round =>
    obtain ⟨k, F, M, S, hk, rfl, hlp⟩ := hrel
    by_cases hlt : k < n
    · as_aux_lemma =>
        obtain ⟨bx, off, q, cs, rfl, hcap, hcs, hone, hld, r0, r1, r2, r3⟩ := op_all HR.out hlp.bel (k := k) (by rw [HN.out]; exact hlt)
        rw [HN.out] at hcap
        obtain ⟨V, hV⟩ : ∃ V, wr.alloc (.cells cs 63) = V := ⟨_, rfl⟩
        have HLD := Lib.hid hld
        have HST : Hid (∀ ZC : Array Value, ZC.size = 21 → (storeVar 63 ⟨wr.heap.size, 0, none⟩ (.agg cs)).run Tryz.prog (wr.alloc (.cells ZC 63)) = .ok () V) := fun ZC hz => hV ▸ st_op hcs hone ZC hz
        obtain ⟨g, hg⟩ : ∃ g, wr.heap.size = g := ⟨_, rfl⟩
        have hb : Below wr.heap.size wr V := hV ▸ (Below.refl _ wr).alloc (Nat.le_refl _) _
        have HV := Lib.hid (hlp.below hb)
        have HY : Hid (V.cell? ⟨g, 0, none⟩ = some (.int .i64 q.k) ∧ V.cell? ⟨g, 1, none⟩ = some (.int .i64 q.i) ∧ V.cell? ⟨g, 2, none⟩ = some (.int .i64 q.e) ∧ V.cell? ⟨g, 3, none⟩ = some (.int .i64 q.t)) := by
          rw [← hV, ← hg]
          exact ⟨by simpa using r0, by simpa using r1, by simpa using r2, by simpa using r3⟩
        have HGF : Hid (¬ F g) := fun h => by have := hlp.c.lt g h; omega
        have HGU : Hid (g ≠ ub) := by have := hlp.u.lt; show g ≠ ub; omega
        have HGV : Hid (g < V.heap.size) := World.block_lt_of_cell? V _ HY.out.1
        have HWV := Lib.hid hV
        have HGG := Lib.hid hg
        have HLT : Hid (k < n) := hlt
        have hcz : (n : Int) ≤ cap1 := by omega
        have hk0 : (0 : Int) ≤ (k : Int) := by omega
        have hk1 : (k : Int) < (n : Int) := by omega
        have hk6 : (k : Int) < 60 := by have := HL60.out; omega
        have hkn : ((k : Int)).toNat = k := Int.toNat_natCast k
        clear hlp hV hg hb hlt hk hcap hcs hone hld r0 r1 r2 r3
        go_upto_region 9 with (first | (refine ld_arm rfl (.tmp 38) rfl rfl HLD.out ?_) | (refine st_arm rfl (.tmp 9) (.tmp 39) rfl rfl rfl (HST.out _ (by kernel_rfl)) ?_))
        try simp only [HGG.out]
        obtain ⟨y0, y1, y2, y3⟩ := HY.out
        by_cases e0 : q.k = 0
        · as_aux_lemma =>
            have d0 : (q.k == 0) = true := by simpa using e0
            have d1 : (q.k == 1) = false := by simp [e0]
            have CU := Lib.hid (cup_any (q.i, q.e) HV.out.c)
            clear e0
            go_wp2_with fail
            refine CU.out.mono ?_
            rintro e w5 (⟨_, rfl, hb5⟩ | ⟨_, _, rfl, hb5⟩ | ⟨hok, hs, rfl, F5, s5, hc5, hn5⟩)
            · as_aux_lemma =>
                have HV5 := Lib.hid (HV.out.below hb5)
                have z0 := (hb5.cell (p := ⟨g, 0, none⟩) HGV.out).trans y0
                clear hb5 y0 y1 y2 y3 CU
                go_wp2_with fail
                go_roundw
                case rel => exact ⟨k + 1, F, M, S, HLT.out, by go_num, HV5.out⟩
                case measure => simp [intOf]; omega
            · as_aux_lemma =>
                have HV5 := Lib.hid (HV.out.below hb5)
                have z0 := (hb5.cell (p := ⟨g, 0, none⟩) HGV.out).trans y0
                clear hb5 y0 y1 y2 y3 CU
                go_wp2_with fail
                go_roundw
                case rel => exact ⟨k + 1, F, M, S, HLT.out, by go_num, HV5.out⟩
                case measure => simp [intOf]; omega
            · as_aux_lemma =>
                obtain ⟨⟨⟨a1', a2⟩, a3⟩, a4⟩ := hok
                dsimp only at a1' a2 a3 a4 hs hc5
                obtain ⟨kk, hkk⟩ : ∃ kk : Nat, q.i = (kk : Int) := ⟨q.i.toNat, (Int.toNat_of_nonneg a1').symm⟩
                have htn : q.i.toNat = kk := by rw [hkk]; exact Int.toNat_natCast kk
                have hk64 : kk < 64 := by omega
                rw [htn] at hs hc5
                obtain ⟨m1, m2, m3⟩ := HV.out.mid hn5
                have HLP5 : Hid (LPE w F5 (upd M kk s5) b ub p n0 (upd S kk (some (newP n0 (q.i, q.e) 3 5))) (w5.setCell ⟨ub, kk, none⟩ (.int .i64 (1 + q.e)))) := HV.out.put hk64 hc5 hn5 (fun r hr => by cases hr; exact ⟨rfl, hkk, a3⟩) _ (by rw [uO_some (upd_same _ _ _)]; rfl)
                have z0 := (hn5.1.cell HGV.out HGF.out).trans y0
                have z1 := (hn5.1.cell HGV.out HGF.out).trans y1
                have z2 := (hn5.1.cell HGV.out HGF.out).trans y2
                have u0 := m1.1 kk hk64
                rw [uO_none hs] at u0
                have u1 := m1.2 kk
                obtain ⟨v0, v1⟩ := m2
                have d2 : (q.i == n0.1) = false := by simpa using fun e => a4 e.symm
                have b0 : (0 : Int) ≤ q.i := a1'
                have b1 : q.i < 64 := a2
                have b2 : (0 : Int) ≤ q.e := a3.1
                have b3 : q.e ≤ 4294967295 := a3.2
                have gu := HGU.out
                have ug : ub ≠ g := fun e => gu e.symm
                clear hs hc5 hn5 m1 m3 a1' a2 a3 a4 y0 y1 y2 y3 CU hkk hk64
                go_wp2_with fail
                go_roundw
                case rel => exact ⟨k + 1, F5, _, _, HLT.out, by go_num, HLP5.out⟩
                case measure => simp [intOf]; omega
        · as_aux_lemma =>
            have d0 : (q.k == 0) = false := by simpa using e0
            by_cases e1 : q.k = 1
            · have d1 : (q.k == 1) = true := by simpa using e1
              have CD := Lib.hid (cdown_any q.t HV.out.c)
              clear e0 e1
              go_wp2_with fail
              refine CD.out.mono ?_
              rintro e w5 (⟨_, rfl, hb5⟩ | ⟨⟨a1', a2⟩, hs, rfl, F5, M5, hc5, hn5⟩)
              · as_aux_lemma =>
                  have HV5 := Lib.hid (HV.out.below hb5)
                  clear hb5 y0 y1 y2 y3 CD
                  go_wp2_with fail
                  go_roundw
                  case rel => exact ⟨k + 1, F, M, S, HLT.out, by go_num, HV5.out⟩
                  case measure => simp [intOf]; omega
              · as_aux_lemma =>
                  obtain ⟨kk, hkk⟩ : ∃ kk : Nat, q.t = (kk : Int) := ⟨q.t.toNat, (Int.toNat_of_nonneg a1').symm⟩
                  have htn : q.t.toNat = kk := by rw [hkk]; exact Int.toNat_natCast kk
                  have hk64 : kk < 64 := by omega
                  rw [htn] at hs hc5
                  obtain ⟨m1, m2, m3⟩ := HV.out.mid hn5
                  have HLP5 : Hid (LPE w F5 M5 b ub p n0 (upd S kk none) (w5.setCell ⟨ub, kk, none⟩ (.int .i64 0))) := HV.out.put hk64 hc5 hn5 (fun r hr => by cases hr) _ (by rw [uO_none (upd_same _ _ _)])
                  have z3 := (hn5.1.cell HGV.out HGF.out).trans y3
                  have u0 := m1.1 kk hk64
                  have u1 := m1.2 kk
                  obtain ⟨pr, hpr⟩ := Option.ne_none_iff_exists'.1 hs
                  have hep := (HV.out.fr kk pr hpr).2.2
                  rw [uO_some hpr] at u0
                  obtain ⟨uv, huv⟩ : ∃ v, 1 + pr.pe.2 = v := ⟨_, rfl⟩
                  have d2 : (uv == 0) = false := by have := hep.1; simp; omega
                  rw [huv] at u0
                  have b0 : (0 : Int) ≤ q.t := a1'
                  have b1 : q.t < 64 := a2
                  clear hs hc5 hn5 m1 m2 m3 a1' a2 y0 y1 y2 y3 CD hkk hk64 hpr hep huv
                  go_wp2_with fail
                  go_roundw
                  case rel => exact ⟨k + 1, F5, _, _, HLT.out, by go_num, HLP5.out⟩
                  case measure => simp [intOf]; omega
            · as_aux_lemma =>
                have d1 : (q.k == 1) = false := by simpa using e1
                clear e0 e1
                go_wp2_with fail
                go_roundw
                case rel => exact ⟨k + 1, F, M, S, HLT.out, by go_num, HV.out⟩
                case measure => simp [intOf]; omega
    · as_aux_lemma =>
        obtain rfl : k = n := by omega
        have HL := Lib.hid hlp
        clear hlp hlt
        have HF0 : Hid (Fresh n0 S) := HL.out.fr
        obtain ⟨wl, rfl⟩ : ∃ x, x = wr := ⟨_, rfl⟩
        go_wp2_with fail
        go_loopw [10, 11] (fun v i wr => ∃ (j : Nat) (a : Option Addr) (c : Nat), j ≤ 64 ∧ i = .int .i64 j ∧ v = .slice a (peL S (ksU S j)).length c ∧ OwPe wr wl.heap.size (.slice a (peL S (ksU S j)).length c) (peL S (ksU S j)) ∧ Below wl.heap.size wl wr) (fun _ i _ => 64 - (intOf i).toNat)
        case atStart => exact ⟨0, none, 0, Nat.zero_le _, rfl, rfl, gown_nil (R := RE) _ _, Below.refl _ _⟩
        case round =>
          obtain ⟨j, a, c, hj, rfl, rfl, ho, hb2⟩ := hrel
          have hxl := peL_len S j
          by_cases hj64 : j < 64
          · as_aux_lemma =>
              have u0 := (hb2.cell (p := ⟨ub, j, none⟩) HL.out.u.lt).trans (HL.out.u.1 j hj64)
              obtain ⟨xs, hxs⟩ : ∃ xs, peL S (ksU S j) = xs := ⟨_, rfl⟩
              rw [hxs] at ho hxl
              simp only [hxs]
              obtain ⟨nx, hnx⟩ : ∃ nx, xs.length = nx := ⟨_, rfl⟩
              simp only [hnx]
              have hj0 : (0 : Int) ≤ (j : Int) := by omega
              have hj1 : (j : Int) < 64 := by omega
              have hjn : ((j : Int)).toNat = j := Int.toNat_natCast j
              have HJ : Hid (j < 64) := hj64
              have HXS := Lib.hid hxs
              have HNX := Lib.hid hnx
              have HO := Lib.hid ho
              have HB9 := Lib.hid hb2
              have HXL : Hid (xs.length ≤ 64) := by show xs.length ≤ 64; omega
              obtain ⟨o, hso⟩ : ∃ o, S j = o := ⟨_, rfl⟩
              cases o with
              | none =>
                rw [uO_none hso] at u0
                have HE := Lib.hid (peL_none hso)
                clear hso ho hb2 hxl hj hj64 hxs hnx
                go_wp2_with fail
                go_roundw
                case rel => exact ⟨j + 1, a, c, HJ.out, by go_num, by rw [HE.out, HXS.out, HNX.out], by rw [HE.out, HXS.out, HNX.out]; exact HNX.out ▸ HO.out, HB9.out⟩
                case measure => simp [intOf]; omega
              | some pr =>
                rw [uO_some hso] at u0
                obtain ⟨_, hp1, hp2⟩ := HF0.out j pr hso
                obtain ⟨uv, huv⟩ : ∃ v, 1 + pr.pe.2 = v := ⟨_, rfl⟩
                rw [huv] at u0
                have HPE : Hid (pr.pe = ((j : Int), uv - 1)) := Prod.ext hp1 (by show pr.pe.2 = uv - 1; omega)
                have HE := Lib.hid (peL_some hso)
                have hu0 : (0 : Int) < uv := by have := hp2.1; omega
                have hu1 : uv ≤ 4294967296 := by have := hp2.2; omega
                have HAP : Hid (OwPe wr wl.heap.size (.slice a nx c) xs) := by show OwPe _ _ _ _; rw [← HNX.out]; exact HO.out
                have HSZ : Hid (wl.heap.size ≤ wr.heap.size) := HB9.out.size
                clear hso ho hb2 hxl hj hj64 hxs hnx hp1 hp2 huv
                go_wp2_with (at_builtin; refine gapp1_any (R := RE) rfl (.tmp 131) (.tmp 139) rfl wr (((j : Int), uv - 1) : Nd) 23 rfl wl.heap.size _ xs rfl rfl HAP.out (Nat.le_trans HXL.out (by decide)) HSZ.out ?_; intro g9 cap9 w9 ho9 hb9)
                have HO9 : Hid (OwPe w9 wl.heap.size (.slice (some ⟨g9, 0, none⟩) (xs.length + 1) cap9) (xs ++ [((j : Int), uv - 1)])) := ho9
                have HBB := Lib.hid (HB9.out.trans hb9)
                clear ho9 hb9
                go_wp2_with fail
                go_roundw
                case rel =>
                  have e9 : peL S (ksU S (j + 1)) = xs ++ [((j : Int), uv - 1)] := by rw [HE.out, HXS.out, HPE.out]
                  have e8 : (xs ++ [((j : Int), uv - 1)]).length = xs.length + 1 := by rw [List.length_append]; rfl
                  refine ⟨j + 1, some ⟨g9, 0, none⟩, cap9, HJ.out, by go_num, ?_, ?_, HBB.out⟩
                  · rw [e9, e8]
                    first | rfl | (rw [HNX.out])
                  · rw [e9, e8]
                    exact HO9.out
                case measure => simp [intOf]; omega
          · as_aux_lemma =>
              obtain rfl : j = 64 := by omega
              obtain ⟨xs, hxs⟩ : ∃ xs, peL S (ksU S 64) = xs := ⟨_, rfl⟩
              have hfr := HF0.out.frames
              have CPE := cpeers_any (M := M) (HL.out.c)
              rw [hxs] at ho hxl
              simp only [hxs]
              obtain ⟨nx, hnx⟩ : ∃ nx, xs.length = nx := ⟨_, rfl⟩
              simp only [hnx]
              have HXL : Hid (xs.length ≤ 3000) := by show xs.length ≤ 3000; omega
              have HO := Lib.hid ho
              have HX := Lib.hid (HL.out.below hb2)
              have HXS := Lib.hid hxs
              have HNX := Lib.hid hnx
              have HFRM := Lib.hid hfr
              clear ho hb2 hxl hj hj64 hxs hnx hfr CPE
              go_wp2_with fail
              refine (awake17 wr).mono ?_
              rintro e w6 ⟨rfl, hb⟩
              have H6 := Lib.hid (HX.out.below hb)
              have HO6 : Hid (OwPe w6 wl.heap.size (.slice a xs.length c) xs) := gown_below HO.out hb
              clear hb
              have C7 := cpeers_any H6.out.c
              rw [HXS.out, HNX.out] at C7
              have HC7 := Lib.hid C7
              clear C7
              go_wp2_with fail
              refine HC7.out.mono ?_
              rintro e w7 ⟨a7, c7, rfl, ho7, hb⟩
              have H7 := Lib.hid (H6.out.below hb)
              have HO7 : Hid (OwPe w7 wl.heap.size (.slice a xs.length c) xs) := gown_below HO6.out hb
              have HP7 := Lib.hid ho7
              clear hb ho7 HC7
              have es1 : Es w7 (.slice a7 nx c7) xs := (Gs_of_own (R := RE) (HNX.out ▸ HP7.out : OwPe w7 w6.heap.size (.slice a7 nx c7) xs)).1
              have es2 : Es w7 (.slice a nx c) xs := (Gs_of_own (R := RE) (HNX.out ▸ HO7.out : OwPe w7 wl.heap.size (.slice a nx c) xs)).1
              have C8 := rech_any _ _ xs xs w7 es1 es2 HXL.out
              rw [decide_eq_true (rfl : xs = xs)] at C8
              have HC8 := Lib.hid C8
              clear C8 es1 es2
              go_wp2_with fail
              refine HC8.out.mono ?_
              rintro e w8 ⟨rfl, hb⟩
              have H8 := Lib.hid (H7.out.below hb)
              clear hb HC8
              go_wp2_with fail
              refine (cidle_any true H8.out.fr.idle H8.out.c).mono ?_
              rintro e w9 ⟨rfl, hb⟩
              have H9 := Lib.hid (H8.out.below hb)
              clear hb
              have C10 := cfr_any H9.out.c
              rw [HFRM.out] at C10
              have HC10 := Lib.hid C10
              clear C10
              go_wp2_with fail
              refine HC10.out.mono ?_
              rintro e wz ⟨r, rfl, Fz, _, hn, hf⟩
              obtain ⟨az, cz, rfl⟩ := hf.form
              have HBZ := Lib.hid (H9.out.bel.trans (hn.1.below H9.out.bel.size H9.out.lo))
              clear hn hf HC10
              go_wp2_with fail
              go_ret
              exact ⟨rfl, HBZ.out⟩

end Go.Proofs.YtdigjklhfimnbaaGreat.castPeers
