/- Texts Bpt of this proof, in one. No conditions but on lengths. -/
import Derived.Test.YtdigjklhfimnbaaGreatU51
import Derived.Test.YtdigjklhfimnbaaGreatRows
import Derived.Test.YtdigjklhfimnbaaGreatU23
import Derived.ArgAppend
import Derived.Below
import Derived.BigQuiet
import Derived.Calls
import Derived.ChangeArms
import Derived.ChangeOld
import Derived.Deep.LoopGhost
import Derived.Deep.QuietTactic
import Derived.Deep.RegionWith
import Derived.Deep.Slices
import Derived.Laws.AppendOwnNone
import Derived.Laws.BytesArg
import Derived.Laws.OwnMore
import Derived.Laws.StructEq
import Derived.Lib.Hide
import Derived.Lib.QuietBelow
import Derived.LoopTactic
import Derived.Maps.AppendAt
import Derived.OpenShut
import Derived.Orders
import Derived.Outline
import Derived.ProofKit
import Derived.ShutString
import Derived.StillTail
import Derived.WalkKit
import Derived.WalkSpells
import Derived.WideShapes
namespace Go.Proofs.YtdigjklhfimnbaaGreat
set_option maxRecDepth 100000
open Go.RowKit Go.Sort

theorem z_nxt_eq (a : Int) : z_nxt a = nxt a := by unfold z_nxt nxt; omega
/-- The next one's number. -/
theorem pnext_any (a : Int) (w : World) : Calls Tryz.prog 128 #[.int .i64 a] w fun e w' => e = .returned (.int .i64 (nxt a)) ∧ Below w.heap.size w w' := by
  have h := z_next_any a w
  rwa [z_nxt_eq] at h
set_option maxHeartbeats 32000000 in
theorem part_any (v : Value) (ys : List Ob) (n0 most : Int) (w : World) (hy : Os w v ys) (hl : ys.length ≤ 1024) (hm : 40 ≤ most ∧ most ≤ 512) :
    Calls Tryz.prog 123 #[v, .int .i64 n0, .int .i64 most] w fun e w' => ∃ r, e = .returned r ∧ RowB w' w.heap.size r (packF most ys ys.length 0 n0) ∧ Below w.heap.size w w' := by
  obtain ⟨a, c, rfl⟩ := hy.form
  have HY := Lib.hid hy
  clear hy
  go_enter Tryz.func123, Tryz.ntmps123
  go_wp2_with fail
  go_step3
  go_wp2_with fail
  go_step3
  go_wp2_with fail
  go_loopg [1, 7, 8, 9, 10] ys.length (fun f n out A _ _ wx => ∃ (k : Nat) (bs : List (Int × List Ob)) (m : Int), A = .int .i64 k ∧ k ≤ ys.length ∧ n = .int .i64 m ∧ RowB wx w.heap.size out bs ∧ ys.length ≤ k + f ∧ bs ++ packF most ys f k m = packF most ys ys.length 0 n0 ∧ bs.length ≤ k ∧ Below w.heap.size w wx)
  case atStart => exact ⟨0, [], n0, rfl, Nat.zero_le _, rfl, RowB_nil _ _, by omega, rfl, Nat.le_refl _, Below.refl _ _⟩
  case round =>
    obtain ⟨k, bs, m, rfl, hk, rfl, hrow, hf, heq, hbl, hbel⟩ := hrel
    have HR := Lib.hid hrow
    have HE := Lib.hid heq
    have HB := Lib.hid hbel
    clear hrow heq hbel
    obtain ⟨wo, hwo⟩ : ∃ wo, wo = wr := ⟨_, rfl⟩
    subst hwo
    by_cases hlt : k < ys.length
    · obtain ⟨f, rfl⟩ : ∃ f, gk = f + 1 := ⟨gk - 1, by omega⟩
      go_wp2_with (at_builtin; refine bappX_any rfl (.tmp 15) (.tmp 18) rfl w.heap.size bs m wo rfl HR.out rfl (by omega) HB.out.size ?_; intro g cap w5 hX hb5 hs5; have RX := Lib.hid hX; have B5 := Lib.hid (HB.out.trans hb5); clear hX hb5 hs5)
      refine (pnext_any m _).mono ?_
      rintro e w6 ⟨rfl, hb6⟩
      replace RX := Lib.hid (RX.out.below hb6)
      replace B5 := Lib.hid (B5.out.trans (hb6.mono B5.out.size))
      clear hb6
      obtain ⟨S, hS⟩ : ∃ S, w5.heap.size = S := ⟨_, rfl⟩
      rw [hS] at RX
      clear hS
      go_wp2_with fail
      go_loopg [8, 10] (ys.length - k) (fun f2 A2 b2 wx => ∃ (q : Nat) (v : Value), A2 = .int .i64 q ∧ k ≤ q ∧ q + f2 = ys.length ∧ b2 = .int .i64 (3 + (osz (seg ys k q) : Int)) ∧ RowX wx w.heap.size S g cap bs m v (seg ys k q) ∧ q - k ≤ 32 ∧ (∀ s, k + 1 ≤ s → s < q → Fit1 most ys k s) ∧ Below w.heap.size w wx)
      case atStart => exact ⟨k, _, rfl, Nat.le_refl _, by omega, by rw [seg_self]; rfl, by rw [seg_self]; exact RX.out, by omega, fun s h1 h2 => by omega, B5.out⟩
      case round =>
        obtain ⟨q, v, rfl, hkq, hqf, rfl, hX, h32, hfit, hbel2⟩ := hrel
        obtain ⟨hcell, hfz, hgS, hSW, hone, a3, c3, rfl⟩ := hX.cells
        have HX := Lib.hid hX
        have HF := Lib.hid hfit
        have HB2 := Lib.hid hbel2
        have hql : q ≤ ys.length := by omega
        have HSL := Lib.hid (seg_len ys (A := k) hql)
        have hoz : osz (seg ys k q) ≤ 1280 := by have := osz_le (seg ys k q); rw [HSL.out] at this; omega
        clear hX hfit hbel2 hone hcell hfz
        by_cases hq : q < ys.length
        · obtain ⟨b, off, rfl, hB, hc⟩ := HY.out.at hq
          have hsucc := Lib.hid (seg_succ ys hkq hq)
          obtain ⟨y, hyk⟩ : ∃ y, ys.getD q z12 = y := ⟨_, rfl⟩
          rw [hyk] at hc hsucc
          have HC := Lib.hid hc
          have hyl := bs_le37 y
          have cB : ∀ w, Calls Tryz.prog 172 #[.agg #[.int .i64 y.k, .int .i64 y.x, .bool y.n, .int .i64 y.t, .int .i64 y.o, .int .i64 y.r, .int .i64 y.d, .int .i64 y.i, .int .i64 y.p, .int .i64 y.q, .int .i64 y.s, .int .i64 y.m]] w fun e w' => e = .returned (.int .i64 y.bs.length) ∧ Below w.heap.size w w' := fun w => osize_any y.k y.x y.n y.t y.o y.r y.d y.i y.p y.q y.s y.m w
          obtain ⟨p0, p1, p2, p3, p4, p5, p6, p7, p8, p9, p10, p11⟩ := (hc.low hB HB2.out).all
          clear hc hyk
          go_wp2_with fail
          refine (cB _).mono ?_
          rintro e wo2 ⟨rfl, hb7⟩
          clear p0 p1 p2 p3 p4 p5 p6 p7 p8 p9 p10 p11
          replace HX := Lib.hid (HX.out.below hb7)
          replace HB2 := Lib.hid (HB2.out.trans (hb7.mono HB2.out.size))
          clear hb7
          have hcut : ¬ Fit1 most ys k q → q ≠ k → Hid (cutTo most ys k = q) := fun hn hne => cutF_eq hn ys.length (k + 1) (by omega) (by omega) HF.out
          obtain ⟨hcell, hfz, -, -, -, -⟩ := HX.out.cells
          have hdr : 3 + (osz (seg ys k q) : Int) + (y.bs.length : Int) = 3 + (osz (seg ys k (q + 1)) : Int) := by
            rw [hsucc.out, osz_app]; simp [osz]; omega
          by_cases h1 : most < 3 + (osz (seg ys k q) : Int) + (y.bs.length : Int)
          · have hne : q ≠ k := fun e => by
              subst e
              rw [seg_self] at h1
              simp [osz] at h1
              omega
            have HCUT := hcut (fun h => by have := h.2.2; unfold seg at hdr h1; omega) hne
            clear hdr hcut
            go_wp2_with fail
            go_roundg f
            case measure => omega
            case rel => 
              have he := HE.out
              rw [packF_cons hlt, HCUT.out] at he
              exact ⟨q, bs ++ [(m, seg ys k q)], nxt m, rfl, by omega, rfl, HX.out.row, by omega, by rw [List.append_assoc]; exact he, by rw [List.length_append]; simp; omega, HB2.out⟩
          · by_cases h2 : q - k = 32
            · have h2' : (((seg ys k q).length : Int) == 32) = true := by rw [HSL.out, h2]; rfl
              have HCUT := hcut (fun h => by have := h.2.1; omega) (by omega)
              clear hdr hcut
              go_wp2_with fail
              go_roundg f
              case measure => omega
              case rel => 
              have he := HE.out
              rw [packF_cons hlt, HCUT.out] at he
              exact ⟨q, bs ++ [(m, seg ys k q)], nxt m, rfl, by omega, rfl, HX.out.row, by omega, by rw [List.append_assoc]; exact he, by rw [List.length_append]; simp; omega, HB2.out⟩
            · have h2' : (((seg ys k q).length : Int) == 32) = false := by rw [HSL.out, beq_eq_false_iff_ne]; omega
              have HFQ : Hid (k + 1 ≤ q → Fit1 most ys k q) := fun _ => ⟨hq, by omega, by unfold seg at hdr; unfold seg at h1; omega⟩
              have HDR := Lib.hid hdr
              have hq0 : (0 : Int) ≤ (q : Int) := by omega
              have hq1 : (q : Int) < (ys.length : Int) := by omega
              have hqn : ((q : Int)).toNat = q := Int.toNat_natCast q
              have HXL : Hid ((seg ys k q).length ≤ 3000) := by show _ ≤ _; rw [HSL.out]; omega
              have OW := Lib.hid HX.out.last.1
              have HSW : Hid (S ≤ wo2.heap.size) := HX.out.cells.2.2.2.1
              have HROW : ∀ b, Value.ownBlock (.slice a3 (seg ys k q).length c3) = some b → b < wo2.heap.size := fun b hb => (OW.out.lt b hb).2
              have kc : ∀ w', Below S wo2 w' → w'.cell? ⟨g, bs.length * 2 + 1, none⟩ = some (.slice a3 (seg ys k q).length c3) ∧ C12 w' b (off + q * 12) y := fun w' h =>
                ⟨by rw [h.cell (p := ⟨g, bs.length * 2 + 1, none⟩) hgS]; exact hcell, (HC.out.low hB HB2.out).low (Nat.lt_trans hB (Nat.lt_of_le_of_lt HX.out.last.2 hgS)) h⟩
              have kc := fun w' h => (⟨(kc w' h).1, (kc w' h).2.all⟩ : _ ∧ _)
              clear hdr hcut
              go_wp2_with fail
              refine T3.wp_region_tail (C := fun w' => Below S wo2 w' ∧ w'.ownsRow S 41 12 (.slice a3 (seg ys k q).length c3) (seg ys k q).length (flat (seg ys k q))) (X := XA (Value.ownBlock (.slice a3 (seg ys k q).length c3)) 10) (n := 65) 13 (by kernel_rfl) (by kernel_rfl) (by kernel_rfl) (by kernel_rfl) rfl (XA_refl _ 10) ⟨(Below.refl _ _).drew, OW.out.drew⟩ ?_
              simp only [List.take_succ_cons, List.take_zero, List.drop_succ_cons, List.drop_zero]
              refine T3.w_is (XA_refl _ 10) rfl _ (.inl rfl) (fun ρ w hC hc hfn hf => by have e9 : ρ (.tmp 9) = _ := hf 9 (by decide); (conv => lhs; simp [execOp, go_sem, hc, e9])) ?_
              refine T3.w_is (XA_refl _ 10) rfl _ (.inl rfl) (fun ρ w hC hc hfn hf => by have e9 : ρ (.tmp 9) = _ := hf 9 (by decide); (conv => lhs; simp [execOp, go_sem, hc, e9])) ?_
              refine T3.w_is (XA_refl _ 10) rfl _ (.inl rfl) (fun ρ w hC hc hfn hf => by have e52 : ρ (.tmp 52) = _ := hf 52 (by decide); (conv => lhs; simp [execOp, go_sem, hc, e52])) ?_
              refine T3.w_is (XA_refl _ 10) rfl _ (.inl rfl) (fun ρ w hC hc hfn hf => by have e53 : ρ (.tmp 53) = _ := hf 53 (by decide); (conv => lhs; simp [execOp, go_sem, hc, e53])) ?_
              refine T3.w_is (XA_refl _ 10) rfl _ (.inl rfl) (fun ρ w hC hc hfn hf => by have e54 : ρ (.tmp 54) = _ := hf 54 (by decide); (conv => lhs; simp [execOp, go_sem, hc, e54, kc w hC.1])) ?_
              refine T3.w_is (XA_refl _ 10) rfl _ (.inl rfl) (fun ρ w hC hc hfn hf => by have e0 : ρ (.tmp 0) = _ := hf 0 (by decide); (conv => lhs; simp [execOp, go_sem, hc, e0])) ?_
              refine T3.w_is (XA_refl _ 10) rfl _ (.inl rfl) (fun ρ w hC hc hfn hf => by have e8 : ρ (.tmp 8) = _ := hf 8 (by decide); (conv => lhs; simp [execOp, go_sem, hc, e8])) ?_
              refine T3.w_is (XA_refl _ 10) rfl _ (.inl rfl) (fun ρ w hC hc hfn hf => by have e56 : ρ (.tmp 56) = _ := hf 56 (by decide); have e57 : ρ (.tmp 57) = _ := hf 57 (by decide); (conv => lhs; simp [execOp, go_sem, hc, e56, e57, hq0, hq1, hqn])) ?_
              refine T3.w_is (XA_refl _ 10) rfl _ (.inl rfl) (fun ρ w hC hc hfn hf => by have e58 : ρ (.tmp 58) = _ := hf 58 (by decide); (conv => lhs; simp [execOp, go_sem, hc, e58, kc w hC.1])) ?_
              refine T3.w_make rfl (NewOb wo2 y) (NewOb.keeps HROW 10 9) (.inl rfl) (fun ρ w hC hc hfn hf => by have e59 : ρ (.tmp 59) = _ := hf 59 (by decide); exact ⟨_, _, by (conv => lhs; simp [execOp, go_sem, hc, e59]), ⟨hC.1.alloc (Nat.le_trans HSW.out hC.1.size) _, hC.2.alloc _⟩, XA_of (by decide) ((Below.refl _ w).alloc (Nat.le_refl _) _), ⟨_, rfl, hC.1.size, c12_alloc w y _ rfl⟩⟩) ?_
              refine T3.w_make rfl (NewRow S ((seg ys k q) ++ [y]) ((seg ys k q).length + 1)) (NewRow.keeps 10) (.inl rfl) (fun ρ w hC hc hfn hf => by have e55 : ρ (.tmp 55) = _ := hf 55 (by decide); obtain ⟨bq, e60, hb1, hb2⟩ := (show NewOb wo2 y (ρ (.tmp 60)) w from hf 60 (by decide)); obtain ⟨gq, cq, wq, hr, hq1, hq2, hq3⟩ := run_oapp w 22 S _ (seg ys k q) hC.2 bq y hb2 HXL.out (Nat.le_trans HSW.out hC.1.size); exact ⟨_, wq, exec_append rfl e55 e60 hr, ⟨hC.1.trans ((Below.refl S w).grown hq2 (Nat.le_trans HSW.out hC.1.size) (fun k hk => (hC.2.lt k hk).1)), hq3⟩, XA_at rfl hq2, ⟨gq, cq, rfl, hq1⟩⟩) ?_
              refine T3.w_is (XA_refl _ 10) rfl _ (.inl rfl) (fun ρ w hC hc hfn hf => by have e51 : ρ (.tmp 51) = _ := hf 51 (by decide); (conv => lhs; simp [execOp, go_sem, hc, e51])) ?_
              refine T3.w_is (XA_refl _ 10) rfl _ (.inl rfl) (fun ρ w hC hc hfn hf => by have e62 : ρ (.tmp 62) = _ := hf 62 (by decide); (conv => lhs; simp [execOp, go_sem, hc, e62])) ?_
              intro A V5 hC hn hd hf
              obtain ⟨bq, y60, -, -⟩ := (show NewOb wo2 y (A.eval (.tmp 60)) V5 from hf 60)
              obtain ⟨gq, cq, y61, OQ⟩ := (show NewRow S ((seg ys k q) ++ [y]) ((seg ys k q).length + 1) (A.eval (.tmp 61)) V5 from hf 61)
              rw [y61] at OQ
              have y0 : A.eval (.tmp 0) = _ := Eq.trans (hf 0) (by conv => lhs; simp [go_sem])
              have y1 : A.eval (.tmp 1) = _ := Eq.trans (hf 1) (by conv => lhs; simp [go_sem])
              have y2 : A.eval (.tmp 2) = _ := Eq.trans (hf 2) (by conv => lhs; simp [go_sem])
              have y3 : A.eval (.tmp 3) = _ := Eq.trans (hf 3) (by conv => lhs; simp [go_sem])
              have y4 : A.eval (.tmp 4) = _ := Eq.trans (hf 4) (by conv => lhs; simp [go_sem])
              have y5 : A.eval (.tmp 5) = _ := Eq.trans (hf 5) (by conv => lhs; simp [go_sem])
              have y6 : A.eval (.tmp 6) = _ := Eq.trans (hf 6) (by conv => lhs; simp [go_sem])
              have y7 : A.eval (.tmp 7) = _ := Eq.trans (hf 7) (by conv => lhs; simp [go_sem])
              have y8 : A.eval (.tmp 8) = _ := Eq.trans (hf 8) (by conv => lhs; simp [go_sem])
              have y9 : A.eval (.tmp 9) = _ := Eq.trans (hf 9) (by conv => lhs; simp [go_sem])
              have y10 : A.eval (.tmp 10) = _ := Eq.trans (hf 10) (by conv => lhs; simp [go_sem])
              have y11 : A.eval (.tmp 11) = _ := Eq.trans (hf 11) (by conv => lhs; simp [go_sem])
              have y12 : A.eval (.tmp 12) = _ := Eq.trans (hf 12) (by conv => lhs; simp [go_sem])
              have y13 : A.eval (.tmp 13) = _ := Eq.trans (hf 13) (by conv => lhs; simp [go_sem])
              have y14 : A.eval (.tmp 14) = _ := Eq.trans (hf 14) (by conv => lhs; simp [go_sem])
              have y15 : A.eval (.tmp 15) = _ := Eq.trans (hf 15) (by conv => lhs; simp [go_sem])
              have y16 : A.eval (.tmp 16) = _ := Eq.trans (hf 16) (by conv => lhs; simp [go_sem])
              have y17 : A.eval (.tmp 17) = _ := Eq.trans (hf 17) (by conv => lhs; simp [go_sem])
              have y18 : A.eval (.tmp 18) = _ := Eq.trans (hf 18) (by conv => lhs; simp [go_sem])
              have y19 : A.eval (.tmp 19) = _ := Eq.trans (hf 19) (by conv => lhs; simp [go_sem])
              have y20 : A.eval (.tmp 20) = _ := Eq.trans (hf 20) (by conv => lhs; simp [go_sem])
              have y21 : A.eval (.tmp 21) = _ := Eq.trans (hf 21) (by conv => lhs; simp [go_sem])
              have y22 : A.eval (.tmp 22) = _ := Eq.trans (hf 22) (by conv => lhs; simp [go_sem])
              have y23 : A.eval (.tmp 23) = _ := Eq.trans (hf 23) (by conv => lhs; simp [go_sem])
              have y24 : A.eval (.tmp 24) = _ := Eq.trans (hf 24) (by conv => lhs; simp [go_sem])
              have y25 : A.eval (.tmp 25) = _ := Eq.trans (hf 25) (by conv => lhs; simp [go_sem])
              have y26 : A.eval (.tmp 26) = _ := Eq.trans (hf 26) (by conv => lhs; simp [go_sem])
              have y27 : A.eval (.tmp 27) = _ := Eq.trans (hf 27) (by conv => lhs; simp [go_sem])
              have y28 : A.eval (.tmp 28) = _ := Eq.trans (hf 28) (by conv => lhs; simp [go_sem])
              have y29 : A.eval (.tmp 29) = _ := Eq.trans (hf 29) (by conv => lhs; simp [go_sem])
              have y30 : A.eval (.tmp 30) = _ := Eq.trans (hf 30) (by conv => lhs; simp [go_sem])
              have y31 : A.eval (.tmp 31) = _ := Eq.trans (hf 31) (by conv => lhs; simp [go_sem])
              have y32 : A.eval (.tmp 32) = _ := Eq.trans (hf 32) (by conv => lhs; simp [go_sem])
              have y33 : A.eval (.tmp 33) = _ := Eq.trans (hf 33) (by conv => lhs; simp [go_sem])
              have y34 : A.eval (.tmp 34) = _ := Eq.trans (hf 34) (by conv => lhs; simp [go_sem])
              have y35 : A.eval (.tmp 35) = _ := Eq.trans (hf 35) (by conv => lhs; simp [go_sem])
              have y36 : A.eval (.tmp 36) = _ := Eq.trans (hf 36) (by conv => lhs; simp [go_sem])
              have y37 : A.eval (.tmp 37) = _ := Eq.trans (hf 37) (by conv => lhs; simp [go_sem])
              have y38 : A.eval (.tmp 38) = _ := Eq.trans (hf 38) (by conv => lhs; simp [go_sem])
              have y39 : A.eval (.tmp 39) = _ := Eq.trans (hf 39) (by conv => lhs; simp [go_sem])
              have y40 : A.eval (.tmp 40) = _ := Eq.trans (hf 40) (by conv => lhs; simp [go_sem])
              have y41 : A.eval (.tmp 41) = _ := Eq.trans (hf 41) (by conv => lhs; simp [go_sem])
              have y42 : A.eval (.tmp 42) = _ := Eq.trans (hf 42) (by conv => lhs; simp [go_sem])
              have y43 : A.eval (.tmp 43) = _ := Eq.trans (hf 43) (by conv => lhs; simp [go_sem])
              have y44 : A.eval (.tmp 44) = _ := Eq.trans (hf 44) (by conv => lhs; simp [go_sem])
              have y45 : A.eval (.tmp 45) = _ := Eq.trans (hf 45) (by conv => lhs; simp [go_sem])
              have y46 : A.eval (.tmp 46) = _ := Eq.trans (hf 46) (by conv => lhs; simp [go_sem])
              have y47 : A.eval (.tmp 47) = _ := Eq.trans (hf 47) (by conv => lhs; simp [go_sem])
              have y48 : A.eval (.tmp 48) = _ := Eq.trans (hf 48) (by conv => lhs; simp [go_sem])
              have y49 : A.eval (.tmp 49) = _ := Eq.trans (hf 49) (by conv => lhs; simp [go_sem])
              have y50 : A.eval (.tmp 50) = _ := Eq.trans (hf 50) (by conv => lhs; simp [go_sem])
              have y51 : A.eval (.tmp 51) = _ := hf 51
              have y52 : A.eval (.tmp 52) = _ := hf 52
              have y53 : A.eval (.tmp 53) = _ := hf 53
              have y54 : A.eval (.tmp 54) = _ := hf 54
              have y55 : A.eval (.tmp 55) = _ := hf 55
              have y56 : A.eval (.tmp 56) = _ := hf 56
              have y57 : A.eval (.tmp 57) = _ := hf 57
              have y58 : A.eval (.tmp 58) = _ := hf 58
              have y59 : A.eval (.tmp 59) = _ := hf 59
              have y62 : A.eval (.tmp 62) = _ := hf 62
              have y63 : A.eval (.tmp 63) = _ := hf 63
              have y64 : A.eval (.tmp 64) = _ := Eq.trans (hf 64) (by conv => lhs; simp [go_sem])
              clear hf
              have hA := frame_eq hn
              rw [show List.range 65 = [0, 1, 2, 3, 4, 5, 6, 7, 8, 9, 10, 11, 12, 13, 14, 15, 16, 17, 18, 19, 20, 21, 22, 23, 24, 25, 26, 27, 28, 29, 30, 31, 32, 33, 34, 35, 36, 37, 38, 39, 40, 41, 42, 43, 44, 45, 46, 47, 48, 49, 50, 51, 52, 53, 54, 55, 56, 57, 58, 59, 60, 61, 62, 63, 64] from rfl, hd] at hA
              simp only [List.map_cons, List.map_nil, y0, y1, y2, y3, y4, y5, y6, y7, y8, y9, y10, y11, y12, y13, y14, y15, y16, y17, y18, y19, y20, y21, y22, y23, y24, y25, y26, y27, y28, y29, y30, y31, y32, y33, y34, y35, y36, y37, y38, y39, y40, y41, y42, y43, y44, y45, y46, y47, y48, y49, y50, y51, y52, y53, y54, y55, y56, y57, y58, y59, y60, y61, y62, y63, y64] at hA
              clear y0 y1 y2 y3 y4 y5 y6 y7 y8 y9 y10 y11 y12 y13 y14 y15 y16 y17 y18 y19 y20 y21 y22 y23 y24 y25 y26 y27 y28 y29 y30 y31 y32 y33 y34 y35 y36 y37 y38 y39 y40 y41 y42 y43 y44 y45 y46 y47 y48 y49 y50 y51 y52 y53 y54 y55 y56 y57 y58 y59 y60 y61 y62 y63 y64
              clear hn hd
              subst hA
              have hcell5 := (kc V5 hC.1).1
              have hfz5 : V5.frozen? ⟨g, bs.length * 2 + 1, none⟩ = false := by rw [hC.1.frozen (p := ⟨g, bs.length * 2 + 1, none⟩) hgS]; exact hfz _
              have HT := Lib.hid (HX.out.turn hC.1 OQ)
              have HB5 := Lib.hid ((HB2.out.trans (hC.1.mono (Nat.le_trans HX.out.last.2 (Nat.le_of_lt hgS)))).setCell (p := ⟨g, bs.length * 2 + 1, none⟩) HX.out.last.2 (.slice (some ⟨gq, 0, none⟩) ((seg ys k q).length + 1) cq))
              clear kc OQ hC HROW hcell hfz
              go_wp2_with fail
              go_roundg (gk - 1)
              case measure => omega
              case rel =>
                refine ⟨q + 1, _, by go_num, by omega, by omega, by rw [← HDR.out], by rw [hsucc.out]; exact HT.out, by omega, ?_, HB5.out⟩
                intro s hs1 hs2
                by_cases hsq : s < q
                · exact HF.out s hs1 hsq
                · obtain rfl : s = q := by omega
                  exact HFQ.out hs1
        · obtain rfl : q = ys.length := by omega
          have HCUT : Hid (cutTo most ys k = ys.length) := cutF_eq (fun h => by have := h.1; omega) ys.length (k + 1) (by omega) (by omega) HF.out
          go_wp2_with fail
          go_roundg f
          case measure => omega
          case rel => 
              have he := HE.out
              rw [packF_cons hlt, HCUT.out] at he
              exact ⟨ys.length, bs ++ [(m, seg ys k ys.length)], nxt m, rfl, by omega, rfl, HX.out.row, by omega, by rw [List.append_assoc]; exact he, by rw [List.length_append]; simp; omega, HB2.out⟩
    · go_wp2_with fail
      try rw [Exit.noGoto_ret]
      go_ret
      have he := HE.out
      rw [packF_nil most ys _ _ _ (by omega), List.append_nil] at he
      rw [he] at HR
      exact ⟨_, rfl, HR.out, HB.out⟩
end Go.Proofs.YtdigjklhfimnbaaGreat
