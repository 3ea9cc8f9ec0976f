/- The reference's links: Levels. Conditions on lengths. -/
import Derived.Test.YtmimgpnogjgliaaRa
namespace Go.Proofs.Ytmimgpnogjgliaa
set_option maxRecDepth 100000
open Go.RowKit

theorem lvs_step (v : Lv) (l : List Lv) (k : Nat) (h : k < l.length) : (l.take (k + 1)).foldl (lvS v) ([], false) = lvS v ((l.take k).foldl (lvS v) ([], false)) (l.getD k (0, 0, 0)) := by
  rw [List.take_add_one, List.foldl_append]
  simp [List.getD, h]
theorem lvs_len (v : Lv) (l : List Lv) (acc : List Lv × Bool) (n : Nat) (hn : acc.1.length ≤ n + acc.2.toNat) : (l.foldl (lvS v) acc).1.length ≤ n + l.length + (l.foldl (lvS v) acc).2.toNat := by
  induction l generalizing acc n with
  | nil => simpa using hn
  | cons y r ih =>
    rw [List.foldl_cons, List.length_cons]
    have := ih (lvS v acc y) (n + 1) (by
      obtain ⟨m, d⟩ := acc
      unfold lvS
      cases d <;> simp at hn ⊢ <;> (repeat' split) <;> simp <;> omega)
    omega
theorem lvI_len (v : Lv) (l : List Lv) : (lvI v l).length ≤ l.length + 1 := by
  unfold lvI lvE
  have := lvs_len v l ([], false) 0 (by simp)
  split
  · rename_i h; rw [h] at this; simpa using this
  · rename_i h
    rw [List.length_append]
    have h2 : (List.foldl (lvS v) ([], false) l).2 = false := by simpa using h
    rw [h2] at this
    simp at this ⊢
    omega
theorem rlv_len (l : List Vw) : (rlvF l).length ≤ l.length := by
  induction l using snoc_ind with
  | h0 => exact Nat.le_refl _
  | h1 l y ih =>
    rw [rlv_snoc, List.length_append, List.length_cons, List.length_nil]
    split
    · have := lvI_len (lv3 y) (rlvF l); omega
    · omega
set_option maxHeartbeats 16000000 in
theorem rlev_any (v : Value) (l : List Vw) (w : World) (hv : Vs w v l) (hl : l.length ≤ 1000) :
    Calls Try.prog 21 #[v] w fun e w' => ∃ r, e = .returned r ∧ Ls w' r (lvlF l) ∧ Below w.heap.size w w' := by
  rw [← rlv_eq]
  obtain ⟨a, c, rfl⟩ := hv.form
  have HV := Lib.hid hv
  clear hv
  go_enter Try.func21, Try.ntmps21
  go_wp2_with fail
  go_loopw [3, 4] (fun ov i wr => ∃ (k : Nat) (oa : Option Addr) (oc : Nat) (os : List Lv), k ≤ l.length ∧ i = .int .i64 k ∧ ov = .slice oa os.length oc ∧ Hid (rlvF (l.take k) = os) ∧ Hid (Ls wr (.slice oa os.length oc) os) ∧ Hid (Below w.heap.size w wr)) (fun _ i _ => l.length - (intOf i).toNat)
  case atStart => exact ⟨0, none, 0, [], Nat.zero_le _, rfl, rfl, rfl, Ls_nil w, Below.refl _ _⟩
  case round =>
    obtain ⟨k, oa, oc, os, hk, rfl, rfl, HF, HO, HB⟩ := hrel
    obtain ⟨wA, hwA⟩ : ∃ x, x = wr := ⟨_, rfl⟩
    subst hwA
    have hol : os.length ≤ k := by
      have h1 := rlv_len (l.take k)
      rw [HF.out, List.length_take] at h1
      omega
    by_cases hlt : k < l.length
    · have hst0 := rlv_step l k hlt
      rw [HF.out] at hst0
      obtain ⟨b1, off1, rfl, hB1, p0, p1, p2, p3, p4, p5, p6⟩ := (HV.out.below HB.out).at hlt
      obtain ⟨y, hy⟩ : ∃ y, l.getD k zVw = y := ⟨_, rfl⟩
      rw [hy] at p0 p1 p2 p3 p4 p5 p6 hst0
      have HY := Lib.hid hy
      clear hy
      have cT := fun W => rtold_any y.2.1 y.2.2.1 y.2.2.2.1 y.2.2.2.2.1 y.2.2.2.2.2.1 y.2.2.2.2.2.2 W
      cases ht : tld y.2 with
      | false =>
        rw [show told y.2.1 y.2.2.1 y.2.2.2.1 y.2.2.2.2.1 y.2.2.2.2.2.1 y.2.2.2.2.2.2 = false from ht] at cT
        have CT := Lib.hid cT
        rw [ht, if_neg (by simp)] at hst0
        have HST0 := Lib.hid hst0
        clear hst0 ht cT
        go_wp2_with fail
        refine (CT.out _).mono ?_
        rintro e V1 ⟨rfl, hb⟩
        have HB5 := Lib.hid (HB.out.trans (hb.mono HB.out.size))
        have HO5 := Lib.hid (HO.out.below hb)
        clear hb p0 p1 p2 p3 p4 p5 p6 hB1
        go_wp2_with fail
        go_roundw
        case rel => exact ⟨k + 1, oa, oc, os, by omega, by go_num, rfl, HST0.out, HO5.out, HB5.out⟩
        case measure => simp [intOf]; omega
      | true =>
        rw [show told y.2.1 y.2.2.1 y.2.2.2.1 y.2.2.2.2.1 y.2.2.2.2.2.1 y.2.2.2.2.2.2 = true from ht] at cT
        have CT := Lib.hid cT
        rw [ht, if_pos rfl] at hst0
        have HST0 := Lib.hid hst0
        have cL := fun W => rlevel_any y.2.1 y.2.2.1 y.2.2.2.1 y.2.2.2.2.1 y.2.2.2.2.2.1 y.2.2.2.2.2.2 W
        unfold levV at cL
        rw [if_pos (show told y.2.1 y.2.2.1 y.2.2.2.1 y.2.2.2.2.1 y.2.2.2.2.2.1 y.2.2.2.2.2.2 = true from ht)] at cL
        have CL := Lib.hid cL
        clear hst0 ht cT cL
        go_wp2_with fail
        refine (CT.out _).mono ?_
        rintro e V0 ⟨rfl, hb0⟩
        have HB0 := Lib.hid (HB.out.trans (hb0.mono HB.out.size))
        have HO0 := Lib.hid (HO.out.below hb0)
        clear hb0 p0 p1 p2 p3 p4 p5 p6 hB1
        obtain ⟨hB1, p0, p1, p2, p3, p4, p5, p6⟩ := (HV.out.below HB0.out).all hlt
        rw [HY.out] at p0 p1 p2 p3 p4 p5 p6
        go_wp2_with fail
        refine (CL.out _).mono ?_
        rintro e V1 ⟨rfl, hb⟩
        obtain ⟨v3, hv3⟩ : ∃ v3, lv3 y = v3 := ⟨_, rfl⟩
        obtain ⟨e1, e2, e3⟩ : y.2.2.1 = v3.1 ∧ y.2.2.2.1 = v3.2.1 ∧ y.2.2.2.2.1 = v3.2.2 := by rw [← hv3]; exact ⟨rfl, rfl, rfl⟩
        rw [e1, e2, e3]
        obtain ⟨VL, hVL⟩ : ∃ VL, V1.alloc (.cells #[.int .i64 v3.1, .int .i64 v3.2.1, .int .i64 v3.2.2] 49) = VL := ⟨_, rfl⟩
        have hbL : Below V0.heap.size V0 VL := hVL ▸ hb.alloc hb.size _
        have hc3 : C3 VL V1.heap.size 0 v3 := by rw [← hVL]; exact gc_three (gc_alloc RL V1 v3 V1.heap.size rfl 49)
        have hgv : V1.heap.size < VL.heap.size := World.block_lt_of_cell? VL _ hc3.1
        have HBL := Lib.hid (HB0.out.trans (hbL.mono HB0.out.size))
        have HOL := Lib.hid (HO0.out.below hbL)
        have HC3 := Lib.hid (And.intro hc3 hgv)
        have HVL := Lib.hid hVL
        have HV3 := Lib.hid hv3
        clear hb hVL hbL hc3 hgv hv3 e1 e2 e3 p0 p1 p2 p3 p4 p5 p6 hB1 HB0 HO0 HB HO
        go_upto_region 7 with (fail)
        rw [HVL.out]
        go_wp2_with fail
        go_loopw [6, 7, 8] (fun mv dv kv wr => ∃ (j : Nat) (ma : Option Addr) (mc : Nat) (ms : List Lv) (dn : Bool), j ≤ os.length ∧ kv = .int .i64 j ∧ dv = .bool dn ∧ mv = .slice ma ms.length mc ∧ Hid ((os.take j).foldl (lvS v3) ([], false) = (ms, dn)) ∧ Hid (OwL wr VL.heap.size (.slice ma ms.length mc) ms) ∧ Hid (Below VL.heap.size VL wr)) (fun _ _ kv _ => os.length - (intOf kv).toNat)
        case atStart => exact ⟨0, none, 0, [], false, Nat.zero_le _, rfl, rfl, rfl, rfl, OwL_nil VL _, Below.refl _ _⟩
        case round =>
          obtain ⟨j, ma, mc, ms, dn, hj, rfl, rfl, rfl, HF2, HO2, HB2⟩ := hrel
          have hml : ms.length ≤ j + dn.toNat := by
            have h1 := lvs_len v3 (os.take j) ([], false) 0 (by simp)
            rw [HF2.out, List.length_take] at h1
            simp only at h1
            omega
          by_cases hjt : j < os.length
          · have hst := lvs_step v3 os j hjt
            rw [HF2.out] at hst
            obtain ⟨b2, off, rfl, hB, hx3⟩ := HOL.out.at hjt
            obtain ⟨x, hx⟩ : ∃ x, os.getD j (0, 0, 0) = x := ⟨_, rfl⟩
            rw [hx] at hst hx3
            clear hx
            have KC : Hid (∀ W, Below VL.heap.size VL W → C3 W V1.heap.size 0 v3 ∧ C3 W b2 (off + j * 3) x) := fun W hb => ⟨HC3.out.1.below hb HC3.out.2, hx3.below hb hB⟩
            clear hx3 hB
            have kc : ∀ w', Below wr.heap.size wr w' → (w'.cell? ⟨V1.heap.size, 0, none⟩ = some (.int .i64 v3.1) ∧ w'.cell? ⟨V1.heap.size, 1, none⟩ = some (.int .i64 v3.2.1) ∧ w'.cell? ⟨V1.heap.size, 2, none⟩ = some (.int .i64 v3.2.2)) ∧ (w'.cell? ⟨b2, off + j * 3, none⟩ = some (.int .i64 x.1) ∧ w'.cell? ⟨b2, off + j * 3 + 1, none⟩ = some (.int .i64 x.2.1) ∧ w'.cell? ⟨b2, off + j * 3 + 2, none⟩ = some (.int .i64 x.2.2)) := fun w' hb => by
              have h1 := KC.out w' (HB2.out.trans (hb.mono HB2.out.size))
              simp only [C3, Nat.zero_add] at h1
              exact h1
            have cO := fun W => rorder_any v3.1 v3.2.1 v3.2.2 x.1 x.2.1 x.2.2 W
            obtain ⟨o, ho⟩ : ∃ o, ordL v3.1 v3.2.1 v3.2.2 x.1 x.2.1 x.2.2 = o := ⟨_, rfl⟩
            have ho2 : cmpL (lrow v3) (lrow x) = o := ho
            rw [ho] at cO
            clear ho
            cases dn with
            | true =>
              have hs1 : lvS v3 (ms, true) x = if x = v3 then (ms, true) else (ms ++ [x], true) := by unfold lvS; simp
              clear ho2
              simp only [Bool.toNat_true] at hml
              go_upto_region 12 with (fail)
              refine wp_region_typed (C := fun w' => Below wr.heap.size wr w') (X := fun w w' => Below w.heap.size w w') (n := 70) (by kernel_rfl) (by kernel_rfl) rfl (fun w => Below.refl _ w) (Below.refl _ _).drew ?_
              refine w_is (fun w => Below.refl _ w) _ (.inl rfl) (fun ρ w hC hc hfn hf => by have e7 : ρ (.tmp 7) = _ := hf 7 (by decide); (conv => lhs; simp [execOp, go_sem, hc, e7])) ?_
              refine w_is (fun w => Below.refl _ w) _ (.inl rfl) (fun ρ w hC hc hfn hf => by have e34 : ρ (.tmp 34) = _ := hf 34 (by decide); (conv => lhs; simp [execOp, go_sem, hc, e34])) ?_
              refine w_is (fun w => Below.refl _ w) _ (.inl rfl) (fun ρ w hC hc hfn hf => by have e35 : ρ (.tmp 35) = _ := hf 35 (by decide); (conv => lhs; simp [execOp, go_sem, hc, e35])) ?_
              refine w_skip rfl rfl (known_is rfl) ?_
              refine w_skip rfl rfl (known_is rfl) ?_
              refine w_skip rfl rfl (known_is rfl) ?_
              refine w_skip rfl rfl (known_is rfl) ?_
              refine w_skip rfl rfl (known_is rfl) ?_
              refine w_skip rfl rfl (known_is rfl) ?_
              refine w_skip rfl rfl (known_is rfl) ?_
              refine w_is (fun w => Below.refl _ w) _ (.inl rfl) (fun ρ w hC hc hfn hf => by have e36 : ρ (.tmp 36) = _ := hf 36 (by decide); have e43 : ρ (.tmp 43) = _ := hf 43 (by decide); (conv => lhs; simp [execOp, go_sem, hc, e36, e43])) ?_
              intro A V5 hC hn hd hf
              have y0 : A.eval (.tmp 0) = _ := Eq.trans (hf 0) (by conv => lhs; simp [go_sem])
              have y1 : A.eval (.tmp 1) = _ := Eq.trans (hf 1) (by conv => lhs; simp [go_sem])
              have y2 : A.eval (.tmp 2) = _ := Eq.trans (hf 2) (by conv => lhs; simp [go_sem])
              have y3 : A.eval (.tmp 3) = _ := Eq.trans (hf 3) (by conv => lhs; simp [go_sem])
              have y4 : A.eval (.tmp 4) = _ := Eq.trans (hf 4) (by conv => lhs; simp [go_sem])
              have y5 : A.eval (.tmp 5) = _ := Eq.trans (hf 5) (by conv => lhs; simp [go_sem])
              have y6 : A.eval (.tmp 6) = _ := Eq.trans (hf 6) (by conv => lhs; simp [go_sem])
              have y7 : A.eval (.tmp 7) = _ := Eq.trans (hf 7) (by conv => lhs; simp [go_sem])
              have y8 : A.eval (.tmp 8) = _ := Eq.trans (hf 8) (by conv => lhs; simp [go_sem])
              have y9 : A.eval (.tmp 9) = _ := Eq.trans (hf 9) (by conv => lhs; simp [go_sem])
              have y10 : A.eval (.tmp 10) = _ := Eq.trans (hf 10) (by conv => lhs; simp [go_sem])
              have y11 : A.eval (.tmp 11) = _ := Eq.trans (hf 11) (by conv => lhs; simp [go_sem])
              have y12 : A.eval (.tmp 12) = _ := Eq.trans (hf 12) (by conv => lhs; simp [go_sem])
              have y13 : A.eval (.tmp 13) = _ := Eq.trans (hf 13) (by conv => lhs; simp [go_sem])
              have y14 : A.eval (.tmp 14) = _ := Eq.trans (hf 14) (by conv => lhs; simp [go_sem])
              have y15 : A.eval (.tmp 15) = _ := Eq.trans (hf 15) (by conv => lhs; simp [go_sem])
              have y16 : A.eval (.tmp 16) = _ := Eq.trans (hf 16) (by conv => lhs; simp [go_sem])
              have y17 : A.eval (.tmp 17) = _ := Eq.trans (hf 17) (by conv => lhs; simp [go_sem])
              have y18 : A.eval (.tmp 18) = _ := Eq.trans (hf 18) (by conv => lhs; simp [go_sem])
              have y19 : A.eval (.tmp 19) = _ := Eq.trans (hf 19) (by conv => lhs; simp [go_sem])
              have y20 : A.eval (.tmp 20) = _ := Eq.trans (hf 20) (by conv => lhs; simp [go_sem])
              have y21 : A.eval (.tmp 21) = _ := Eq.trans (hf 21) (by conv => lhs; simp [go_sem])
              have y22 : A.eval (.tmp 22) = _ := Eq.trans (hf 22) (by conv => lhs; simp [go_sem])
              have y23 : A.eval (.tmp 23) = _ := Eq.trans (hf 23) (by conv => lhs; simp [go_sem])
              have y24 : A.eval (.tmp 24) = _ := Eq.trans (hf 24) (by conv => lhs; simp [go_sem])
              have y25 : A.eval (.tmp 25) = _ := Eq.trans (hf 25) (by conv => lhs; simp [go_sem])
              have y26 : A.eval (.tmp 26) = _ := Eq.trans (hf 26) (by conv => lhs; simp [go_sem])
              have y27 : A.eval (.tmp 27) = _ := Eq.trans (hf 27) (by conv => lhs; simp [go_sem])
              have y28 : A.eval (.tmp 28) = _ := Eq.trans (hf 28) (by conv => lhs; simp [go_sem])
              have y29 : A.eval (.tmp 29) = _ := Eq.trans (hf 29) (by conv => lhs; simp [go_sem])
              have y30 : A.eval (.tmp 30) = _ := Eq.trans (hf 30) (by conv => lhs; simp [go_sem])
              have y31 : A.eval (.tmp 31) = _ := Eq.trans (hf 31) (by conv => lhs; simp [go_sem])
              have y32 : A.eval (.tmp 32) = _ := Eq.trans (hf 32) (by conv => lhs; simp [go_sem])
              have y33 : A.eval (.tmp 33) = _ := Eq.trans (hf 33) (by conv => lhs; simp [go_sem])
              have y34 : A.eval (.tmp 34) = _ := hf 34
              have y35 : A.eval (.tmp 35) = _ := hf 35
              have y36 : A.eval (.tmp 36) = _ := hf 36
              have y37 : A.eval (.tmp 37) = _ := hf 37
              have y38 : A.eval (.tmp 38) = _ := hf 38
              have y39 : A.eval (.tmp 39) = _ := hf 39
              have y40 : A.eval (.tmp 40) = _ := hf 40
              have y41 : A.eval (.tmp 41) = _ := hf 41
              have y42 : A.eval (.tmp 42) = _ := hf 42
              have y43 : A.eval (.tmp 43) = _ := hf 43
              have y44 : A.eval (.tmp 44) = _ := hf 44
              have y45 : A.eval (.tmp 45) = _ := Eq.trans (hf 45) (by conv => lhs; simp [go_sem])
              have y46 : A.eval (.tmp 46) = _ := Eq.trans (hf 46) (by conv => lhs; simp [go_sem])
              have y47 : A.eval (.tmp 47) = _ := Eq.trans (hf 47) (by conv => lhs; simp [go_sem])
              have y48 : A.eval (.tmp 48) = _ := Eq.trans (hf 48) (by conv => lhs; simp [go_sem])
              have y49 : A.eval (.tmp 49) = _ := Eq.trans (hf 49) (by conv => lhs; simp [go_sem])
              have y50 : A.eval (.tmp 50) = _ := Eq.trans (hf 50) (by conv => lhs; simp [go_sem])
              have y51 : A.eval (.tmp 51) = _ := Eq.trans (hf 51) (by conv => lhs; simp [go_sem])
              have y52 : A.eval (.tmp 52) = _ := Eq.trans (hf 52) (by conv => lhs; simp [go_sem])
              have y53 : A.eval (.tmp 53) = _ := Eq.trans (hf 53) (by conv => lhs; simp [go_sem])
              have y54 : A.eval (.tmp 54) = _ := Eq.trans (hf 54) (by conv => lhs; simp [go_sem])
              have y55 : A.eval (.tmp 55) = _ := Eq.trans (hf 55) (by conv => lhs; simp [go_sem])
              have y56 : A.eval (.tmp 56) = _ := Eq.trans (hf 56) (by conv => lhs; simp [go_sem])
              have y57 : A.eval (.tmp 57) = _ := Eq.trans (hf 57) (by conv => lhs; simp [go_sem])
              have y58 : A.eval (.tmp 58) = _ := Eq.trans (hf 58) (by conv => lhs; simp [go_sem])
              have y59 : A.eval (.tmp 59) = _ := Eq.trans (hf 59) (by conv => lhs; simp [go_sem])
              have y60 : A.eval (.tmp 60) = _ := Eq.trans (hf 60) (by conv => lhs; simp [go_sem])
              have y61 : A.eval (.tmp 61) = _ := Eq.trans (hf 61) (by conv => lhs; simp [go_sem])
              have y62 : A.eval (.tmp 62) = _ := Eq.trans (hf 62) (by conv => lhs; simp [go_sem])
              have y63 : A.eval (.tmp 63) = _ := Eq.trans (hf 63) (by conv => lhs; simp [go_sem])
              have y64 : A.eval (.tmp 64) = _ := Eq.trans (hf 64) (by conv => lhs; simp [go_sem])
              have y65 : A.eval (.tmp 65) = _ := Eq.trans (hf 65) (by conv => lhs; simp [go_sem])
              have y66 : A.eval (.tmp 66) = _ := Eq.trans (hf 66) (by conv => lhs; simp [go_sem])
              have y67 : A.eval (.tmp 67) = _ := Eq.trans (hf 67) (by conv => lhs; simp [go_sem])
              have y68 : A.eval (.tmp 68) = _ := Eq.trans (hf 68) (by conv => lhs; simp [go_sem])
              have y69 : A.eval (.tmp 69) = _ := Eq.trans (hf 69) (by conv => lhs; simp [go_sem])
              clear hf
              have hA := frame_eq hn
              rw [show List.range 70 = [0, 1, 2, 3, 4, 5, 6, 7, 8, 9, 10, 11, 12, 13, 14, 15, 16, 17, 18, 19, 20, 21, 22, 23, 24, 25, 26, 27, 28, 29, 30, 31, 32, 33, 34, 35, 36, 37, 38, 39, 40, 41, 42, 43, 44, 45, 46, 47, 48, 49, 50, 51, 52, 53, 54, 55, 56, 57, 58, 59, 60, 61, 62, 63, 64, 65, 66, 67, 68, 69] from rfl, hd] at hA
              simp only [List.map_cons, List.map_nil, y0, y1, y2, y3, y4, y5, y6, y7, y8, y9, y10, y11, y12, y13, y14, y15, y16, y17, y18, y19, y20, y21, y22, y23, y24, y25, y26, y27, y28, y29, y30, y31, y32, y33, y34, y35, y36, y37, y38, y39, y40, y41, y42, y43, y44, y45, y46, y47, y48, y49, y50, y51, y52, y53, y54, y55, y56, y57, y58, y59, y60, y61, y62, y63, y64, y65, y66, y67, y68, y69] at hA
              clear y0 y1 y2 y3 y4 y5 y6 y7 y8 y9 y10 y11 y12 y13 y14 y15 y16 y17 y18 y19 y20 y21 y22 y23 y24 y25 y26 y27 y28 y29 y30 y31 y32 y33 y34 y35 y36 y37 y38 y39 y40 y41 y42 y43 y44 y45 y46 y47 y48 y49 y50 y51 y52 y53 y54 y55 y56 y57 y58 y59 y60 y61 y62 y63 y64 y65 y66 y67 y68 y69
              clear hn hd
              subst hA
              have HB5 := Lib.hid (HB2.out.trans (hC.mono HB2.out.size))
              have HO5 := Lib.hid (HO2.out.below hC)
              clear hC kc HB2 HO2 cO
              go_wp2_with fail
              have kc5 : ∀ w', Below V5.heap.size V5 w' → (w'.cell? ⟨V1.heap.size, 0, none⟩ = some (.int .i64 v3.1) ∧ w'.cell? ⟨V1.heap.size, 1, none⟩ = some (.int .i64 v3.2.1) ∧ w'.cell? ⟨V1.heap.size, 2, none⟩ = some (.int .i64 v3.2.2)) ∧ (w'.cell? ⟨b2, off + j * 3, none⟩ = some (.int .i64 x.1) ∧ w'.cell? ⟨b2, off + j * 3 + 1, none⟩ = some (.int .i64 x.2.1) ∧ w'.cell? ⟨b2, off + j * 3 + 2, none⟩ = some (.int .i64 x.2.2)) := fun w' hb => by
                have h1 := KC.out w' (HB5.out.trans (hb.mono HB5.out.size))
                simp only [C3, Nat.zero_add] at h1
                exact h1
              by_cases he : x = v3
              · have HST : Hid ((os.take (j + 1)).foldl (lvS v3) ([], false) = (ms, true)) := by
                  show _ = _
                  rw [hst, hs1, if_pos he]
                have hIf : ∀ {α : Type} (X Y : α), (if x.1 = v3.1 then if x.2.1 = v3.2.1 then if x.2.2 = v3.2.2 then X else Y else Y else Y) = X := by
                  intro α X Y
                  obtain ⟨h1, h2, h3⟩ : x.1 = v3.1 ∧ x.2.1 = v3.2.1 ∧ x.2.2 = v3.2.2 := by rw [he]; exact ⟨rfl, rfl, rfl⟩
                  rw [if_pos h1, if_pos h2, if_pos h3]
                clear he hst hs1
                go_upto_region 15 with (fail)
                refine wp_region_typed (C := fun w' => Below V5.heap.size V5 w') (X := fun w w' => Below w.heap.size w w') (n := 70) (by kernel_rfl) (by kernel_rfl) rfl (fun w => Below.refl _ w) (Below.refl _ _).drew ?_
                refine w_is (fun w => Below.refl _ w) _ (.inl rfl) (fun ρ w hC hc hfn hf => by have e3 : ρ (.tmp 3) = _ := hf 3 (by decide); (conv => lhs; simp [execOp, go_sem, hc, e3])) ?_
                refine w_is (fun w => Below.refl _ w) _ (.inl rfl) (fun ρ w hC hc hfn hf => by have e8 : ρ (.tmp 8) = _ := hf 8 (by decide); (conv => lhs; simp [execOp, go_sem, hc, e8])) ?_
                refine w_is (fun w => Below.refl _ w) _ (.inl rfl) (fun ρ w hC hc hfn hf => by have e49 : ρ (.tmp 49) = _ := hf 49 (by decide); have e50 : ρ (.tmp 50) = _ := hf 50 (by decide); (conv => lhs; simp [execOp, go_sem, hc, e49, e50, hjt])) ?_
                refine w_is (fun w => Below.refl _ w) _ (.inl rfl) (fun ρ w hC hc hfn hf => by have e51 : ρ (.tmp 51) = _ := hf 51 (by decide); (conv => lhs; simp [execOp, go_sem, hc, e51, kc5 w hC])) ?_
                refine w_is (fun w => Below.refl _ w) _ (.inl rfl) (fun ρ w hC hc hfn hf => by have e5 : ρ (.tmp 5) = _ := hf 5 (by decide); (conv => lhs; simp [execOp, go_sem, hc, e5, kc5 w hC])) ?_
                refine w_is (fun w => Below.refl _ w) _ (.inl rfl) (fun ρ w hC hc hfn hf => by have e52 : ρ (.tmp 52) = _ := hf 52 (by decide); have e53 : ρ (.tmp 53) = _ := hf 53 (by decide); (conv => lhs; simp [execOp, go_sem, hc, e52, e53, hIf, guard25])) ?_
                intro A V7 hC hn hd hf
                have y0 : A.eval (.tmp 0) = _ := Eq.trans (hf 0) (by conv => lhs; simp [go_sem])
                have y1 : A.eval (.tmp 1) = _ := Eq.trans (hf 1) (by conv => lhs; simp [go_sem])
                have y2 : A.eval (.tmp 2) = _ := Eq.trans (hf 2) (by conv => lhs; simp [go_sem])
                have y3 : A.eval (.tmp 3) = _ := Eq.trans (hf 3) (by conv => lhs; simp [go_sem])
                have y4 : A.eval (.tmp 4) = _ := Eq.trans (hf 4) (by conv => lhs; simp [go_sem])
                have y5 : A.eval (.tmp 5) = _ := Eq.trans (hf 5) (by conv => lhs; simp [go_sem])
                have y6 : A.eval (.tmp 6) = _ := Eq.trans (hf 6) (by conv => lhs; simp [go_sem])
                have y7 : A.eval (.tmp 7) = _ := Eq.trans (hf 7) (by conv => lhs; simp [go_sem])
                have y8 : A.eval (.tmp 8) = _ := Eq.trans (hf 8) (by conv => lhs; simp [go_sem])
                have y9 : A.eval (.tmp 9) = _ := Eq.trans (hf 9) (by conv => lhs; simp [go_sem])
                have y10 : A.eval (.tmp 10) = _ := Eq.trans (hf 10) (by conv => lhs; simp [go_sem])
                have y11 : A.eval (.tmp 11) = _ := Eq.trans (hf 11) (by conv => lhs; simp [go_sem])
                have y12 : A.eval (.tmp 12) = _ := Eq.trans (hf 12) (by conv => lhs; simp [go_sem])
                have y13 : A.eval (.tmp 13) = _ := Eq.trans (hf 13) (by conv => lhs; simp [go_sem])
                have y14 : A.eval (.tmp 14) = _ := Eq.trans (hf 14) (by conv => lhs; simp [go_sem])
                have y15 : A.eval (.tmp 15) = _ := Eq.trans (hf 15) (by conv => lhs; simp [go_sem])
                have y16 : A.eval (.tmp 16) = _ := Eq.trans (hf 16) (by conv => lhs; simp [go_sem])
                have y17 : A.eval (.tmp 17) = _ := Eq.trans (hf 17) (by conv => lhs; simp [go_sem])
                have y18 : A.eval (.tmp 18) = _ := Eq.trans (hf 18) (by conv => lhs; simp [go_sem])
                have y19 : A.eval (.tmp 19) = _ := Eq.trans (hf 19) (by conv => lhs; simp [go_sem])
                have y20 : A.eval (.tmp 20) = _ := Eq.trans (hf 20) (by conv => lhs; simp [go_sem])
                have y21 : A.eval (.tmp 21) = _ := Eq.trans (hf 21) (by conv => lhs; simp [go_sem])
                have y22 : A.eval (.tmp 22) = _ := Eq.trans (hf 22) (by conv => lhs; simp [go_sem])
                have y23 : A.eval (.tmp 23) = _ := Eq.trans (hf 23) (by conv => lhs; simp [go_sem])
                have y24 : A.eval (.tmp 24) = _ := Eq.trans (hf 24) (by conv => lhs; simp [go_sem])
                have y25 : A.eval (.tmp 25) = _ := Eq.trans (hf 25) (by conv => lhs; simp [go_sem])
                have y26 : A.eval (.tmp 26) = _ := Eq.trans (hf 26) (by conv => lhs; simp [go_sem])
                have y27 : A.eval (.tmp 27) = _ := Eq.trans (hf 27) (by conv => lhs; simp [go_sem])
                have y28 : A.eval (.tmp 28) = _ := Eq.trans (hf 28) (by conv => lhs; simp [go_sem])
                have y29 : A.eval (.tmp 29) = _ := Eq.trans (hf 29) (by conv => lhs; simp [go_sem])
                have y30 : A.eval (.tmp 30) = _ := Eq.trans (hf 30) (by conv => lhs; simp [go_sem])
                have y31 : A.eval (.tmp 31) = _ := Eq.trans (hf 31) (by conv => lhs; simp [go_sem])
                have y32 : A.eval (.tmp 32) = _ := Eq.trans (hf 32) (by conv => lhs; simp [go_sem])
                have y33 : A.eval (.tmp 33) = _ := Eq.trans (hf 33) (by conv => lhs; simp [go_sem])
                have y34 : A.eval (.tmp 34) = _ := Eq.trans (hf 34) (by conv => lhs; simp [go_sem])
                have y35 : A.eval (.tmp 35) = _ := Eq.trans (hf 35) (by conv => lhs; simp [go_sem])
                have y36 : A.eval (.tmp 36) = _ := Eq.trans (hf 36) (by conv => lhs; simp [go_sem])
                have y37 : A.eval (.tmp 37) = _ := Eq.trans (hf 37) (by conv => lhs; simp [go_sem])
                have y38 : A.eval (.tmp 38) = _ := Eq.trans (hf 38) (by conv => lhs; simp [go_sem])
                have y39 : A.eval (.tmp 39) = _ := Eq.trans (hf 39) (by conv => lhs; simp [go_sem])
                have y40 : A.eval (.tmp 40) = _ := Eq.trans (hf 40) (by conv => lhs; simp [go_sem])
                have y41 : A.eval (.tmp 41) = _ := Eq.trans (hf 41) (by conv => lhs; simp [go_sem])
                have y42 : A.eval (.tmp 42) = _ := Eq.trans (hf 42) (by conv => lhs; simp [go_sem])
                have y43 : A.eval (.tmp 43) = _ := Eq.trans (hf 43) (by conv => lhs; simp [go_sem])
                have y44 : A.eval (.tmp 44) = _ := Eq.trans (hf 44) (by conv => lhs; simp [go_sem])
                have y45 : A.eval (.tmp 45) = _ := Eq.trans (hf 45) (by conv => lhs; simp [go_sem])
                have y46 : A.eval (.tmp 46) = _ := Eq.trans (hf 46) (by conv => lhs; simp [go_sem])
                have y47 : A.eval (.tmp 47) = _ := Eq.trans (hf 47) (by conv => lhs; simp [go_sem])
                have y48 : A.eval (.tmp 48) = _ := Eq.trans (hf 48) (by conv => lhs; simp [go_sem])
                have y49 : A.eval (.tmp 49) = _ := hf 49
                have y50 : A.eval (.tmp 50) = _ := hf 50
                have y51 : A.eval (.tmp 51) = _ := hf 51
                have y52 : A.eval (.tmp 52) = _ := hf 52
                have y53 : A.eval (.tmp 53) = _ := hf 53
                have y54 : A.eval (.tmp 54) = _ := hf 54
                have y55 : A.eval (.tmp 55) = _ := Eq.trans (hf 55) (by conv => lhs; simp [go_sem])
                have y56 : A.eval (.tmp 56) = _ := Eq.trans (hf 56) (by conv => lhs; simp [go_sem])
                have y57 : A.eval (.tmp 57) = _ := Eq.trans (hf 57) (by conv => lhs; simp [go_sem])
                have y58 : A.eval (.tmp 58) = _ := Eq.trans (hf 58) (by conv => lhs; simp [go_sem])
                have y59 : A.eval (.tmp 59) = _ := Eq.trans (hf 59) (by conv => lhs; simp [go_sem])
                have y60 : A.eval (.tmp 60) = _ := Eq.trans (hf 60) (by conv => lhs; simp [go_sem])
                have y61 : A.eval (.tmp 61) = _ := Eq.trans (hf 61) (by conv => lhs; simp [go_sem])
                have y62 : A.eval (.tmp 62) = _ := Eq.trans (hf 62) (by conv => lhs; simp [go_sem])
                have y63 : A.eval (.tmp 63) = _ := Eq.trans (hf 63) (by conv => lhs; simp [go_sem])
                have y64 : A.eval (.tmp 64) = _ := Eq.trans (hf 64) (by conv => lhs; simp [go_sem])
                have y65 : A.eval (.tmp 65) = _ := Eq.trans (hf 65) (by conv => lhs; simp [go_sem])
                have y66 : A.eval (.tmp 66) = _ := Eq.trans (hf 66) (by conv => lhs; simp [go_sem])
                have y67 : A.eval (.tmp 67) = _ := Eq.trans (hf 67) (by conv => lhs; simp [go_sem])
                have y68 : A.eval (.tmp 68) = _ := Eq.trans (hf 68) (by conv => lhs; simp [go_sem])
                have y69 : A.eval (.tmp 69) = _ := Eq.trans (hf 69) (by conv => lhs; simp [go_sem])
                clear hf
                have hA := frame_eq hn
                rw [show List.range 70 = [0, 1, 2, 3, 4, 5, 6, 7, 8, 9, 10, 11, 12, 13, 14, 15, 16, 17, 18, 19, 20, 21, 22, 23, 24, 25, 26, 27, 28, 29, 30, 31, 32, 33, 34, 35, 36, 37, 38, 39, 40, 41, 42, 43, 44, 45, 46, 47, 48, 49, 50, 51, 52, 53, 54, 55, 56, 57, 58, 59, 60, 61, 62, 63, 64, 65, 66, 67, 68, 69] from rfl, hd] at hA
                simp only [List.map_cons, List.map_nil, y0, y1, y2, y3, y4, y5, y6, y7, y8, y9, y10, y11, y12, y13, y14, y15, y16, y17, y18, y19, y20, y21, y22, y23, y24, y25, y26, y27, y28, y29, y30, y31, y32, y33, y34, y35, y36, y37, y38, y39, y40, y41, y42, y43, y44, y45, y46, y47, y48, y49, y50, y51, y52, y53, y54, y55, y56, y57, y58, y59, y60, y61, y62, y63, y64, y65, y66, y67, y68, y69] at hA
                clear y0 y1 y2 y3 y4 y5 y6 y7 y8 y9 y10 y11 y12 y13 y14 y15 y16 y17 y18 y19 y20 y21 y22 y23 y24 y25 y26 y27 y28 y29 y30 y31 y32 y33 y34 y35 y36 y37 y38 y39 y40 y41 y42 y43 y44 y45 y46 y47 y48 y49 y50 y51 y52 y53 y54 y55 y56 y57 y58 y59 y60 y61 y62 y63 y64 y65 y66 y67 y68 y69
                clear hn hd
                subst hA
                have HB7 := Lib.hid (HB5.out.trans (hC.mono HB5.out.size))
                have HO7 := Lib.hid (HO5.out.below hC)
                clear hC kc5 hIf HB5 HO5
                go_wp2_with fail
                go_roundw
                case rel => exact ⟨j + 1, ma, mc, ms, true, by omega, by go_num, rfl, rfl, HST.out, HO7.out, HB7.out⟩
                case measure => simp [intOf]; omega
              · have HST : Hid ((os.take (j + 1)).foldl (lvS v3) ([], false) = (ms ++ [x], true)) := by
                  show _ = _
                  rw [hst, hs1, if_neg he]
                have hIf : ∀ {α : Type} (X Y : α), (if x.1 = v3.1 then if x.2.1 = v3.2.1 then if x.2.2 = v3.2.2 then X else Y else Y else Y) = Y := by
                  intro α X Y
                  by_cases h1 : x.1 = v3.1
                  · rw [if_pos h1]
                    by_cases h2 : x.2.1 = v3.2.1
                    · rw [if_pos h2, if_neg (fun h3 => he (Prod.ext h1 (Prod.ext h2 h3)))]
                    · rw [if_neg h2]
                  · rw [if_neg h1]
                clear he hst hs1
                go_upto_region 15 with (fail)
                refine wp_region_typed (C := fun w' => Below V5.heap.size V5 w') (X := fun w w' => Below w.heap.size w w') (n := 70) (by kernel_rfl) (by kernel_rfl) rfl (fun w => Below.refl _ w) (Below.refl _ _).drew ?_
                refine w_is (fun w => Below.refl _ w) _ (.inl rfl) (fun ρ w hC hc hfn hf => by have e3 : ρ (.tmp 3) = _ := hf 3 (by decide); (conv => lhs; simp [execOp, go_sem, hc, e3])) ?_
                refine w_is (fun w => Below.refl _ w) _ (.inl rfl) (fun ρ w hC hc hfn hf => by have e8 : ρ (.tmp 8) = _ := hf 8 (by decide); (conv => lhs; simp [execOp, go_sem, hc, e8])) ?_
                refine w_is (fun w => Below.refl _ w) _ (.inl rfl) (fun ρ w hC hc hfn hf => by have e49 : ρ (.tmp 49) = _ := hf 49 (by decide); have e50 : ρ (.tmp 50) = _ := hf 50 (by decide); (conv => lhs; simp [execOp, go_sem, hc, e49, e50, hjt])) ?_
                refine w_is (fun w => Below.refl _ w) _ (.inl rfl) (fun ρ w hC hc hfn hf => by have e51 : ρ (.tmp 51) = _ := hf 51 (by decide); (conv => lhs; simp [execOp, go_sem, hc, e51, kc5 w hC])) ?_
                refine w_is (fun w => Below.refl _ w) _ (.inl rfl) (fun ρ w hC hc hfn hf => by have e5 : ρ (.tmp 5) = _ := hf 5 (by decide); (conv => lhs; simp [execOp, go_sem, hc, e5, kc5 w hC])) ?_
                refine w_is (fun w => Below.refl _ w) _ (.inl rfl) (fun ρ w hC hc hfn hf => by have e52 : ρ (.tmp 52) = _ := hf 52 (by decide); have e53 : ρ (.tmp 53) = _ := hf 53 (by decide); (conv => lhs; simp [execOp, go_sem, hc, e52, e53, hIf, guard25])) ?_
                intro A V7 hC hn hd hf
                have y0 : A.eval (.tmp 0) = _ := Eq.trans (hf 0) (by conv => lhs; simp [go_sem])
                have y1 : A.eval (.tmp 1) = _ := Eq.trans (hf 1) (by conv => lhs; simp [go_sem])
                have y2 : A.eval (.tmp 2) = _ := Eq.trans (hf 2) (by conv => lhs; simp [go_sem])
                have y3 : A.eval (.tmp 3) = _ := Eq.trans (hf 3) (by conv => lhs; simp [go_sem])
                have y4 : A.eval (.tmp 4) = _ := Eq.trans (hf 4) (by conv => lhs; simp [go_sem])
                have y5 : A.eval (.tmp 5) = _ := Eq.trans (hf 5) (by conv => lhs; simp [go_sem])
                have y6 : A.eval (.tmp 6) = _ := Eq.trans (hf 6) (by conv => lhs; simp [go_sem])
                have y7 : A.eval (.tmp 7) = _ := Eq.trans (hf 7) (by conv => lhs; simp [go_sem])
                have y8 : A.eval (.tmp 8) = _ := Eq.trans (hf 8) (by conv => lhs; simp [go_sem])
                have y9 : A.eval (.tmp 9) = _ := Eq.trans (hf 9) (by conv => lhs; simp [go_sem])
                have y10 : A.eval (.tmp 10) = _ := Eq.trans (hf 10) (by conv => lhs; simp [go_sem])
                have y11 : A.eval (.tmp 11) = _ := Eq.trans (hf 11) (by conv => lhs; simp [go_sem])
                have y12 : A.eval (.tmp 12) = _ := Eq.trans (hf 12) (by conv => lhs; simp [go_sem])
                have y13 : A.eval (.tmp 13) = _ := Eq.trans (hf 13) (by conv => lhs; simp [go_sem])
                have y14 : A.eval (.tmp 14) = _ := Eq.trans (hf 14) (by conv => lhs; simp [go_sem])
                have y15 : A.eval (.tmp 15) = _ := Eq.trans (hf 15) (by conv => lhs; simp [go_sem])
                have y16 : A.eval (.tmp 16) = _ := Eq.trans (hf 16) (by conv => lhs; simp [go_sem])
                have y17 : A.eval (.tmp 17) = _ := Eq.trans (hf 17) (by conv => lhs; simp [go_sem])
                have y18 : A.eval (.tmp 18) = _ := Eq.trans (hf 18) (by conv => lhs; simp [go_sem])
                have y19 : A.eval (.tmp 19) = _ := Eq.trans (hf 19) (by conv => lhs; simp [go_sem])
                have y20 : A.eval (.tmp 20) = _ := Eq.trans (hf 20) (by conv => lhs; simp [go_sem])
                have y21 : A.eval (.tmp 21) = _ := Eq.trans (hf 21) (by conv => lhs; simp [go_sem])
                have y22 : A.eval (.tmp 22) = _ := Eq.trans (hf 22) (by conv => lhs; simp [go_sem])
                have y23 : A.eval (.tmp 23) = _ := Eq.trans (hf 23) (by conv => lhs; simp [go_sem])
                have y24 : A.eval (.tmp 24) = _ := Eq.trans (hf 24) (by conv => lhs; simp [go_sem])
                have y25 : A.eval (.tmp 25) = _ := Eq.trans (hf 25) (by conv => lhs; simp [go_sem])
                have y26 : A.eval (.tmp 26) = _ := Eq.trans (hf 26) (by conv => lhs; simp [go_sem])
                have y27 : A.eval (.tmp 27) = _ := Eq.trans (hf 27) (by conv => lhs; simp [go_sem])
                have y28 : A.eval (.tmp 28) = _ := Eq.trans (hf 28) (by conv => lhs; simp [go_sem])
                have y29 : A.eval (.tmp 29) = _ := Eq.trans (hf 29) (by conv => lhs; simp [go_sem])
                have y30 : A.eval (.tmp 30) = _ := Eq.trans (hf 30) (by conv => lhs; simp [go_sem])
                have y31 : A.eval (.tmp 31) = _ := Eq.trans (hf 31) (by conv => lhs; simp [go_sem])
                have y32 : A.eval (.tmp 32) = _ := Eq.trans (hf 32) (by conv => lhs; simp [go_sem])
                have y33 : A.eval (.tmp 33) = _ := Eq.trans (hf 33) (by conv => lhs; simp [go_sem])
                have y34 : A.eval (.tmp 34) = _ := Eq.trans (hf 34) (by conv => lhs; simp [go_sem])
                have y35 : A.eval (.tmp 35) = _ := Eq.trans (hf 35) (by conv => lhs; simp [go_sem])
                have y36 : A.eval (.tmp 36) = _ := Eq.trans (hf 36) (by conv => lhs; simp [go_sem])
                have y37 : A.eval (.tmp 37) = _ := Eq.trans (hf 37) (by conv => lhs; simp [go_sem])
                have y38 : A.eval (.tmp 38) = _ := Eq.trans (hf 38) (by conv => lhs; simp [go_sem])
                have y39 : A.eval (.tmp 39) = _ := Eq.trans (hf 39) (by conv => lhs; simp [go_sem])
                have y40 : A.eval (.tmp 40) = _ := Eq.trans (hf 40) (by conv => lhs; simp [go_sem])
                have y41 : A.eval (.tmp 41) = _ := Eq.trans (hf 41) (by conv => lhs; simp [go_sem])
                have y42 : A.eval (.tmp 42) = _ := Eq.trans (hf 42) (by conv => lhs; simp [go_sem])
                have y43 : A.eval (.tmp 43) = _ := Eq.trans (hf 43) (by conv => lhs; simp [go_sem])
                have y44 : A.eval (.tmp 44) = _ := Eq.trans (hf 44) (by conv => lhs; simp [go_sem])
                have y45 : A.eval (.tmp 45) = _ := Eq.trans (hf 45) (by conv => lhs; simp [go_sem])
                have y46 : A.eval (.tmp 46) = _ := Eq.trans (hf 46) (by conv => lhs; simp [go_sem])
                have y47 : A.eval (.tmp 47) = _ := Eq.trans (hf 47) (by conv => lhs; simp [go_sem])
                have y48 : A.eval (.tmp 48) = _ := Eq.trans (hf 48) (by conv => lhs; simp [go_sem])
                have y49 : A.eval (.tmp 49) = _ := hf 49
                have y50 : A.eval (.tmp 50) = _ := hf 50
                have y51 : A.eval (.tmp 51) = _ := hf 51
                have y52 : A.eval (.tmp 52) = _ := hf 52
                have y53 : A.eval (.tmp 53) = _ := hf 53
                have y54 : A.eval (.tmp 54) = _ := hf 54
                have y55 : A.eval (.tmp 55) = _ := Eq.trans (hf 55) (by conv => lhs; simp [go_sem])
                have y56 : A.eval (.tmp 56) = _ := Eq.trans (hf 56) (by conv => lhs; simp [go_sem])
                have y57 : A.eval (.tmp 57) = _ := Eq.trans (hf 57) (by conv => lhs; simp [go_sem])
                have y58 : A.eval (.tmp 58) = _ := Eq.trans (hf 58) (by conv => lhs; simp [go_sem])
                have y59 : A.eval (.tmp 59) = _ := Eq.trans (hf 59) (by conv => lhs; simp [go_sem])
                have y60 : A.eval (.tmp 60) = _ := Eq.trans (hf 60) (by conv => lhs; simp [go_sem])
                have y61 : A.eval (.tmp 61) = _ := Eq.trans (hf 61) (by conv => lhs; simp [go_sem])
                have y62 : A.eval (.tmp 62) = _ := Eq.trans (hf 62) (by conv => lhs; simp [go_sem])
                have y63 : A.eval (.tmp 63) = _ := Eq.trans (hf 63) (by conv => lhs; simp [go_sem])
                have y64 : A.eval (.tmp 64) = _ := Eq.trans (hf 64) (by conv => lhs; simp [go_sem])
                have y65 : A.eval (.tmp 65) = _ := Eq.trans (hf 65) (by conv => lhs; simp [go_sem])
                have y66 : A.eval (.tmp 66) = _ := Eq.trans (hf 66) (by conv => lhs; simp [go_sem])
                have y67 : A.eval (.tmp 67) = _ := Eq.trans (hf 67) (by conv => lhs; simp [go_sem])
                have y68 : A.eval (.tmp 68) = _ := Eq.trans (hf 68) (by conv => lhs; simp [go_sem])
                have y69 : A.eval (.tmp 69) = _ := Eq.trans (hf 69) (by conv => lhs; simp [go_sem])
                clear hf
                have hA := frame_eq hn
                rw [show List.range 70 = [0, 1, 2, 3, 4, 5, 6, 7, 8, 9, 10, 11, 12, 13, 14, 15, 16, 17, 18, 19, 20, 21, 22, 23, 24, 25, 26, 27, 28, 29, 30, 31, 32, 33, 34, 35, 36, 37, 38, 39, 40, 41, 42, 43, 44, 45, 46, 47, 48, 49, 50, 51, 52, 53, 54, 55, 56, 57, 58, 59, 60, 61, 62, 63, 64, 65, 66, 67, 68, 69] from rfl, hd] at hA
                simp only [List.map_cons, List.map_nil, y0, y1, y2, y3, y4, y5, y6, y7, y8, y9, y10, y11, y12, y13, y14, y15, y16, y17, y18, y19, y20, y21, y22, y23, y24, y25, y26, y27, y28, y29, y30, y31, y32, y33, y34, y35, y36, y37, y38, y39, y40, y41, y42, y43, y44, y45, y46, y47, y48, y49, y50, y51, y52, y53, y54, y55, y56, y57, y58, y59, y60, y61, y62, y63, y64, y65, y66, y67, y68, y69] at hA
                clear y0 y1 y2 y3 y4 y5 y6 y7 y8 y9 y10 y11 y12 y13 y14 y15 y16 y17 y18 y19 y20 y21 y22 y23 y24 y25 y26 y27 y28 y29 y30 y31 y32 y33 y34 y35 y36 y37 y38 y39 y40 y41 y42 y43 y44 y45 y46 y47 y48 y49 y50 y51 y52 y53 y54 y55 y56 y57 y58 y59 y60 y61 y62 y63 y64 y65 y66 y67 y68 y69
                clear hn hd
                subst hA
                have HB7 := Lib.hid (HB5.out.trans (hC.mono HB5.out.size))
                have HO7 := Lib.hid (HO5.out.below hC)
                have HSW : Hid (VL.heap.size ≤ V7.heap.size) := HB7.out.size
                have HLE1 : Hid (ms.length ≤ 3000) := by show _ ≤ _; omega
                obtain ⟨_, p0, p1, p2⟩ := kc5 V7 hC
                clear hC kc5 hIf HB5 HO5
                go_wp2_with (at_builtin; refine lapp1_any rfl (.tmp 55) (.tmp 60) rfl V7 x rfl VL.heap.size (.slice (ma) ms.length mc) ms rfl rfl HO7.out HLE1.out HSW.out ?_; intro g2 cap2 wa ho9 hb9; have HO1 := Lib.hid ho9; have HA1 := Lib.hid hb9; clear ho9 hb9)
                go_roundw
                case rel => exact ⟨j + 1, some ⟨g2, 0, none⟩, cap2, ms ++ [x], true, by omega, by go_num, rfl, by rw [List.length_append]; rfl, HST.out, by have h9 := HO1.out; rw [List.length_append]; exact h9, HB7.out.trans HA1.out⟩
                case measure => simp [intOf]; omega
            | false =>
              simp only [Bool.toNat_false, Nat.add_zero] at hml
              by_cases hv : o ≤ 0
              · have hs1 : lvS v3 (ms, false) x = if x = v3 then (ms ++ [v3], true) else (ms ++ [v3] ++ [x], true) := by unfold lvS; rw [ho2]; simp [hv]
                clear ho2
                go_upto_region 12 with (fail)
                refine wp_region_typed (C := fun w' => Below wr.heap.size wr w') (X := fun w w' => Below w.heap.size w w') (n := 70) (by kernel_rfl) (by kernel_rfl) rfl (fun w => Below.refl _ w) (Below.refl _ _).drew ?_
                refine w_is (fun w => Below.refl _ w) _ (.inl rfl) (fun ρ w hC hc hfn hf => by have e7 : ρ (.tmp 7) = _ := hf 7 (by decide); (conv => lhs; simp [execOp, go_sem, hc, e7])) ?_
                refine w_is (fun w => Below.refl _ w) _ (.inl rfl) (fun ρ w hC hc hfn hf => by have e34 : ρ (.tmp 34) = _ := hf 34 (by decide); (conv => lhs; simp [execOp, go_sem, hc, e34])) ?_
                refine w_is (fun w => Below.refl _ w) _ (.inl rfl) (fun ρ w hC hc hfn hf => by have e35 : ρ (.tmp 35) = _ := hf 35 (by decide); (conv => lhs; simp [execOp, go_sem, hc, e35])) ?_
                refine w_is (fun w => Below.refl _ w) _ (.inr ⟨2, 36, true, rfl, rfl, known_is rfl⟩) (fun ρ w hC hc hfn hf => by have e5 : ρ (.tmp 5) = _ := hf 5 (by decide); (conv => lhs; simp [execOp, go_sem, hc, e5, kc w hC])) ?_
                refine w_is (fun w => Below.refl _ w) _ (.inr ⟨2, 36, true, rfl, rfl, known_is rfl⟩) (fun ρ w hC hc hfn hf => by have e3 : ρ (.tmp 3) = _ := hf 3 (by decide); (conv => lhs; simp [execOp, go_sem, hc, e3])) ?_
                refine w_is (fun w => Below.refl _ w) _ (.inr ⟨2, 36, true, rfl, rfl, known_is rfl⟩) (fun ρ w hC hc hfn hf => by have e8 : ρ (.tmp 8) = _ := hf 8 (by decide); (conv => lhs; simp [execOp, go_sem, hc, e8])) ?_
                refine w_is (fun w => Below.refl _ w) _ (.inr ⟨2, 36, true, rfl, rfl, known_is rfl⟩) (fun ρ w hC hc hfn hf => by have e38 : ρ (.tmp 38) = _ := hf 38 (by decide); have e39 : ρ (.tmp 39) = _ := hf 39 (by decide); (conv => lhs; simp [execOp, go_sem, hc, e38, e39, hjt])) ?_
                refine w_is (fun w => Below.refl _ w) _ (.inr ⟨2, 36, true, rfl, rfl, known_is rfl⟩) (fun ρ w hC hc hfn hf => by have e40 : ρ (.tmp 40) = _ := hf 40 (by decide); (conv => lhs; simp [execOp, go_sem, hc, e40, kc w hC])) ?_
                refine w_call (Is _) (fun _ _ _ h _ => h) 42 (.inr ⟨2, 36, true, rfl, rfl, known_is rfl⟩) (fun ρ w hC hc hfn hf => by have e37 : ρ (.tmp 37) = _ := hf 37 (by decide); have e41 : ρ (.tmp 41) = _ := hf 41 (by decide); exact ⟨_, by (conv => lhs; simp [execOp, resolve, invoke, go_sem, hc, hfn, e37, e41]), tc_below hC (cO w)⟩) ?_
                refine w_is (fun w => Below.refl _ w) _ (.inr ⟨2, 36, true, rfl, rfl, known_is rfl⟩) (fun ρ w hC hc hfn hf => by have e42 : ρ (.tmp 42) = _ := hf 42 (by decide); (conv => lhs; simp [execOp, go_sem, hc, e42, hv])) ?_
                refine w_is (fun w => Below.refl _ w) _ (.inl rfl) (fun ρ w hC hc hfn hf => by have e36 : ρ (.tmp 36) = _ := hf 36 (by decide); have e43 : ρ (.tmp 43) = _ := hf 43 (by decide); (conv => lhs; simp [execOp, go_sem, hc, e36, e43])) ?_
                intro A V5 hC hn hd hf
                have y0 : A.eval (.tmp 0) = _ := Eq.trans (hf 0) (by conv => lhs; simp [go_sem])
                have y1 : A.eval (.tmp 1) = _ := Eq.trans (hf 1) (by conv => lhs; simp [go_sem])
                have y2 : A.eval (.tmp 2) = _ := Eq.trans (hf 2) (by conv => lhs; simp [go_sem])
                have y3 : A.eval (.tmp 3) = _ := Eq.trans (hf 3) (by conv => lhs; simp [go_sem])
                have y4 : A.eval (.tmp 4) = _ := Eq.trans (hf 4) (by conv => lhs; simp [go_sem])
                have y5 : A.eval (.tmp 5) = _ := Eq.trans (hf 5) (by conv => lhs; simp [go_sem])
                have y6 : A.eval (.tmp 6) = _ := Eq.trans (hf 6) (by conv => lhs; simp [go_sem])
                have y7 : A.eval (.tmp 7) = _ := Eq.trans (hf 7) (by conv => lhs; simp [go_sem])
                have y8 : A.eval (.tmp 8) = _ := Eq.trans (hf 8) (by conv => lhs; simp [go_sem])
                have y9 : A.eval (.tmp 9) = _ := Eq.trans (hf 9) (by conv => lhs; simp [go_sem])
                have y10 : A.eval (.tmp 10) = _ := Eq.trans (hf 10) (by conv => lhs; simp [go_sem])
                have y11 : A.eval (.tmp 11) = _ := Eq.trans (hf 11) (by conv => lhs; simp [go_sem])
                have y12 : A.eval (.tmp 12) = _ := Eq.trans (hf 12) (by conv => lhs; simp [go_sem])
                have y13 : A.eval (.tmp 13) = _ := Eq.trans (hf 13) (by conv => lhs; simp [go_sem])
                have y14 : A.eval (.tmp 14) = _ := Eq.trans (hf 14) (by conv => lhs; simp [go_sem])
                have y15 : A.eval (.tmp 15) = _ := Eq.trans (hf 15) (by conv => lhs; simp [go_sem])
                have y16 : A.eval (.tmp 16) = _ := Eq.trans (hf 16) (by conv => lhs; simp [go_sem])
                have y17 : A.eval (.tmp 17) = _ := Eq.trans (hf 17) (by conv => lhs; simp [go_sem])
                have y18 : A.eval (.tmp 18) = _ := Eq.trans (hf 18) (by conv => lhs; simp [go_sem])
                have y19 : A.eval (.tmp 19) = _ := Eq.trans (hf 19) (by conv => lhs; simp [go_sem])
                have y20 : A.eval (.tmp 20) = _ := Eq.trans (hf 20) (by conv => lhs; simp [go_sem])
                have y21 : A.eval (.tmp 21) = _ := Eq.trans (hf 21) (by conv => lhs; simp [go_sem])
                have y22 : A.eval (.tmp 22) = _ := Eq.trans (hf 22) (by conv => lhs; simp [go_sem])
                have y23 : A.eval (.tmp 23) = _ := Eq.trans (hf 23) (by conv => lhs; simp [go_sem])
                have y24 : A.eval (.tmp 24) = _ := Eq.trans (hf 24) (by conv => lhs; simp [go_sem])
                have y25 : A.eval (.tmp 25) = _ := Eq.trans (hf 25) (by conv => lhs; simp [go_sem])
                have y26 : A.eval (.tmp 26) = _ := Eq.trans (hf 26) (by conv => lhs; simp [go_sem])
                have y27 : A.eval (.tmp 27) = _ := Eq.trans (hf 27) (by conv => lhs; simp [go_sem])
                have y28 : A.eval (.tmp 28) = _ := Eq.trans (hf 28) (by conv => lhs; simp [go_sem])
                have y29 : A.eval (.tmp 29) = _ := Eq.trans (hf 29) (by conv => lhs; simp [go_sem])
                have y30 : A.eval (.tmp 30) = _ := Eq.trans (hf 30) (by conv => lhs; simp [go_sem])
                have y31 : A.eval (.tmp 31) = _ := Eq.trans (hf 31) (by conv => lhs; simp [go_sem])
                have y32 : A.eval (.tmp 32) = _ := Eq.trans (hf 32) (by conv => lhs; simp [go_sem])
                have y33 : A.eval (.tmp 33) = _ := Eq.trans (hf 33) (by conv => lhs; simp [go_sem])
                have y34 : A.eval (.tmp 34) = _ := hf 34
                have y35 : A.eval (.tmp 35) = _ := hf 35
                have y36 : A.eval (.tmp 36) = _ := hf 36
                have y37 : A.eval (.tmp 37) = _ := hf 37
                have y38 : A.eval (.tmp 38) = _ := hf 38
                have y39 : A.eval (.tmp 39) = _ := hf 39
                have y40 : A.eval (.tmp 40) = _ := hf 40
                have y41 : A.eval (.tmp 41) = _ := hf 41
                have y42 : A.eval (.tmp 42) = _ := hf 42
                have y43 : A.eval (.tmp 43) = _ := hf 43
                have y44 : A.eval (.tmp 44) = _ := hf 44
                have y45 : A.eval (.tmp 45) = _ := Eq.trans (hf 45) (by conv => lhs; simp [go_sem])
                have y46 : A.eval (.tmp 46) = _ := Eq.trans (hf 46) (by conv => lhs; simp [go_sem])
                have y47 : A.eval (.tmp 47) = _ := Eq.trans (hf 47) (by conv => lhs; simp [go_sem])
                have y48 : A.eval (.tmp 48) = _ := Eq.trans (hf 48) (by conv => lhs; simp [go_sem])
                have y49 : A.eval (.tmp 49) = _ := Eq.trans (hf 49) (by conv => lhs; simp [go_sem])
                have y50 : A.eval (.tmp 50) = _ := Eq.trans (hf 50) (by conv => lhs; simp [go_sem])
                have y51 : A.eval (.tmp 51) = _ := Eq.trans (hf 51) (by conv => lhs; simp [go_sem])
                have y52 : A.eval (.tmp 52) = _ := Eq.trans (hf 52) (by conv => lhs; simp [go_sem])
                have y53 : A.eval (.tmp 53) = _ := Eq.trans (hf 53) (by conv => lhs; simp [go_sem])
                have y54 : A.eval (.tmp 54) = _ := Eq.trans (hf 54) (by conv => lhs; simp [go_sem])
                have y55 : A.eval (.tmp 55) = _ := Eq.trans (hf 55) (by conv => lhs; simp [go_sem])
                have y56 : A.eval (.tmp 56) = _ := Eq.trans (hf 56) (by conv => lhs; simp [go_sem])
                have y57 : A.eval (.tmp 57) = _ := Eq.trans (hf 57) (by conv => lhs; simp [go_sem])
                have y58 : A.eval (.tmp 58) = _ := Eq.trans (hf 58) (by conv => lhs; simp [go_sem])
                have y59 : A.eval (.tmp 59) = _ := Eq.trans (hf 59) (by conv => lhs; simp [go_sem])
                have y60 : A.eval (.tmp 60) = _ := Eq.trans (hf 60) (by conv => lhs; simp [go_sem])
                have y61 : A.eval (.tmp 61) = _ := Eq.trans (hf 61) (by conv => lhs; simp [go_sem])
                have y62 : A.eval (.tmp 62) = _ := Eq.trans (hf 62) (by conv => lhs; simp [go_sem])
                have y63 : A.eval (.tmp 63) = _ := Eq.trans (hf 63) (by conv => lhs; simp [go_sem])
                have y64 : A.eval (.tmp 64) = _ := Eq.trans (hf 64) (by conv => lhs; simp [go_sem])
                have y65 : A.eval (.tmp 65) = _ := Eq.trans (hf 65) (by conv => lhs; simp [go_sem])
                have y66 : A.eval (.tmp 66) = _ := Eq.trans (hf 66) (by conv => lhs; simp [go_sem])
                have y67 : A.eval (.tmp 67) = _ := Eq.trans (hf 67) (by conv => lhs; simp [go_sem])
                have y68 : A.eval (.tmp 68) = _ := Eq.trans (hf 68) (by conv => lhs; simp [go_sem])
                have y69 : A.eval (.tmp 69) = _ := Eq.trans (hf 69) (by conv => lhs; simp [go_sem])
                clear hf
                have hA := frame_eq hn
                rw [show List.range 70 = [0, 1, 2, 3, 4, 5, 6, 7, 8, 9, 10, 11, 12, 13, 14, 15, 16, 17, 18, 19, 20, 21, 22, 23, 24, 25, 26, 27, 28, 29, 30, 31, 32, 33, 34, 35, 36, 37, 38, 39, 40, 41, 42, 43, 44, 45, 46, 47, 48, 49, 50, 51, 52, 53, 54, 55, 56, 57, 58, 59, 60, 61, 62, 63, 64, 65, 66, 67, 68, 69] from rfl, hd] at hA
                simp only [List.map_cons, List.map_nil, y0, y1, y2, y3, y4, y5, y6, y7, y8, y9, y10, y11, y12, y13, y14, y15, y16, y17, y18, y19, y20, y21, y22, y23, y24, y25, y26, y27, y28, y29, y30, y31, y32, y33, y34, y35, y36, y37, y38, y39, y40, y41, y42, y43, y44, y45, y46, y47, y48, y49, y50, y51, y52, y53, y54, y55, y56, y57, y58, y59, y60, y61, y62, y63, y64, y65, y66, y67, y68, y69] at hA
                clear y0 y1 y2 y3 y4 y5 y6 y7 y8 y9 y10 y11 y12 y13 y14 y15 y16 y17 y18 y19 y20 y21 y22 y23 y24 y25 y26 y27 y28 y29 y30 y31 y32 y33 y34 y35 y36 y37 y38 y39 y40 y41 y42 y43 y44 y45 y46 y47 y48 y49 y50 y51 y52 y53 y54 y55 y56 y57 y58 y59 y60 y61 y62 y63 y64 y65 y66 y67 y68 y69
                clear hn hd
                subst hA
                have HB5 := Lib.hid (HB2.out.trans (hC.mono HB2.out.size))
                have HO5 := Lib.hid (HO2.out.below hC)
                have HSW0 : Hid (VL.heap.size ≤ V5.heap.size) := HB5.out.size
                have HLE0 : Hid (ms.length ≤ 3000) := by show _ ≤ _; omega
                obtain ⟨⟨p0, p1, p2⟩, _⟩ := kc V5 hC
                clear hC kc HB2 HO2 cO
                go_upto_region 13 with (fail)
                go_wp2_with (at_builtin; refine lapp1_any rfl (.tmp 45) (.tmp 47) rfl V5 v3 rfl VL.heap.size (.slice ma ms.length mc) ms rfl rfl HO5.out HLE0.out HSW0.out ?_; intro g1 cap1 V6 ho9 hb9; have HO6 := Lib.hid ho9; have HA1 := Lib.hid hb9; clear ho9 hb9)
                have HB6 := Lib.hid (HB5.out.trans HA1.out)
                clear p0 p1 p2 HO5 HB5 HA1 HSW0 HLE0
                obtain ⟨m1, hm1⟩ : ∃ m1, ms ++ [v3] = m1 := ⟨_, rfl⟩
                have hl1 : ms.length + 1 = m1.length := by rw [← hm1, List.length_append]; rfl
                have hl2 : m1.length ≤ j + 1 := by omega
                rw [hm1] at HO6 hs1
                rw [hl1] at HO6 ⊢
                clear hm1 hl1
                have kc5 : ∀ w', Below V6.heap.size V6 w' → (w'.cell? ⟨V1.heap.size, 0, none⟩ = some (.int .i64 v3.1) ∧ w'.cell? ⟨V1.heap.size, 1, none⟩ = some (.int .i64 v3.2.1) ∧ w'.cell? ⟨V1.heap.size, 2, none⟩ = some (.int .i64 v3.2.2)) ∧ (w'.cell? ⟨b2, off + j * 3, none⟩ = some (.int .i64 x.1) ∧ w'.cell? ⟨b2, off + j * 3 + 1, none⟩ = some (.int .i64 x.2.1) ∧ w'.cell? ⟨b2, off + j * 3 + 2, none⟩ = some (.int .i64 x.2.2)) := fun w' hb => by
                  have h1 := KC.out w' (HB6.out.trans (hb.mono HB6.out.size))
                  simp only [C3, Nat.zero_add] at h1
                  exact h1
                by_cases he : x = v3
                · have HST : Hid ((os.take (j + 1)).foldl (lvS v3) ([], false) = (m1, true)) := by
                    show _ = _
                    rw [hst, hs1, if_pos he]
                  have hIf : ∀ {α : Type} (X Y : α), (if x.1 = v3.1 then if x.2.1 = v3.2.1 then if x.2.2 = v3.2.2 then X else Y else Y else Y) = X := by
                    intro α X Y
                    obtain ⟨h1, h2, h3⟩ : x.1 = v3.1 ∧ x.2.1 = v3.2.1 ∧ x.2.2 = v3.2.2 := by rw [he]; exact ⟨rfl, rfl, rfl⟩
                    rw [if_pos h1, if_pos h2, if_pos h3]
                  clear he hst hs1
                  go_upto_region 15 with (fail)
                  refine wp_region_typed (C := fun w' => Below V6.heap.size V6 w') (X := fun w w' => Below w.heap.size w w') (n := 70) (by kernel_rfl) (by kernel_rfl) rfl (fun w => Below.refl _ w) (Below.refl _ _).drew ?_
                  refine w_is (fun w => Below.refl _ w) _ (.inl rfl) (fun ρ w hC hc hfn hf => by have e3 : ρ (.tmp 3) = _ := hf 3 (by decide); (conv => lhs; simp [execOp, go_sem, hc, e3])) ?_
                  refine w_is (fun w => Below.refl _ w) _ (.inl rfl) (fun ρ w hC hc hfn hf => by have e8 : ρ (.tmp 8) = _ := hf 8 (by decide); (conv => lhs; simp [execOp, go_sem, hc, e8])) ?_
                  refine w_is (fun w => Below.refl _ w) _ (.inl rfl) (fun ρ w hC hc hfn hf => by have e49 : ρ (.tmp 49) = _ := hf 49 (by decide); have e50 : ρ (.tmp 50) = _ := hf 50 (by decide); (conv => lhs; simp [execOp, go_sem, hc, e49, e50, hjt])) ?_
                  refine w_is (fun w => Below.refl _ w) _ (.inl rfl) (fun ρ w hC hc hfn hf => by have e51 : ρ (.tmp 51) = _ := hf 51 (by decide); (conv => lhs; simp [execOp, go_sem, hc, e51, kc5 w hC])) ?_
                  refine w_is (fun w => Below.refl _ w) _ (.inl rfl) (fun ρ w hC hc hfn hf => by have e5 : ρ (.tmp 5) = _ := hf 5 (by decide); (conv => lhs; simp [execOp, go_sem, hc, e5, kc5 w hC])) ?_
                  refine w_is (fun w => Below.refl _ w) _ (.inl rfl) (fun ρ w hC hc hfn hf => by have e52 : ρ (.tmp 52) = _ := hf 52 (by decide); have e53 : ρ (.tmp 53) = _ := hf 53 (by decide); (conv => lhs; simp [execOp, go_sem, hc, e52, e53, hIf, guard25])) ?_
                  intro A V7 hC hn hd hf
                  have y0 : A.eval (.tmp 0) = _ := Eq.trans (hf 0) (by conv => lhs; simp [go_sem])
                  have y1 : A.eval (.tmp 1) = _ := Eq.trans (hf 1) (by conv => lhs; simp [go_sem])
                  have y2 : A.eval (.tmp 2) = _ := Eq.trans (hf 2) (by conv => lhs; simp [go_sem])
                  have y3 : A.eval (.tmp 3) = _ := Eq.trans (hf 3) (by conv => lhs; simp [go_sem])
                  have y4 : A.eval (.tmp 4) = _ := Eq.trans (hf 4) (by conv => lhs; simp [go_sem])
                  have y5 : A.eval (.tmp 5) = _ := Eq.trans (hf 5) (by conv => lhs; simp [go_sem])
                  have y6 : A.eval (.tmp 6) = _ := Eq.trans (hf 6) (by conv => lhs; simp [go_sem])
                  have y7 : A.eval (.tmp 7) = _ := Eq.trans (hf 7) (by conv => lhs; simp [go_sem])
                  have y8 : A.eval (.tmp 8) = _ := Eq.trans (hf 8) (by conv => lhs; simp [go_sem])
                  have y9 : A.eval (.tmp 9) = _ := Eq.trans (hf 9) (by conv => lhs; simp [go_sem])
                  have y10 : A.eval (.tmp 10) = _ := Eq.trans (hf 10) (by conv => lhs; simp [go_sem])
                  have y11 : A.eval (.tmp 11) = _ := Eq.trans (hf 11) (by conv => lhs; simp [go_sem])
                  have y12 : A.eval (.tmp 12) = _ := Eq.trans (hf 12) (by conv => lhs; simp [go_sem])
                  have y13 : A.eval (.tmp 13) = _ := Eq.trans (hf 13) (by conv => lhs; simp [go_sem])
                  have y14 : A.eval (.tmp 14) = _ := Eq.trans (hf 14) (by conv => lhs; simp [go_sem])
                  have y15 : A.eval (.tmp 15) = _ := Eq.trans (hf 15) (by conv => lhs; simp [go_sem])
                  have y16 : A.eval (.tmp 16) = _ := Eq.trans (hf 16) (by conv => lhs; simp [go_sem])
                  have y17 : A.eval (.tmp 17) = _ := Eq.trans (hf 17) (by conv => lhs; simp [go_sem])
                  have y18 : A.eval (.tmp 18) = _ := Eq.trans (hf 18) (by conv => lhs; simp [go_sem])
                  have y19 : A.eval (.tmp 19) = _ := Eq.trans (hf 19) (by conv => lhs; simp [go_sem])
                  have y20 : A.eval (.tmp 20) = _ := Eq.trans (hf 20) (by conv => lhs; simp [go_sem])
                  have y21 : A.eval (.tmp 21) = _ := Eq.trans (hf 21) (by conv => lhs; simp [go_sem])
                  have y22 : A.eval (.tmp 22) = _ := Eq.trans (hf 22) (by conv => lhs; simp [go_sem])
                  have y23 : A.eval (.tmp 23) = _ := Eq.trans (hf 23) (by conv => lhs; simp [go_sem])
                  have y24 : A.eval (.tmp 24) = _ := Eq.trans (hf 24) (by conv => lhs; simp [go_sem])
                  have y25 : A.eval (.tmp 25) = _ := Eq.trans (hf 25) (by conv => lhs; simp [go_sem])
                  have y26 : A.eval (.tmp 26) = _ := Eq.trans (hf 26) (by conv => lhs; simp [go_sem])
                  have y27 : A.eval (.tmp 27) = _ := Eq.trans (hf 27) (by conv => lhs; simp [go_sem])
                  have y28 : A.eval (.tmp 28) = _ := Eq.trans (hf 28) (by conv => lhs; simp [go_sem])
                  have y29 : A.eval (.tmp 29) = _ := Eq.trans (hf 29) (by conv => lhs; simp [go_sem])
                  have y30 : A.eval (.tmp 30) = _ := Eq.trans (hf 30) (by conv => lhs; simp [go_sem])
                  have y31 : A.eval (.tmp 31) = _ := Eq.trans (hf 31) (by conv => lhs; simp [go_sem])
                  have y32 : A.eval (.tmp 32) = _ := Eq.trans (hf 32) (by conv => lhs; simp [go_sem])
                  have y33 : A.eval (.tmp 33) = _ := Eq.trans (hf 33) (by conv => lhs; simp [go_sem])
                  have y34 : A.eval (.tmp 34) = _ := Eq.trans (hf 34) (by conv => lhs; simp [go_sem])
                  have y35 : A.eval (.tmp 35) = _ := Eq.trans (hf 35) (by conv => lhs; simp [go_sem])
                  have y36 : A.eval (.tmp 36) = _ := Eq.trans (hf 36) (by conv => lhs; simp [go_sem])
                  have y37 : A.eval (.tmp 37) = _ := Eq.trans (hf 37) (by conv => lhs; simp [go_sem])
                  have y38 : A.eval (.tmp 38) = _ := Eq.trans (hf 38) (by conv => lhs; simp [go_sem])
                  have y39 : A.eval (.tmp 39) = _ := Eq.trans (hf 39) (by conv => lhs; simp [go_sem])
                  have y40 : A.eval (.tmp 40) = _ := Eq.trans (hf 40) (by conv => lhs; simp [go_sem])
                  have y41 : A.eval (.tmp 41) = _ := Eq.trans (hf 41) (by conv => lhs; simp [go_sem])
                  have y42 : A.eval (.tmp 42) = _ := Eq.trans (hf 42) (by conv => lhs; simp [go_sem])
                  have y43 : A.eval (.tmp 43) = _ := Eq.trans (hf 43) (by conv => lhs; simp [go_sem])
                  have y44 : A.eval (.tmp 44) = _ := Eq.trans (hf 44) (by conv => lhs; simp [go_sem])
                  have y45 : A.eval (.tmp 45) = _ := Eq.trans (hf 45) (by conv => lhs; simp [go_sem])
                  have y46 : A.eval (.tmp 46) = _ := Eq.trans (hf 46) (by conv => lhs; simp [go_sem])
                  have y47 : A.eval (.tmp 47) = _ := Eq.trans (hf 47) (by conv => lhs; simp [go_sem])
                  have y48 : A.eval (.tmp 48) = _ := Eq.trans (hf 48) (by conv => lhs; simp [go_sem])
                  have y49 : A.eval (.tmp 49) = _ := hf 49
                  have y50 : A.eval (.tmp 50) = _ := hf 50
                  have y51 : A.eval (.tmp 51) = _ := hf 51
                  have y52 : A.eval (.tmp 52) = _ := hf 52
                  have y53 : A.eval (.tmp 53) = _ := hf 53
                  have y54 : A.eval (.tmp 54) = _ := hf 54
                  have y55 : A.eval (.tmp 55) = _ := Eq.trans (hf 55) (by conv => lhs; simp [go_sem])
                  have y56 : A.eval (.tmp 56) = _ := Eq.trans (hf 56) (by conv => lhs; simp [go_sem])
                  have y57 : A.eval (.tmp 57) = _ := Eq.trans (hf 57) (by conv => lhs; simp [go_sem])
                  have y58 : A.eval (.tmp 58) = _ := Eq.trans (hf 58) (by conv => lhs; simp [go_sem])
                  have y59 : A.eval (.tmp 59) = _ := Eq.trans (hf 59) (by conv => lhs; simp [go_sem])
                  have y60 : A.eval (.tmp 60) = _ := Eq.trans (hf 60) (by conv => lhs; simp [go_sem])
                  have y61 : A.eval (.tmp 61) = _ := Eq.trans (hf 61) (by conv => lhs; simp [go_sem])
                  have y62 : A.eval (.tmp 62) = _ := Eq.trans (hf 62) (by conv => lhs; simp [go_sem])
                  have y63 : A.eval (.tmp 63) = _ := Eq.trans (hf 63) (by conv => lhs; simp [go_sem])
                  have y64 : A.eval (.tmp 64) = _ := Eq.trans (hf 64) (by conv => lhs; simp [go_sem])
                  have y65 : A.eval (.tmp 65) = _ := Eq.trans (hf 65) (by conv => lhs; simp [go_sem])
                  have y66 : A.eval (.tmp 66) = _ := Eq.trans (hf 66) (by conv => lhs; simp [go_sem])
                  have y67 : A.eval (.tmp 67) = _ := Eq.trans (hf 67) (by conv => lhs; simp [go_sem])
                  have y68 : A.eval (.tmp 68) = _ := Eq.trans (hf 68) (by conv => lhs; simp [go_sem])
                  have y69 : A.eval (.tmp 69) = _ := Eq.trans (hf 69) (by conv => lhs; simp [go_sem])
                  clear hf
                  have hA := frame_eq hn
                  rw [show List.range 70 = [0, 1, 2, 3, 4, 5, 6, 7, 8, 9, 10, 11, 12, 13, 14, 15, 16, 17, 18, 19, 20, 21, 22, 23, 24, 25, 26, 27, 28, 29, 30, 31, 32, 33, 34, 35, 36, 37, 38, 39, 40, 41, 42, 43, 44, 45, 46, 47, 48, 49, 50, 51, 52, 53, 54, 55, 56, 57, 58, 59, 60, 61, 62, 63, 64, 65, 66, 67, 68, 69] from rfl, hd] at hA
                  simp only [List.map_cons, List.map_nil, y0, y1, y2, y3, y4, y5, y6, y7, y8, y9, y10, y11, y12, y13, y14, y15, y16, y17, y18, y19, y20, y21, y22, y23, y24, y25, y26, y27, y28, y29, y30, y31, y32, y33, y34, y35, y36, y37, y38, y39, y40, y41, y42, y43, y44, y45, y46, y47, y48, y49, y50, y51, y52, y53, y54, y55, y56, y57, y58, y59, y60, y61, y62, y63, y64, y65, y66, y67, y68, y69] at hA
                  clear y0 y1 y2 y3 y4 y5 y6 y7 y8 y9 y10 y11 y12 y13 y14 y15 y16 y17 y18 y19 y20 y21 y22 y23 y24 y25 y26 y27 y28 y29 y30 y31 y32 y33 y34 y35 y36 y37 y38 y39 y40 y41 y42 y43 y44 y45 y46 y47 y48 y49 y50 y51 y52 y53 y54 y55 y56 y57 y58 y59 y60 y61 y62 y63 y64 y65 y66 y67 y68 y69
                  clear hn hd
                  subst hA
                  have HB7 := Lib.hid (HB6.out.trans (hC.mono HB6.out.size))
                  have HO7 := Lib.hid (HO6.out.below hC)
                  clear hC kc5 hIf HB6 HO6
                  go_wp2_with fail
                  go_roundw
                  case rel => exact ⟨j + 1, some ⟨g1, 0, none⟩, cap1, m1, true, by omega, by go_num, rfl, rfl, HST.out, HO7.out, HB7.out⟩
                  case measure => simp [intOf]; omega
                · have HST : Hid ((os.take (j + 1)).foldl (lvS v3) ([], false) = (m1 ++ [x], true)) := by
                    show _ = _
                    rw [hst, hs1, if_neg he]
                  have hIf : ∀ {α : Type} (X Y : α), (if x.1 = v3.1 then if x.2.1 = v3.2.1 then if x.2.2 = v3.2.2 then X else Y else Y else Y) = Y := by
                    intro α X Y
                    by_cases h1 : x.1 = v3.1
                    · rw [if_pos h1]
                      by_cases h2 : x.2.1 = v3.2.1
                      · rw [if_pos h2, if_neg (fun h3 => he (Prod.ext h1 (Prod.ext h2 h3)))]
                      · rw [if_neg h2]
                    · rw [if_neg h1]
                  clear he hst hs1
                  go_upto_region 15 with (fail)
                  refine wp_region_typed (C := fun w' => Below V6.heap.size V6 w') (X := fun w w' => Below w.heap.size w w') (n := 70) (by kernel_rfl) (by kernel_rfl) rfl (fun w => Below.refl _ w) (Below.refl _ _).drew ?_
                  refine w_is (fun w => Below.refl _ w) _ (.inl rfl) (fun ρ w hC hc hfn hf => by have e3 : ρ (.tmp 3) = _ := hf 3 (by decide); (conv => lhs; simp [execOp, go_sem, hc, e3])) ?_
                  refine w_is (fun w => Below.refl _ w) _ (.inl rfl) (fun ρ w hC hc hfn hf => by have e8 : ρ (.tmp 8) = _ := hf 8 (by decide); (conv => lhs; simp [execOp, go_sem, hc, e8])) ?_
                  refine w_is (fun w => Below.refl _ w) _ (.inl rfl) (fun ρ w hC hc hfn hf => by have e49 : ρ (.tmp 49) = _ := hf 49 (by decide); have e50 : ρ (.tmp 50) = _ := hf 50 (by decide); (conv => lhs; simp [execOp, go_sem, hc, e49, e50, hjt])) ?_
                  refine w_is (fun w => Below.refl _ w) _ (.inl rfl) (fun ρ w hC hc hfn hf => by have e51 : ρ (.tmp 51) = _ := hf 51 (by decide); (conv => lhs; simp [execOp, go_sem, hc, e51, kc5 w hC])) ?_
                  refine w_is (fun w => Below.refl _ w) _ (.inl rfl) (fun ρ w hC hc hfn hf => by have e5 : ρ (.tmp 5) = _ := hf 5 (by decide); (conv => lhs; simp [execOp, go_sem, hc, e5, kc5 w hC])) ?_
                  refine w_is (fun w => Below.refl _ w) _ (.inl rfl) (fun ρ w hC hc hfn hf => by have e52 : ρ (.tmp 52) = _ := hf 52 (by decide); have e53 : ρ (.tmp 53) = _ := hf 53 (by decide); (conv => lhs; simp [execOp, go_sem, hc, e52, e53, hIf, guard25])) ?_
                  intro A V7 hC hn hd hf
                  have y0 : A.eval (.tmp 0) = _ := Eq.trans (hf 0) (by conv => lhs; simp [go_sem])
                  have y1 : A.eval (.tmp 1) = _ := Eq.trans (hf 1) (by conv => lhs; simp [go_sem])
                  have y2 : A.eval (.tmp 2) = _ := Eq.trans (hf 2) (by conv => lhs; simp [go_sem])
                  have y3 : A.eval (.tmp 3) = _ := Eq.trans (hf 3) (by conv => lhs; simp [go_sem])
                  have y4 : A.eval (.tmp 4) = _ := Eq.trans (hf 4) (by conv => lhs; simp [go_sem])
                  have y5 : A.eval (.tmp 5) = _ := Eq.trans (hf 5) (by conv => lhs; simp [go_sem])
                  have y6 : A.eval (.tmp 6) = _ := Eq.trans (hf 6) (by conv => lhs; simp [go_sem])
                  have y7 : A.eval (.tmp 7) = _ := Eq.trans (hf 7) (by conv => lhs; simp [go_sem])
                  have y8 : A.eval (.tmp 8) = _ := Eq.trans (hf 8) (by conv => lhs; simp [go_sem])
                  have y9 : A.eval (.tmp 9) = _ := Eq.trans (hf 9) (by conv => lhs; simp [go_sem])
                  have y10 : A.eval (.tmp 10) = _ := Eq.trans (hf 10) (by conv => lhs; simp [go_sem])
                  have y11 : A.eval (.tmp 11) = _ := Eq.trans (hf 11) (by conv => lhs; simp [go_sem])
                  have y12 : A.eval (.tmp 12) = _ := Eq.trans (hf 12) (by conv => lhs; simp [go_sem])
                  have y13 : A.eval (.tmp 13) = _ := Eq.trans (hf 13) (by conv => lhs; simp [go_sem])
                  have y14 : A.eval (.tmp 14) = _ := Eq.trans (hf 14) (by conv => lhs; simp [go_sem])
                  have y15 : A.eval (.tmp 15) = _ := Eq.trans (hf 15) (by conv => lhs; simp [go_sem])
                  have y16 : A.eval (.tmp 16) = _ := Eq.trans (hf 16) (by conv => lhs; simp [go_sem])
                  have y17 : A.eval (.tmp 17) = _ := Eq.trans (hf 17) (by conv => lhs; simp [go_sem])
                  have y18 : A.eval (.tmp 18) = _ := Eq.trans (hf 18) (by conv => lhs; simp [go_sem])
                  have y19 : A.eval (.tmp 19) = _ := Eq.trans (hf 19) (by conv => lhs; simp [go_sem])
                  have y20 : A.eval (.tmp 20) = _ := Eq.trans (hf 20) (by conv => lhs; simp [go_sem])
                  have y21 : A.eval (.tmp 21) = _ := Eq.trans (hf 21) (by conv => lhs; simp [go_sem])
                  have y22 : A.eval (.tmp 22) = _ := Eq.trans (hf 22) (by conv => lhs; simp [go_sem])
                  have y23 : A.eval (.tmp 23) = _ := Eq.trans (hf 23) (by conv => lhs; simp [go_sem])
                  have y24 : A.eval (.tmp 24) = _ := Eq.trans (hf 24) (by conv => lhs; simp [go_sem])
                  have y25 : A.eval (.tmp 25) = _ := Eq.trans (hf 25) (by conv => lhs; simp [go_sem])
                  have y26 : A.eval (.tmp 26) = _ := Eq.trans (hf 26) (by conv => lhs; simp [go_sem])
                  have y27 : A.eval (.tmp 27) = _ := Eq.trans (hf 27) (by conv => lhs; simp [go_sem])
                  have y28 : A.eval (.tmp 28) = _ := Eq.trans (hf 28) (by conv => lhs; simp [go_sem])
                  have y29 : A.eval (.tmp 29) = _ := Eq.trans (hf 29) (by conv => lhs; simp [go_sem])
                  have y30 : A.eval (.tmp 30) = _ := Eq.trans (hf 30) (by conv => lhs; simp [go_sem])
                  have y31 : A.eval (.tmp 31) = _ := Eq.trans (hf 31) (by conv => lhs; simp [go_sem])
                  have y32 : A.eval (.tmp 32) = _ := Eq.trans (hf 32) (by conv => lhs; simp [go_sem])
                  have y33 : A.eval (.tmp 33) = _ := Eq.trans (hf 33) (by conv => lhs; simp [go_sem])
                  have y34 : A.eval (.tmp 34) = _ := Eq.trans (hf 34) (by conv => lhs; simp [go_sem])
                  have y35 : A.eval (.tmp 35) = _ := Eq.trans (hf 35) (by conv => lhs; simp [go_sem])
                  have y36 : A.eval (.tmp 36) = _ := Eq.trans (hf 36) (by conv => lhs; simp [go_sem])
                  have y37 : A.eval (.tmp 37) = _ := Eq.trans (hf 37) (by conv => lhs; simp [go_sem])
                  have y38 : A.eval (.tmp 38) = _ := Eq.trans (hf 38) (by conv => lhs; simp [go_sem])
                  have y39 : A.eval (.tmp 39) = _ := Eq.trans (hf 39) (by conv => lhs; simp [go_sem])
                  have y40 : A.eval (.tmp 40) = _ := Eq.trans (hf 40) (by conv => lhs; simp [go_sem])
                  have y41 : A.eval (.tmp 41) = _ := Eq.trans (hf 41) (by conv => lhs; simp [go_sem])
                  have y42 : A.eval (.tmp 42) = _ := Eq.trans (hf 42) (by conv => lhs; simp [go_sem])
                  have y43 : A.eval (.tmp 43) = _ := Eq.trans (hf 43) (by conv => lhs; simp [go_sem])
                  have y44 : A.eval (.tmp 44) = _ := Eq.trans (hf 44) (by conv => lhs; simp [go_sem])
                  have y45 : A.eval (.tmp 45) = _ := Eq.trans (hf 45) (by conv => lhs; simp [go_sem])
                  have y46 : A.eval (.tmp 46) = _ := Eq.trans (hf 46) (by conv => lhs; simp [go_sem])
                  have y47 : A.eval (.tmp 47) = _ := Eq.trans (hf 47) (by conv => lhs; simp [go_sem])
                  have y48 : A.eval (.tmp 48) = _ := Eq.trans (hf 48) (by conv => lhs; simp [go_sem])
                  have y49 : A.eval (.tmp 49) = _ := hf 49
                  have y50 : A.eval (.tmp 50) = _ := hf 50
                  have y51 : A.eval (.tmp 51) = _ := hf 51
                  have y52 : A.eval (.tmp 52) = _ := hf 52
                  have y53 : A.eval (.tmp 53) = _ := hf 53
                  have y54 : A.eval (.tmp 54) = _ := hf 54
                  have y55 : A.eval (.tmp 55) = _ := Eq.trans (hf 55) (by conv => lhs; simp [go_sem])
                  have y56 : A.eval (.tmp 56) = _ := Eq.trans (hf 56) (by conv => lhs; simp [go_sem])
                  have y57 : A.eval (.tmp 57) = _ := Eq.trans (hf 57) (by conv => lhs; simp [go_sem])
                  have y58 : A.eval (.tmp 58) = _ := Eq.trans (hf 58) (by conv => lhs; simp [go_sem])
                  have y59 : A.eval (.tmp 59) = _ := Eq.trans (hf 59) (by conv => lhs; simp [go_sem])
                  have y60 : A.eval (.tmp 60) = _ := Eq.trans (hf 60) (by conv => lhs; simp [go_sem])
                  have y61 : A.eval (.tmp 61) = _ := Eq.trans (hf 61) (by conv => lhs; simp [go_sem])
                  have y62 : A.eval (.tmp 62) = _ := Eq.trans (hf 62) (by conv => lhs; simp [go_sem])
                  have y63 : A.eval (.tmp 63) = _ := Eq.trans (hf 63) (by conv => lhs; simp [go_sem])
                  have y64 : A.eval (.tmp 64) = _ := Eq.trans (hf 64) (by conv => lhs; simp [go_sem])
                  have y65 : A.eval (.tmp 65) = _ := Eq.trans (hf 65) (by conv => lhs; simp [go_sem])
                  have y66 : A.eval (.tmp 66) = _ := Eq.trans (hf 66) (by conv => lhs; simp [go_sem])
                  have y67 : A.eval (.tmp 67) = _ := Eq.trans (hf 67) (by conv => lhs; simp [go_sem])
                  have y68 : A.eval (.tmp 68) = _ := Eq.trans (hf 68) (by conv => lhs; simp [go_sem])
                  have y69 : A.eval (.tmp 69) = _ := Eq.trans (hf 69) (by conv => lhs; simp [go_sem])
                  clear hf
                  have hA := frame_eq hn
                  rw [show List.range 70 = [0, 1, 2, 3, 4, 5, 6, 7, 8, 9, 10, 11, 12, 13, 14, 15, 16, 17, 18, 19, 20, 21, 22, 23, 24, 25, 26, 27, 28, 29, 30, 31, 32, 33, 34, 35, 36, 37, 38, 39, 40, 41, 42, 43, 44, 45, 46, 47, 48, 49, 50, 51, 52, 53, 54, 55, 56, 57, 58, 59, 60, 61, 62, 63, 64, 65, 66, 67, 68, 69] from rfl, hd] at hA
                  simp only [List.map_cons, List.map_nil, y0, y1, y2, y3, y4, y5, y6, y7, y8, y9, y10, y11, y12, y13, y14, y15, y16, y17, y18, y19, y20, y21, y22, y23, y24, y25, y26, y27, y28, y29, y30, y31, y32, y33, y34, y35, y36, y37, y38, y39, y40, y41, y42, y43, y44, y45, y46, y47, y48, y49, y50, y51, y52, y53, y54, y55, y56, y57, y58, y59, y60, y61, y62, y63, y64, y65, y66, y67, y68, y69] at hA
                  clear y0 y1 y2 y3 y4 y5 y6 y7 y8 y9 y10 y11 y12 y13 y14 y15 y16 y17 y18 y19 y20 y21 y22 y23 y24 y25 y26 y27 y28 y29 y30 y31 y32 y33 y34 y35 y36 y37 y38 y39 y40 y41 y42 y43 y44 y45 y46 y47 y48 y49 y50 y51 y52 y53 y54 y55 y56 y57 y58 y59 y60 y61 y62 y63 y64 y65 y66 y67 y68 y69
                  clear hn hd
                  subst hA
                  have HB7 := Lib.hid (HB6.out.trans (hC.mono HB6.out.size))
                  have HO7 := Lib.hid (HO6.out.below hC)
                  have HSW : Hid (VL.heap.size ≤ V7.heap.size) := HB7.out.size
                  have HLE1 : Hid (m1.length ≤ 3000) := by show _ ≤ _; omega
                  obtain ⟨_, p0, p1, p2⟩ := kc5 V7 hC
                  clear hC kc5 hIf HB6 HO6
                  go_wp2_with (at_builtin; refine lapp1_any rfl (.tmp 55) (.tmp 60) rfl V7 x rfl VL.heap.size (.slice (some ⟨g1, 0, none⟩) m1.length cap1) m1 rfl rfl HO7.out HLE1.out HSW.out ?_; intro g2 cap2 wa ho9 hb9; have HO1 := Lib.hid ho9; have HA1 := Lib.hid hb9; clear ho9 hb9)
                  go_roundw
                  case rel => exact ⟨j + 1, some ⟨g2, 0, none⟩, cap2, m1 ++ [x], true, by omega, by go_num, rfl, by rw [List.length_append]; rfl, HST.out, by have h9 := HO1.out; rw [List.length_append]; exact h9, HB7.out.trans HA1.out⟩
                  case measure => simp [intOf]; omega
              · have hs1 : lvS v3 (ms, false) x = if x = v3 then (ms, false) else (ms ++ [x], false) := by unfold lvS; rw [ho2]; simp [hv]
                clear ho2
                go_upto_region 12 with (fail)
                refine wp_region_typed (C := fun w' => Below wr.heap.size wr w') (X := fun w w' => Below w.heap.size w w') (n := 70) (by kernel_rfl) (by kernel_rfl) rfl (fun w => Below.refl _ w) (Below.refl _ _).drew ?_
                refine w_is (fun w => Below.refl _ w) _ (.inl rfl) (fun ρ w hC hc hfn hf => by have e7 : ρ (.tmp 7) = _ := hf 7 (by decide); (conv => lhs; simp [execOp, go_sem, hc, e7])) ?_
                refine w_is (fun w => Below.refl _ w) _ (.inl rfl) (fun ρ w hC hc hfn hf => by have e34 : ρ (.tmp 34) = _ := hf 34 (by decide); (conv => lhs; simp [execOp, go_sem, hc, e34])) ?_
                refine w_is (fun w => Below.refl _ w) _ (.inl rfl) (fun ρ w hC hc hfn hf => by have e35 : ρ (.tmp 35) = _ := hf 35 (by decide); (conv => lhs; simp [execOp, go_sem, hc, e35])) ?_
                refine w_is (fun w => Below.refl _ w) _ (.inr ⟨2, 36, true, rfl, rfl, known_is rfl⟩) (fun ρ w hC hc hfn hf => by have e5 : ρ (.tmp 5) = _ := hf 5 (by decide); (conv => lhs; simp [execOp, go_sem, hc, e5, kc w hC])) ?_
                refine w_is (fun w => Below.refl _ w) _ (.inr ⟨2, 36, true, rfl, rfl, known_is rfl⟩) (fun ρ w hC hc hfn hf => by have e3 : ρ (.tmp 3) = _ := hf 3 (by decide); (conv => lhs; simp [execOp, go_sem, hc, e3])) ?_
                refine w_is (fun w => Below.refl _ w) _ (.inr ⟨2, 36, true, rfl, rfl, known_is rfl⟩) (fun ρ w hC hc hfn hf => by have e8 : ρ (.tmp 8) = _ := hf 8 (by decide); (conv => lhs; simp [execOp, go_sem, hc, e8])) ?_
                refine w_is (fun w => Below.refl _ w) _ (.inr ⟨2, 36, true, rfl, rfl, known_is rfl⟩) (fun ρ w hC hc hfn hf => by have e38 : ρ (.tmp 38) = _ := hf 38 (by decide); have e39 : ρ (.tmp 39) = _ := hf 39 (by decide); (conv => lhs; simp [execOp, go_sem, hc, e38, e39, hjt])) ?_
                refine w_is (fun w => Below.refl _ w) _ (.inr ⟨2, 36, true, rfl, rfl, known_is rfl⟩) (fun ρ w hC hc hfn hf => by have e40 : ρ (.tmp 40) = _ := hf 40 (by decide); (conv => lhs; simp [execOp, go_sem, hc, e40, kc w hC])) ?_
                refine w_call (Is _) (fun _ _ _ h _ => h) 42 (.inr ⟨2, 36, true, rfl, rfl, known_is rfl⟩) (fun ρ w hC hc hfn hf => by have e37 : ρ (.tmp 37) = _ := hf 37 (by decide); have e41 : ρ (.tmp 41) = _ := hf 41 (by decide); exact ⟨_, by (conv => lhs; simp [execOp, resolve, invoke, go_sem, hc, hfn, e37, e41]), tc_below hC (cO w)⟩) ?_
                refine w_is (fun w => Below.refl _ w) _ (.inr ⟨2, 36, true, rfl, rfl, known_is rfl⟩) (fun ρ w hC hc hfn hf => by have e42 : ρ (.tmp 42) = _ := hf 42 (by decide); (conv => lhs; simp [execOp, go_sem, hc, e42, hv])) ?_
                refine w_is (fun w => Below.refl _ w) _ (.inl rfl) (fun ρ w hC hc hfn hf => by have e36 : ρ (.tmp 36) = _ := hf 36 (by decide); have e43 : ρ (.tmp 43) = _ := hf 43 (by decide); (conv => lhs; simp [execOp, go_sem, hc, e36, e43])) ?_
                intro A V5 hC hn hd hf
                have y0 : A.eval (.tmp 0) = _ := Eq.trans (hf 0) (by conv => lhs; simp [go_sem])
                have y1 : A.eval (.tmp 1) = _ := Eq.trans (hf 1) (by conv => lhs; simp [go_sem])
                have y2 : A.eval (.tmp 2) = _ := Eq.trans (hf 2) (by conv => lhs; simp [go_sem])
                have y3 : A.eval (.tmp 3) = _ := Eq.trans (hf 3) (by conv => lhs; simp [go_sem])
                have y4 : A.eval (.tmp 4) = _ := Eq.trans (hf 4) (by conv => lhs; simp [go_sem])
                have y5 : A.eval (.tmp 5) = _ := Eq.trans (hf 5) (by conv => lhs; simp [go_sem])
                have y6 : A.eval (.tmp 6) = _ := Eq.trans (hf 6) (by conv => lhs; simp [go_sem])
                have y7 : A.eval (.tmp 7) = _ := Eq.trans (hf 7) (by conv => lhs; simp [go_sem])
                have y8 : A.eval (.tmp 8) = _ := Eq.trans (hf 8) (by conv => lhs; simp [go_sem])
                have y9 : A.eval (.tmp 9) = _ := Eq.trans (hf 9) (by conv => lhs; simp [go_sem])
                have y10 : A.eval (.tmp 10) = _ := Eq.trans (hf 10) (by conv => lhs; simp [go_sem])
                have y11 : A.eval (.tmp 11) = _ := Eq.trans (hf 11) (by conv => lhs; simp [go_sem])
                have y12 : A.eval (.tmp 12) = _ := Eq.trans (hf 12) (by conv => lhs; simp [go_sem])
                have y13 : A.eval (.tmp 13) = _ := Eq.trans (hf 13) (by conv => lhs; simp [go_sem])
                have y14 : A.eval (.tmp 14) = _ := Eq.trans (hf 14) (by conv => lhs; simp [go_sem])
                have y15 : A.eval (.tmp 15) = _ := Eq.trans (hf 15) (by conv => lhs; simp [go_sem])
                have y16 : A.eval (.tmp 16) = _ := Eq.trans (hf 16) (by conv => lhs; simp [go_sem])
                have y17 : A.eval (.tmp 17) = _ := Eq.trans (hf 17) (by conv => lhs; simp [go_sem])
                have y18 : A.eval (.tmp 18) = _ := Eq.trans (hf 18) (by conv => lhs; simp [go_sem])
                have y19 : A.eval (.tmp 19) = _ := Eq.trans (hf 19) (by conv => lhs; simp [go_sem])
                have y20 : A.eval (.tmp 20) = _ := Eq.trans (hf 20) (by conv => lhs; simp [go_sem])
                have y21 : A.eval (.tmp 21) = _ := Eq.trans (hf 21) (by conv => lhs; simp [go_sem])
                have y22 : A.eval (.tmp 22) = _ := Eq.trans (hf 22) (by conv => lhs; simp [go_sem])
                have y23 : A.eval (.tmp 23) = _ := Eq.trans (hf 23) (by conv => lhs; simp [go_sem])
                have y24 : A.eval (.tmp 24) = _ := Eq.trans (hf 24) (by conv => lhs; simp [go_sem])
                have y25 : A.eval (.tmp 25) = _ := Eq.trans (hf 25) (by conv => lhs; simp [go_sem])
                have y26 : A.eval (.tmp 26) = _ := Eq.trans (hf 26) (by conv => lhs; simp [go_sem])
                have y27 : A.eval (.tmp 27) = _ := Eq.trans (hf 27) (by conv => lhs; simp [go_sem])
                have y28 : A.eval (.tmp 28) = _ := Eq.trans (hf 28) (by conv => lhs; simp [go_sem])
                have y29 : A.eval (.tmp 29) = _ := Eq.trans (hf 29) (by conv => lhs; simp [go_sem])
                have y30 : A.eval (.tmp 30) = _ := Eq.trans (hf 30) (by conv => lhs; simp [go_sem])
                have y31 : A.eval (.tmp 31) = _ := Eq.trans (hf 31) (by conv => lhs; simp [go_sem])
                have y32 : A.eval (.tmp 32) = _ := Eq.trans (hf 32) (by conv => lhs; simp [go_sem])
                have y33 : A.eval (.tmp 33) = _ := Eq.trans (hf 33) (by conv => lhs; simp [go_sem])
                have y34 : A.eval (.tmp 34) = _ := hf 34
                have y35 : A.eval (.tmp 35) = _ := hf 35
                have y36 : A.eval (.tmp 36) = _ := hf 36
                have y37 : A.eval (.tmp 37) = _ := hf 37
                have y38 : A.eval (.tmp 38) = _ := hf 38
                have y39 : A.eval (.tmp 39) = _ := hf 39
                have y40 : A.eval (.tmp 40) = _ := hf 40
                have y41 : A.eval (.tmp 41) = _ := hf 41
                have y42 : A.eval (.tmp 42) = _ := hf 42
                have y43 : A.eval (.tmp 43) = _ := hf 43
                have y44 : A.eval (.tmp 44) = _ := hf 44
                have y45 : A.eval (.tmp 45) = _ := Eq.trans (hf 45) (by conv => lhs; simp [go_sem])
                have y46 : A.eval (.tmp 46) = _ := Eq.trans (hf 46) (by conv => lhs; simp [go_sem])
                have y47 : A.eval (.tmp 47) = _ := Eq.trans (hf 47) (by conv => lhs; simp [go_sem])
                have y48 : A.eval (.tmp 48) = _ := Eq.trans (hf 48) (by conv => lhs; simp [go_sem])
                have y49 : A.eval (.tmp 49) = _ := Eq.trans (hf 49) (by conv => lhs; simp [go_sem])
                have y50 : A.eval (.tmp 50) = _ := Eq.trans (hf 50) (by conv => lhs; simp [go_sem])
                have y51 : A.eval (.tmp 51) = _ := Eq.trans (hf 51) (by conv => lhs; simp [go_sem])
                have y52 : A.eval (.tmp 52) = _ := Eq.trans (hf 52) (by conv => lhs; simp [go_sem])
                have y53 : A.eval (.tmp 53) = _ := Eq.trans (hf 53) (by conv => lhs; simp [go_sem])
                have y54 : A.eval (.tmp 54) = _ := Eq.trans (hf 54) (by conv => lhs; simp [go_sem])
                have y55 : A.eval (.tmp 55) = _ := Eq.trans (hf 55) (by conv => lhs; simp [go_sem])
                have y56 : A.eval (.tmp 56) = _ := Eq.trans (hf 56) (by conv => lhs; simp [go_sem])
                have y57 : A.eval (.tmp 57) = _ := Eq.trans (hf 57) (by conv => lhs; simp [go_sem])
                have y58 : A.eval (.tmp 58) = _ := Eq.trans (hf 58) (by conv => lhs; simp [go_sem])
                have y59 : A.eval (.tmp 59) = _ := Eq.trans (hf 59) (by conv => lhs; simp [go_sem])
                have y60 : A.eval (.tmp 60) = _ := Eq.trans (hf 60) (by conv => lhs; simp [go_sem])
                have y61 : A.eval (.tmp 61) = _ := Eq.trans (hf 61) (by conv => lhs; simp [go_sem])
                have y62 : A.eval (.tmp 62) = _ := Eq.trans (hf 62) (by conv => lhs; simp [go_sem])
                have y63 : A.eval (.tmp 63) = _ := Eq.trans (hf 63) (by conv => lhs; simp [go_sem])
                have y64 : A.eval (.tmp 64) = _ := Eq.trans (hf 64) (by conv => lhs; simp [go_sem])
                have y65 : A.eval (.tmp 65) = _ := Eq.trans (hf 65) (by conv => lhs; simp [go_sem])
                have y66 : A.eval (.tmp 66) = _ := Eq.trans (hf 66) (by conv => lhs; simp [go_sem])
                have y67 : A.eval (.tmp 67) = _ := Eq.trans (hf 67) (by conv => lhs; simp [go_sem])
                have y68 : A.eval (.tmp 68) = _ := Eq.trans (hf 68) (by conv => lhs; simp [go_sem])
                have y69 : A.eval (.tmp 69) = _ := Eq.trans (hf 69) (by conv => lhs; simp [go_sem])
                clear hf
                have hA := frame_eq hn
                rw [show List.range 70 = [0, 1, 2, 3, 4, 5, 6, 7, 8, 9, 10, 11, 12, 13, 14, 15, 16, 17, 18, 19, 20, 21, 22, 23, 24, 25, 26, 27, 28, 29, 30, 31, 32, 33, 34, 35, 36, 37, 38, 39, 40, 41, 42, 43, 44, 45, 46, 47, 48, 49, 50, 51, 52, 53, 54, 55, 56, 57, 58, 59, 60, 61, 62, 63, 64, 65, 66, 67, 68, 69] from rfl, hd] at hA
                simp only [List.map_cons, List.map_nil, y0, y1, y2, y3, y4, y5, y6, y7, y8, y9, y10, y11, y12, y13, y14, y15, y16, y17, y18, y19, y20, y21, y22, y23, y24, y25, y26, y27, y28, y29, y30, y31, y32, y33, y34, y35, y36, y37, y38, y39, y40, y41, y42, y43, y44, y45, y46, y47, y48, y49, y50, y51, y52, y53, y54, y55, y56, y57, y58, y59, y60, y61, y62, y63, y64, y65, y66, y67, y68, y69] at hA
                clear y0 y1 y2 y3 y4 y5 y6 y7 y8 y9 y10 y11 y12 y13 y14 y15 y16 y17 y18 y19 y20 y21 y22 y23 y24 y25 y26 y27 y28 y29 y30 y31 y32 y33 y34 y35 y36 y37 y38 y39 y40 y41 y42 y43 y44 y45 y46 y47 y48 y49 y50 y51 y52 y53 y54 y55 y56 y57 y58 y59 y60 y61 y62 y63 y64 y65 y66 y67 y68 y69
                clear hn hd
                subst hA
                have HB5 := Lib.hid (HB2.out.trans (hC.mono HB2.out.size))
                have HO5 := Lib.hid (HO2.out.below hC)
                clear hC kc HB2 HO2 cO
                go_wp2_with fail
                have kc5 : ∀ w', Below V5.heap.size V5 w' → (w'.cell? ⟨V1.heap.size, 0, none⟩ = some (.int .i64 v3.1) ∧ w'.cell? ⟨V1.heap.size, 1, none⟩ = some (.int .i64 v3.2.1) ∧ w'.cell? ⟨V1.heap.size, 2, none⟩ = some (.int .i64 v3.2.2)) ∧ (w'.cell? ⟨b2, off + j * 3, none⟩ = some (.int .i64 x.1) ∧ w'.cell? ⟨b2, off + j * 3 + 1, none⟩ = some (.int .i64 x.2.1) ∧ w'.cell? ⟨b2, off + j * 3 + 2, none⟩ = some (.int .i64 x.2.2)) := fun w' hb => by
                  have h1 := KC.out w' (HB5.out.trans (hb.mono HB5.out.size))
                  simp only [C3, Nat.zero_add] at h1
                  exact h1
                by_cases he : x = v3
                · have HST : Hid ((os.take (j + 1)).foldl (lvS v3) ([], false) = (ms, false)) := by
                    show _ = _
                    rw [hst, hs1, if_pos he]
                  have hIf : ∀ {α : Type} (X Y : α), (if x.1 = v3.1 then if x.2.1 = v3.2.1 then if x.2.2 = v3.2.2 then X else Y else Y else Y) = X := by
                    intro α X Y
                    obtain ⟨h1, h2, h3⟩ : x.1 = v3.1 ∧ x.2.1 = v3.2.1 ∧ x.2.2 = v3.2.2 := by rw [he]; exact ⟨rfl, rfl, rfl⟩
                    rw [if_pos h1, if_pos h2, if_pos h3]
                  clear he hst hs1
                  go_upto_region 15 with (fail)
                  refine wp_region_typed (C := fun w' => Below V5.heap.size V5 w') (X := fun w w' => Below w.heap.size w w') (n := 70) (by kernel_rfl) (by kernel_rfl) rfl (fun w => Below.refl _ w) (Below.refl _ _).drew ?_
                  refine w_is (fun w => Below.refl _ w) _ (.inl rfl) (fun ρ w hC hc hfn hf => by have e3 : ρ (.tmp 3) = _ := hf 3 (by decide); (conv => lhs; simp [execOp, go_sem, hc, e3])) ?_
                  refine w_is (fun w => Below.refl _ w) _ (.inl rfl) (fun ρ w hC hc hfn hf => by have e8 : ρ (.tmp 8) = _ := hf 8 (by decide); (conv => lhs; simp [execOp, go_sem, hc, e8])) ?_
                  refine w_is (fun w => Below.refl _ w) _ (.inl rfl) (fun ρ w hC hc hfn hf => by have e49 : ρ (.tmp 49) = _ := hf 49 (by decide); have e50 : ρ (.tmp 50) = _ := hf 50 (by decide); (conv => lhs; simp [execOp, go_sem, hc, e49, e50, hjt])) ?_
                  refine w_is (fun w => Below.refl _ w) _ (.inl rfl) (fun ρ w hC hc hfn hf => by have e51 : ρ (.tmp 51) = _ := hf 51 (by decide); (conv => lhs; simp [execOp, go_sem, hc, e51, kc5 w hC])) ?_
                  refine w_is (fun w => Below.refl _ w) _ (.inl rfl) (fun ρ w hC hc hfn hf => by have e5 : ρ (.tmp 5) = _ := hf 5 (by decide); (conv => lhs; simp [execOp, go_sem, hc, e5, kc5 w hC])) ?_
                  refine w_is (fun w => Below.refl _ w) _ (.inl rfl) (fun ρ w hC hc hfn hf => by have e52 : ρ (.tmp 52) = _ := hf 52 (by decide); have e53 : ρ (.tmp 53) = _ := hf 53 (by decide); (conv => lhs; simp [execOp, go_sem, hc, e52, e53, hIf, guard25])) ?_
                  intro A V7 hC hn hd hf
                  have y0 : A.eval (.tmp 0) = _ := Eq.trans (hf 0) (by conv => lhs; simp [go_sem])
                  have y1 : A.eval (.tmp 1) = _ := Eq.trans (hf 1) (by conv => lhs; simp [go_sem])
                  have y2 : A.eval (.tmp 2) = _ := Eq.trans (hf 2) (by conv => lhs; simp [go_sem])
                  have y3 : A.eval (.tmp 3) = _ := Eq.trans (hf 3) (by conv => lhs; simp [go_sem])
                  have y4 : A.eval (.tmp 4) = _ := Eq.trans (hf 4) (by conv => lhs; simp [go_sem])
                  have y5 : A.eval (.tmp 5) = _ := Eq.trans (hf 5) (by conv => lhs; simp [go_sem])
                  have y6 : A.eval (.tmp 6) = _ := Eq.trans (hf 6) (by conv => lhs; simp [go_sem])
                  have y7 : A.eval (.tmp 7) = _ := Eq.trans (hf 7) (by conv => lhs; simp [go_sem])
                  have y8 : A.eval (.tmp 8) = _ := Eq.trans (hf 8) (by conv => lhs; simp [go_sem])
                  have y9 : A.eval (.tmp 9) = _ := Eq.trans (hf 9) (by conv => lhs; simp [go_sem])
                  have y10 : A.eval (.tmp 10) = _ := Eq.trans (hf 10) (by conv => lhs; simp [go_sem])
                  have y11 : A.eval (.tmp 11) = _ := Eq.trans (hf 11) (by conv => lhs; simp [go_sem])
                  have y12 : A.eval (.tmp 12) = _ := Eq.trans (hf 12) (by conv => lhs; simp [go_sem])
                  have y13 : A.eval (.tmp 13) = _ := Eq.trans (hf 13) (by conv => lhs; simp [go_sem])
                  have y14 : A.eval (.tmp 14) = _ := Eq.trans (hf 14) (by conv => lhs; simp [go_sem])
                  have y15 : A.eval (.tmp 15) = _ := Eq.trans (hf 15) (by conv => lhs; simp [go_sem])
                  have y16 : A.eval (.tmp 16) = _ := Eq.trans (hf 16) (by conv => lhs; simp [go_sem])
                  have y17 : A.eval (.tmp 17) = _ := Eq.trans (hf 17) (by conv => lhs; simp [go_sem])
                  have y18 : A.eval (.tmp 18) = _ := Eq.trans (hf 18) (by conv => lhs; simp [go_sem])
                  have y19 : A.eval (.tmp 19) = _ := Eq.trans (hf 19) (by conv => lhs; simp [go_sem])
                  have y20 : A.eval (.tmp 20) = _ := Eq.trans (hf 20) (by conv => lhs; simp [go_sem])
                  have y21 : A.eval (.tmp 21) = _ := Eq.trans (hf 21) (by conv => lhs; simp [go_sem])
                  have y22 : A.eval (.tmp 22) = _ := Eq.trans (hf 22) (by conv => lhs; simp [go_sem])
                  have y23 : A.eval (.tmp 23) = _ := Eq.trans (hf 23) (by conv => lhs; simp [go_sem])
                  have y24 : A.eval (.tmp 24) = _ := Eq.trans (hf 24) (by conv => lhs; simp [go_sem])
                  have y25 : A.eval (.tmp 25) = _ := Eq.trans (hf 25) (by conv => lhs; simp [go_sem])
                  have y26 : A.eval (.tmp 26) = _ := Eq.trans (hf 26) (by conv => lhs; simp [go_sem])
                  have y27 : A.eval (.tmp 27) = _ := Eq.trans (hf 27) (by conv => lhs; simp [go_sem])
                  have y28 : A.eval (.tmp 28) = _ := Eq.trans (hf 28) (by conv => lhs; simp [go_sem])
                  have y29 : A.eval (.tmp 29) = _ := Eq.trans (hf 29) (by conv => lhs; simp [go_sem])
                  have y30 : A.eval (.tmp 30) = _ := Eq.trans (hf 30) (by conv => lhs; simp [go_sem])
                  have y31 : A.eval (.tmp 31) = _ := Eq.trans (hf 31) (by conv => lhs; simp [go_sem])
                  have y32 : A.eval (.tmp 32) = _ := Eq.trans (hf 32) (by conv => lhs; simp [go_sem])
                  have y33 : A.eval (.tmp 33) = _ := Eq.trans (hf 33) (by conv => lhs; simp [go_sem])
                  have y34 : A.eval (.tmp 34) = _ := Eq.trans (hf 34) (by conv => lhs; simp [go_sem])
                  have y35 : A.eval (.tmp 35) = _ := Eq.trans (hf 35) (by conv => lhs; simp [go_sem])
                  have y36 : A.eval (.tmp 36) = _ := Eq.trans (hf 36) (by conv => lhs; simp [go_sem])
                  have y37 : A.eval (.tmp 37) = _ := Eq.trans (hf 37) (by conv => lhs; simp [go_sem])
                  have y38 : A.eval (.tmp 38) = _ := Eq.trans (hf 38) (by conv => lhs; simp [go_sem])
                  have y39 : A.eval (.tmp 39) = _ := Eq.trans (hf 39) (by conv => lhs; simp [go_sem])
                  have y40 : A.eval (.tmp 40) = _ := Eq.trans (hf 40) (by conv => lhs; simp [go_sem])
                  have y41 : A.eval (.tmp 41) = _ := Eq.trans (hf 41) (by conv => lhs; simp [go_sem])
                  have y42 : A.eval (.tmp 42) = _ := Eq.trans (hf 42) (by conv => lhs; simp [go_sem])
                  have y43 : A.eval (.tmp 43) = _ := Eq.trans (hf 43) (by conv => lhs; simp [go_sem])
                  have y44 : A.eval (.tmp 44) = _ := Eq.trans (hf 44) (by conv => lhs; simp [go_sem])
                  have y45 : A.eval (.tmp 45) = _ := Eq.trans (hf 45) (by conv => lhs; simp [go_sem])
                  have y46 : A.eval (.tmp 46) = _ := Eq.trans (hf 46) (by conv => lhs; simp [go_sem])
                  have y47 : A.eval (.tmp 47) = _ := Eq.trans (hf 47) (by conv => lhs; simp [go_sem])
                  have y48 : A.eval (.tmp 48) = _ := Eq.trans (hf 48) (by conv => lhs; simp [go_sem])
                  have y49 : A.eval (.tmp 49) = _ := hf 49
                  have y50 : A.eval (.tmp 50) = _ := hf 50
                  have y51 : A.eval (.tmp 51) = _ := hf 51
                  have y52 : A.eval (.tmp 52) = _ := hf 52
                  have y53 : A.eval (.tmp 53) = _ := hf 53
                  have y54 : A.eval (.tmp 54) = _ := hf 54
                  have y55 : A.eval (.tmp 55) = _ := Eq.trans (hf 55) (by conv => lhs; simp [go_sem])
                  have y56 : A.eval (.tmp 56) = _ := Eq.trans (hf 56) (by conv => lhs; simp [go_sem])
                  have y57 : A.eval (.tmp 57) = _ := Eq.trans (hf 57) (by conv => lhs; simp [go_sem])
                  have y58 : A.eval (.tmp 58) = _ := Eq.trans (hf 58) (by conv => lhs; simp [go_sem])
                  have y59 : A.eval (.tmp 59) = _ := Eq.trans (hf 59) (by conv => lhs; simp [go_sem])
                  have y60 : A.eval (.tmp 60) = _ := Eq.trans (hf 60) (by conv => lhs; simp [go_sem])
                  have y61 : A.eval (.tmp 61) = _ := Eq.trans (hf 61) (by conv => lhs; simp [go_sem])
                  have y62 : A.eval (.tmp 62) = _ := Eq.trans (hf 62) (by conv => lhs; simp [go_sem])
                  have y63 : A.eval (.tmp 63) = _ := Eq.trans (hf 63) (by conv => lhs; simp [go_sem])
                  have y64 : A.eval (.tmp 64) = _ := Eq.trans (hf 64) (by conv => lhs; simp [go_sem])
                  have y65 : A.eval (.tmp 65) = _ := Eq.trans (hf 65) (by conv => lhs; simp [go_sem])
                  have y66 : A.eval (.tmp 66) = _ := Eq.trans (hf 66) (by conv => lhs; simp [go_sem])
                  have y67 : A.eval (.tmp 67) = _ := Eq.trans (hf 67) (by conv => lhs; simp [go_sem])
                  have y68 : A.eval (.tmp 68) = _ := Eq.trans (hf 68) (by conv => lhs; simp [go_sem])
                  have y69 : A.eval (.tmp 69) = _ := Eq.trans (hf 69) (by conv => lhs; simp [go_sem])
                  clear hf
                  have hA := frame_eq hn
                  rw [show List.range 70 = [0, 1, 2, 3, 4, 5, 6, 7, 8, 9, 10, 11, 12, 13, 14, 15, 16, 17, 18, 19, 20, 21, 22, 23, 24, 25, 26, 27, 28, 29, 30, 31, 32, 33, 34, 35, 36, 37, 38, 39, 40, 41, 42, 43, 44, 45, 46, 47, 48, 49, 50, 51, 52, 53, 54, 55, 56, 57, 58, 59, 60, 61, 62, 63, 64, 65, 66, 67, 68, 69] from rfl, hd] at hA
                  simp only [List.map_cons, List.map_nil, y0, y1, y2, y3, y4, y5, y6, y7, y8, y9, y10, y11, y12, y13, y14, y15, y16, y17, y18, y19, y20, y21, y22, y23, y24, y25, y26, y27, y28, y29, y30, y31, y32, y33, y34, y35, y36, y37, y38, y39, y40, y41, y42, y43, y44, y45, y46, y47, y48, y49, y50, y51, y52, y53, y54, y55, y56, y57, y58, y59, y60, y61, y62, y63, y64, y65, y66, y67, y68, y69] at hA
                  clear y0 y1 y2 y3 y4 y5 y6 y7 y8 y9 y10 y11 y12 y13 y14 y15 y16 y17 y18 y19 y20 y21 y22 y23 y24 y25 y26 y27 y28 y29 y30 y31 y32 y33 y34 y35 y36 y37 y38 y39 y40 y41 y42 y43 y44 y45 y46 y47 y48 y49 y50 y51 y52 y53 y54 y55 y56 y57 y58 y59 y60 y61 y62 y63 y64 y65 y66 y67 y68 y69
                  clear hn hd
                  subst hA
                  have HB7 := Lib.hid (HB5.out.trans (hC.mono HB5.out.size))
                  have HO7 := Lib.hid (HO5.out.below hC)
                  clear hC kc5 hIf HB5 HO5
                  go_wp2_with fail
                  go_roundw
                  case rel => exact ⟨j + 1, ma, mc, ms, false, by omega, by go_num, rfl, rfl, HST.out, HO7.out, HB7.out⟩
                  case measure => simp [intOf]; omega
                · have HST : Hid ((os.take (j + 1)).foldl (lvS v3) ([], false) = (ms ++ [x], false)) := by
                    show _ = _
                    rw [hst, hs1, if_neg he]
                  have hIf : ∀ {α : Type} (X Y : α), (if x.1 = v3.1 then if x.2.1 = v3.2.1 then if x.2.2 = v3.2.2 then X else Y else Y else Y) = Y := by
                    intro α X Y
                    by_cases h1 : x.1 = v3.1
                    · rw [if_pos h1]
                      by_cases h2 : x.2.1 = v3.2.1
                      · rw [if_pos h2, if_neg (fun h3 => he (Prod.ext h1 (Prod.ext h2 h3)))]
                      · rw [if_neg h2]
                    · rw [if_neg h1]
                  clear he hst hs1
                  go_upto_region 15 with (fail)
                  refine wp_region_typed (C := fun w' => Below V5.heap.size V5 w') (X := fun w w' => Below w.heap.size w w') (n := 70) (by kernel_rfl) (by kernel_rfl) rfl (fun w => Below.refl _ w) (Below.refl _ _).drew ?_
                  refine w_is (fun w => Below.refl _ w) _ (.inl rfl) (fun ρ w hC hc hfn hf => by have e3 : ρ (.tmp 3) = _ := hf 3 (by decide); (conv => lhs; simp [execOp, go_sem, hc, e3])) ?_
                  refine w_is (fun w => Below.refl _ w) _ (.inl rfl) (fun ρ w hC hc hfn hf => by have e8 : ρ (.tmp 8) = _ := hf 8 (by decide); (conv => lhs; simp [execOp, go_sem, hc, e8])) ?_
                  refine w_is (fun w => Below.refl _ w) _ (.inl rfl) (fun ρ w hC hc hfn hf => by have e49 : ρ (.tmp 49) = _ := hf 49 (by decide); have e50 : ρ (.tmp 50) = _ := hf 50 (by decide); (conv => lhs; simp [execOp, go_sem, hc, e49, e50, hjt])) ?_
                  refine w_is (fun w => Below.refl _ w) _ (.inl rfl) (fun ρ w hC hc hfn hf => by have e51 : ρ (.tmp 51) = _ := hf 51 (by decide); (conv => lhs; simp [execOp, go_sem, hc, e51, kc5 w hC])) ?_
                  refine w_is (fun w => Below.refl _ w) _ (.inl rfl) (fun ρ w hC hc hfn hf => by have e5 : ρ (.tmp 5) = _ := hf 5 (by decide); (conv => lhs; simp [execOp, go_sem, hc, e5, kc5 w hC])) ?_
                  refine w_is (fun w => Below.refl _ w) _ (.inl rfl) (fun ρ w hC hc hfn hf => by have e52 : ρ (.tmp 52) = _ := hf 52 (by decide); have e53 : ρ (.tmp 53) = _ := hf 53 (by decide); (conv => lhs; simp [execOp, go_sem, hc, e52, e53, hIf, guard25])) ?_
                  intro A V7 hC hn hd hf
                  have y0 : A.eval (.tmp 0) = _ := Eq.trans (hf 0) (by conv => lhs; simp [go_sem])
                  have y1 : A.eval (.tmp 1) = _ := Eq.trans (hf 1) (by conv => lhs; simp [go_sem])
                  have y2 : A.eval (.tmp 2) = _ := Eq.trans (hf 2) (by conv => lhs; simp [go_sem])
                  have y3 : A.eval (.tmp 3) = _ := Eq.trans (hf 3) (by conv => lhs; simp [go_sem])
                  have y4 : A.eval (.tmp 4) = _ := Eq.trans (hf 4) (by conv => lhs; simp [go_sem])
                  have y5 : A.eval (.tmp 5) = _ := Eq.trans (hf 5) (by conv => lhs; simp [go_sem])
                  have y6 : A.eval (.tmp 6) = _ := Eq.trans (hf 6) (by conv => lhs; simp [go_sem])
                  have y7 : A.eval (.tmp 7) = _ := Eq.trans (hf 7) (by conv => lhs; simp [go_sem])
                  have y8 : A.eval (.tmp 8) = _ := Eq.trans (hf 8) (by conv => lhs; simp [go_sem])
                  have y9 : A.eval (.tmp 9) = _ := Eq.trans (hf 9) (by conv => lhs; simp [go_sem])
                  have y10 : A.eval (.tmp 10) = _ := Eq.trans (hf 10) (by conv => lhs; simp [go_sem])
                  have y11 : A.eval (.tmp 11) = _ := Eq.trans (hf 11) (by conv => lhs; simp [go_sem])
                  have y12 : A.eval (.tmp 12) = _ := Eq.trans (hf 12) (by conv => lhs; simp [go_sem])
                  have y13 : A.eval (.tmp 13) = _ := Eq.trans (hf 13) (by conv => lhs; simp [go_sem])
                  have y14 : A.eval (.tmp 14) = _ := Eq.trans (hf 14) (by conv => lhs; simp [go_sem])
                  have y15 : A.eval (.tmp 15) = _ := Eq.trans (hf 15) (by conv => lhs; simp [go_sem])
                  have y16 : A.eval (.tmp 16) = _ := Eq.trans (hf 16) (by conv => lhs; simp [go_sem])
                  have y17 : A.eval (.tmp 17) = _ := Eq.trans (hf 17) (by conv => lhs; simp [go_sem])
                  have y18 : A.eval (.tmp 18) = _ := Eq.trans (hf 18) (by conv => lhs; simp [go_sem])
                  have y19 : A.eval (.tmp 19) = _ := Eq.trans (hf 19) (by conv => lhs; simp [go_sem])
                  have y20 : A.eval (.tmp 20) = _ := Eq.trans (hf 20) (by conv => lhs; simp [go_sem])
                  have y21 : A.eval (.tmp 21) = _ := Eq.trans (hf 21) (by conv => lhs; simp [go_sem])
                  have y22 : A.eval (.tmp 22) = _ := Eq.trans (hf 22) (by conv => lhs; simp [go_sem])
                  have y23 : A.eval (.tmp 23) = _ := Eq.trans (hf 23) (by conv => lhs; simp [go_sem])
                  have y24 : A.eval (.tmp 24) = _ := Eq.trans (hf 24) (by conv => lhs; simp [go_sem])
                  have y25 : A.eval (.tmp 25) = _ := Eq.trans (hf 25) (by conv => lhs; simp [go_sem])
                  have y26 : A.eval (.tmp 26) = _ := Eq.trans (hf 26) (by conv => lhs; simp [go_sem])
                  have y27 : A.eval (.tmp 27) = _ := Eq.trans (hf 27) (by conv => lhs; simp [go_sem])
                  have y28 : A.eval (.tmp 28) = _ := Eq.trans (hf 28) (by conv => lhs; simp [go_sem])
                  have y29 : A.eval (.tmp 29) = _ := Eq.trans (hf 29) (by conv => lhs; simp [go_sem])
                  have y30 : A.eval (.tmp 30) = _ := Eq.trans (hf 30) (by conv => lhs; simp [go_sem])
                  have y31 : A.eval (.tmp 31) = _ := Eq.trans (hf 31) (by conv => lhs; simp [go_sem])
                  have y32 : A.eval (.tmp 32) = _ := Eq.trans (hf 32) (by conv => lhs; simp [go_sem])
                  have y33 : A.eval (.tmp 33) = _ := Eq.trans (hf 33) (by conv => lhs; simp [go_sem])
                  have y34 : A.eval (.tmp 34) = _ := Eq.trans (hf 34) (by conv => lhs; simp [go_sem])
                  have y35 : A.eval (.tmp 35) = _ := Eq.trans (hf 35) (by conv => lhs; simp [go_sem])
                  have y36 : A.eval (.tmp 36) = _ := Eq.trans (hf 36) (by conv => lhs; simp [go_sem])
                  have y37 : A.eval (.tmp 37) = _ := Eq.trans (hf 37) (by conv => lhs; simp [go_sem])
                  have y38 : A.eval (.tmp 38) = _ := Eq.trans (hf 38) (by conv => lhs; simp [go_sem])
                  have y39 : A.eval (.tmp 39) = _ := Eq.trans (hf 39) (by conv => lhs; simp [go_sem])
                  have y40 : A.eval (.tmp 40) = _ := Eq.trans (hf 40) (by conv => lhs; simp [go_sem])
                  have y41 : A.eval (.tmp 41) = _ := Eq.trans (hf 41) (by conv => lhs; simp [go_sem])
                  have y42 : A.eval (.tmp 42) = _ := Eq.trans (hf 42) (by conv => lhs; simp [go_sem])
                  have y43 : A.eval (.tmp 43) = _ := Eq.trans (hf 43) (by conv => lhs; simp [go_sem])
                  have y44 : A.eval (.tmp 44) = _ := Eq.trans (hf 44) (by conv => lhs; simp [go_sem])
                  have y45 : A.eval (.tmp 45) = _ := Eq.trans (hf 45) (by conv => lhs; simp [go_sem])
                  have y46 : A.eval (.tmp 46) = _ := Eq.trans (hf 46) (by conv => lhs; simp [go_sem])
                  have y47 : A.eval (.tmp 47) = _ := Eq.trans (hf 47) (by conv => lhs; simp [go_sem])
                  have y48 : A.eval (.tmp 48) = _ := Eq.trans (hf 48) (by conv => lhs; simp [go_sem])
                  have y49 : A.eval (.tmp 49) = _ := hf 49
                  have y50 : A.eval (.tmp 50) = _ := hf 50
                  have y51 : A.eval (.tmp 51) = _ := hf 51
                  have y52 : A.eval (.tmp 52) = _ := hf 52
                  have y53 : A.eval (.tmp 53) = _ := hf 53
                  have y54 : A.eval (.tmp 54) = _ := hf 54
                  have y55 : A.eval (.tmp 55) = _ := Eq.trans (hf 55) (by conv => lhs; simp [go_sem])
                  have y56 : A.eval (.tmp 56) = _ := Eq.trans (hf 56) (by conv => lhs; simp [go_sem])
                  have y57 : A.eval (.tmp 57) = _ := Eq.trans (hf 57) (by conv => lhs; simp [go_sem])
                  have y58 : A.eval (.tmp 58) = _ := Eq.trans (hf 58) (by conv => lhs; simp [go_sem])
                  have y59 : A.eval (.tmp 59) = _ := Eq.trans (hf 59) (by conv => lhs; simp [go_sem])
                  have y60 : A.eval (.tmp 60) = _ := Eq.trans (hf 60) (by conv => lhs; simp [go_sem])
                  have y61 : A.eval (.tmp 61) = _ := Eq.trans (hf 61) (by conv => lhs; simp [go_sem])
                  have y62 : A.eval (.tmp 62) = _ := Eq.trans (hf 62) (by conv => lhs; simp [go_sem])
                  have y63 : A.eval (.tmp 63) = _ := Eq.trans (hf 63) (by conv => lhs; simp [go_sem])
                  have y64 : A.eval (.tmp 64) = _ := Eq.trans (hf 64) (by conv => lhs; simp [go_sem])
                  have y65 : A.eval (.tmp 65) = _ := Eq.trans (hf 65) (by conv => lhs; simp [go_sem])
                  have y66 : A.eval (.tmp 66) = _ := Eq.trans (hf 66) (by conv => lhs; simp [go_sem])
                  have y67 : A.eval (.tmp 67) = _ := Eq.trans (hf 67) (by conv => lhs; simp [go_sem])
                  have y68 : A.eval (.tmp 68) = _ := Eq.trans (hf 68) (by conv => lhs; simp [go_sem])
                  have y69 : A.eval (.tmp 69) = _ := Eq.trans (hf 69) (by conv => lhs; simp [go_sem])
                  clear hf
                  have hA := frame_eq hn
                  rw [show List.range 70 = [0, 1, 2, 3, 4, 5, 6, 7, 8, 9, 10, 11, 12, 13, 14, 15, 16, 17, 18, 19, 20, 21, 22, 23, 24, 25, 26, 27, 28, 29, 30, 31, 32, 33, 34, 35, 36, 37, 38, 39, 40, 41, 42, 43, 44, 45, 46, 47, 48, 49, 50, 51, 52, 53, 54, 55, 56, 57, 58, 59, 60, 61, 62, 63, 64, 65, 66, 67, 68, 69] from rfl, hd] at hA
                  simp only [List.map_cons, List.map_nil, y0, y1, y2, y3, y4, y5, y6, y7, y8, y9, y10, y11, y12, y13, y14, y15, y16, y17, y18, y19, y20, y21, y22, y23, y24, y25, y26, y27, y28, y29, y30, y31, y32, y33, y34, y35, y36, y37, y38, y39, y40, y41, y42, y43, y44, y45, y46, y47, y48, y49, y50, y51, y52, y53, y54, y55, y56, y57, y58, y59, y60, y61, y62, y63, y64, y65, y66, y67, y68, y69] at hA
                  clear y0 y1 y2 y3 y4 y5 y6 y7 y8 y9 y10 y11 y12 y13 y14 y15 y16 y17 y18 y19 y20 y21 y22 y23 y24 y25 y26 y27 y28 y29 y30 y31 y32 y33 y34 y35 y36 y37 y38 y39 y40 y41 y42 y43 y44 y45 y46 y47 y48 y49 y50 y51 y52 y53 y54 y55 y56 y57 y58 y59 y60 y61 y62 y63 y64 y65 y66 y67 y68 y69
                  clear hn hd
                  subst hA
                  have HB7 := Lib.hid (HB5.out.trans (hC.mono HB5.out.size))
                  have HO7 := Lib.hid (HO5.out.below hC)
                  have HSW : Hid (VL.heap.size ≤ V7.heap.size) := HB7.out.size
                  have HLE1 : Hid (ms.length ≤ 3000) := by show _ ≤ _; omega
                  obtain ⟨_, p0, p1, p2⟩ := kc5 V7 hC
                  clear hC kc5 hIf HB5 HO5
                  go_wp2_with (at_builtin; refine lapp1_any rfl (.tmp 55) (.tmp 60) rfl V7 x rfl VL.heap.size (.slice (ma) ms.length mc) ms rfl rfl HO7.out HLE1.out HSW.out ?_; intro g2 cap2 wa ho9 hb9; have HO1 := Lib.hid ho9; have HA1 := Lib.hid hb9; clear ho9 hb9)
                  go_roundw
                  case rel => exact ⟨j + 1, some ⟨g2, 0, none⟩, cap2, ms ++ [x], false, by omega, by go_num, rfl, by rw [List.length_append]; rfl, HST.out, by have h9 := HO1.out; rw [List.length_append]; exact h9, HB7.out.trans HA1.out⟩
                  case measure => simp [intOf]; omega
          · obtain rfl : j = os.length := by omega
            have hf := HF2.out
            rw [List.take_length] at hf
            have hfin : lvI (lv3 y) os = if dn = true then ms else ms ++ [v3] := by unfold lvI lvE; rw [HV3.out, hf]
            have HBX := Lib.hid (HBL.out.trans (HB2.out.mono HBL.out.size))
            cases dn with
            | true =>
              rw [if_pos rfl] at hfin
              have HFN : Hid (rlvF (l.take (k + 1)) = ms) := by show _ = _; rw [HST0.out, hfin]
              clear hf hfin
              go_wp2_with fail
              go_roundw
              case rel => exact ⟨k + 1, ma, mc, ms, by omega, by go_num, rfl, HFN.out, HO2.out.gs, HBX.out⟩
              case measure => simp [intOf]; omega
            | false =>
              rw [if_neg (by simp)] at hfin
              have HFN : Hid (rlvF (l.take (k + 1)) = ms ++ [v3]) := by show _ = _; rw [HST0.out, hfin]
              simp only [Bool.toNat_false, Nat.add_zero] at hml
              have HSW : Hid (VL.heap.size ≤ wr.heap.size) := HB2.out.size
              have HLE1 : Hid (ms.length ≤ 3000) := by show _ ≤ _; omega
              obtain ⟨p0, p1, p2⟩ := HC3.out.1.below HB2.out HC3.out.2
              simp only [Nat.zero_add] at p1 p2
              clear hf hfin
              go_wp2_with (at_builtin; refine lapp1_any rfl (.tmp 64) (.tmp 66) rfl wr v3 rfl VL.heap.size (.slice ma ms.length mc) ms rfl rfl HO2.out HLE1.out HSW.out ?_; intro g2 cap2 wa ho9 hb9; have HO1 := Lib.hid ho9; have HA1 := Lib.hid hb9; clear ho9 hb9)
              go_roundw
              case rel => exact ⟨k + 1, some ⟨g2, 0, none⟩, cap2, ms ++ [v3], by omega, by go_num, by rw [List.length_append]; rfl, HFN.out, by have h9 := HO1.out; have h8 := OwL.gs (l := ms ++ [v3]) h9; rw [List.length_append]; exact h8, HBX.out.trans (HA1.out.mono HBL.out.size)⟩
              case measure => simp [intOf]; omega
    · obtain rfl : k = l.length := by omega
      have h1 := HF.out
      rw [List.take_length] at h1
      have hz : Ls wA (.slice oa os.length oc) (rlvF l) := by rw [h1]; exact HO.out
      have HZ := Lib.hid hz
      clear hz h1
      go_wp2_with fail
      go_ret
      exact ⟨_, rfl, HZ.out, HB.out⟩
end Go.Proofs.Ytmimgpnogjgliaa
