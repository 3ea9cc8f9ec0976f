/- thalweglaw14.SenderOrder: for any numbers and script the law answers true; no condition. -/
import Derived.Test.YticjeknadddhoaaSm
import Derived.Test.YticjeknadddhoaaPn
import Derived.WalkLawsBesides
import Derived.WalkKit
import Derived.ProofKit
import Derived.OpenShut
import Derived.ShutString
import Derived.ChangeOld
import Derived.Below
namespace Go.Proofs.Yticjeknadddhoaa.senderOrder
open Go.ChangeShapes Go.WideShapes Go.ChangeAt Go.RowKit
open Go.ChangeMaps (open_string shut_string)
set_option linter.unusedVariables false
set_option maxRecDepth 100000

theorem own : ownKnob Try.prog.godebug = none := by kernel_rfl
theorem laidOut : laidOutB Try.prog = true := by kernel_rfl
set_option maxHeartbeats 64000000 in
theorem walk0 {PS : World → (Nat → Prop) → Nat → Sd → Prop} (dc : Dc PS) (a0 : Int) (a1 : Int) (a2 : Option Addr) (cap2 : Nat) (z2 : List Opn) (w : World) (r2 : Sc w (.slice a2 z2.length cap2) z2) :
    Calls Try.prog 4 #[.int .i64 a0, .int .i64 a1, .slice a2 z2.length cap2] w fun e w' => e = .returned (.bool true) ∧ Below w.heap.size w w' := by
  have r2 := Lib.hid r2
  have C1 := Lib.hid (dc.new a0 a1 w)
  go_enter Try.func4, Try.ntmps4
  go_wp2_with fail
  refine C1.out.mono ?_
  rintro e W1 ⟨hb1, h1⟩
  have HB1 := Lib.hid hb1
  rcases h1 with ⟨hn, rfl⟩ | ⟨hn, b, F1, rfl, hp1, hF1⟩
  · clear hn hb1 C1
    go_wp2_with fail
    refine (awake14 dc _).mono ?_
    rintro e W9 ⟨rfl, hb9⟩
    have HB9 := Lib.hid (HB1.out.trans (hb9.mono HB1.out.size))
    clear hb9
    go_wp2_with fail
    go_ret
    exact ⟨rfl, HB9.out⟩
  · have X1 : Hid (One PS w W1 F1 b (sd0 a0 a1)) := ⟨hp1, hF1, HB1.out⟩
    clear hn hb1 hp1 hF1 C1
    by_cases hl : 100 < z2.length
    · have hl' : (100 : Int) < (z2.length : Int) := by omega
      clear hl
      go_wp2_with fail
      refine (awake14 dc _).mono ?_
      rintro e W9 ⟨rfl, hb9⟩
      have HB9 := Lib.hid (HB1.out.trans (hb9.mono HB1.out.size))
      clear hb9
      go_wp2_with fail
      go_ret
      exact ⟨rfl, HB9.out⟩
    have hl' : ¬ (100 : Int) < (z2.length : Int) := by omega
    have HL : Hid (z2.length ≤ 100) := by show _ ≤ _; omega
    clear hl
    go_wp2_with fail
    clear hl'
    go_loopw [9, 10, 11, 12] (fun pv sv nv iv wr => ∃ (k : Nat) (F : Nat → Prop) (s : Sd) (P T : List Ob) (av bv : Option Addr) (ac bc : Nat), k ≤ z2.length ∧ iv = .int .i64 k ∧ pv = .slice av P.length ac ∧ sv = .slice bv T.length bc ∧ nv = .int .i64 s.nx ∧ Hid (One PS w wr F b s) ∧ Hid (RowF wr w.heap.size F (.slice av P.length ac) P) ∧ Hid (RowF wr w.heap.size F (.slice bv T.length bc) T) ∧ Hid (Apart (.slice av P.length ac) (.slice bv T.length bc)) ∧ Hid (T ++ s.W = P ∧ P.length ≤ k)) (fun _ _ _ i _ => z2.length - (intOf i).toNat)
    case atStart => exact ⟨0, F1, sd0 a0 a1, [], [], none, none, 0, 0, Nat.zero_le _, rfl, rfl, rfl, rfl, X1.out, RowF_nil _ _ _, RowF_nil _ _ _, fun g h => (by cases h), rfl, Nat.zero_le _⟩
    case round =>
      obtain ⟨k, F, s, P, T, av, bv, ac, bc, hk, rfl, rfl, rfl, rfl, X, PR, TR, AP, HH⟩ := hrel
      by_cases hlt : k < z2.length
      · obtain ⟨wo, hwo⟩ : ∃ wo, wo = wr := ⟨_, rfl⟩
        subst hwo
        obtain ⟨bs, offs, hbs, hlts, hcs⟩ := Sc.at (h := r2.out.below X.out.bel) hlt
        obtain ⟨⟨c, y, a⟩, hel⟩ : ∃ o : Opn, z2.getD k (0, z12, (0, 0, 0, 0)) = o := ⟨_, rfl⟩
        rw [hel] at hcs
        have q0 := hcs 0 (by decide)
        have q1 := hcs 1 (by decide)
        have q2 := hcs 2 (by decide)
        have q3 := hcs 3 (by decide)
        have q4 := hcs 4 (by decide)
        have q5 := hcs 5 (by decide)
        have q6 := hcs 6 (by decide)
        have q7 := hcs 7 (by decide)
        have q8 := hcs 8 (by decide)
        have q9 := hcs 9 (by decide)
        have q10 := hcs 10 (by decide)
        have q11 := hcs 11 (by decide)
        have q12 := hcs 12 (by decide)
        have q13 := hcs 13 (by decide)
        have q14 := hcs 14 (by decide)
        have q15 := hcs 15 (by decide)
        have q16 := hcs 16 (by decide)
        simp only [opc, Ob.cl, akc, List.cons_append, List.nil_append, List.getElem?_cons_zero, List.getElem?_cons_succ, Nat.add_zero] at q0 q1 q2 q3 q4 q5 q6 q7 q8 q9 q10 q11 q12 q13 q14 q15 q16
        subst hbs
        have hltz : (k : Int) < (z2.length : Int) := by omega
        have hq0 : (0 : Int) ≤ (k : Int) := by omega
        have hqn : ((k : Int)).toNat = k := Int.toNat_natCast k
        obtain ⟨V, hV⟩ : ∃ V, wo.alloc (.cells #[.int .i64 c, .int .i64 y.k, .int .i64 y.x, .bool y.n, .int .i64 y.t, .int .i64 y.o, .int .i64 y.r, .int .i64 y.d, .int .i64 y.i, .int .i64 y.p, .int .i64 y.q, .int .i64 y.s, .int .i64 y.m, .int .i64 a.1, .int .i64 a.2.1, .int .i64 a.2.2.1, .int .i64 a.2.2.2] 44) = V := ⟨_, rfl⟩
        have hbv : Below wo.heap.size wo V := hV ▸ (Below.refl _ wo).alloc (Nat.le_refl _) _
        obtain ⟨g0, hg0⟩ : ∃ g0, wo.heap.size = g0 := ⟨_, rfl⟩
        have HGV : Hid (g0 < V.heap.size) := by show _ < _; rw [← hg0, ← hV]; simp
        have hvc : V.cell? ⟨g0, 0, none⟩ = some (.int .i64 c) ∧ V.cell? ⟨g0, 1, none⟩ = some (.int .i64 y.k) ∧ V.cell? ⟨g0, 2, none⟩ = some (.int .i64 y.x) ∧ V.cell? ⟨g0, 3, none⟩ = some (.bool y.n) ∧ V.cell? ⟨g0, 4, none⟩ = some (.int .i64 y.t) ∧ V.cell? ⟨g0, 5, none⟩ = some (.int .i64 y.o) ∧ V.cell? ⟨g0, 6, none⟩ = some (.int .i64 y.r) ∧ V.cell? ⟨g0, 7, none⟩ = some (.int .i64 y.d) ∧ V.cell? ⟨g0, 8, none⟩ = some (.int .i64 y.i) ∧ V.cell? ⟨g0, 9, none⟩ = some (.int .i64 y.p) ∧ V.cell? ⟨g0, 10, none⟩ = some (.int .i64 y.q) ∧ V.cell? ⟨g0, 11, none⟩ = some (.int .i64 y.s) ∧ V.cell? ⟨g0, 12, none⟩ = some (.int .i64 y.m) ∧ V.cell? ⟨g0, 13, none⟩ = some (.int .i64 a.1) ∧ V.cell? ⟨g0, 14, none⟩ = some (.int .i64 a.2.1) ∧ V.cell? ⟨g0, 15, none⟩ = some (.int .i64 a.2.2.1) ∧ V.cell? ⟨g0, 16, none⟩ = some (.int .i64 a.2.2.2) := by
          rw [← hV, ← hg0]
          refine ⟨?_, ?_, ?_, ?_, ?_, ?_, ?_, ?_, ?_, ?_, ?_, ?_, ?_, ?_, ?_, ?_, ?_⟩ <;> simp
        have HVC := Lib.hid hvc
        have XV := Lib.hid (X.out.below dc hbv)
        have HV := Lib.hid hV
        have HBV := Lib.hid hbv
        have HG := Lib.hid hg0
        have HEL := Lib.hid hel
        have HNF : Hid (¬ F g0) := fun h => by have := dc.lt X.out.ps g0 h; omega
        clear hV hbv hg0 hel hcs hvc hlts
        go_upto_block 2 with fail
        rw [HV.out]
        simp only [HG.out]
        clear q0 q1 q2 q3 q4 q5 q6 q7 q8 q9 q10 q11 q12 q13 q14 q15 q16 hltz hq0 hqn
        obtain ⟨u0, u1, u2, u3, u4, u5, u6, u7, u8, u9, u10, u11, u12, u13, u14, u15, u16⟩ := HVC.out
        have PV := Lib.hid (PR.out.below (show Below wo.heap.size wo V from HBV.out))
        have TV := Lib.hid (TR.out.below (show Below wo.heap.size wo V from HBV.out))
        go_cut [9, 10, 11] from 45 to 93 (fun pv sv nv wx => ∃ (F : Nat → Prop) (s : Sd) (P T : List Ob) (av bv : Option Addr) (ac bc : Nat), pv = .slice av P.length ac ∧ sv = .slice bv T.length bc ∧ nv = .int .i64 s.nx ∧ Hid (One PS w wx F b s) ∧ Hid (RowF wx w.heap.size F (.slice av P.length ac) P) ∧ Hid (RowF wx w.heap.size F (.slice bv T.length bc) T) ∧ Hid (Apart (.slice av P.length ac) (.slice bv T.length bc)) ∧ Hid (T ++ s.W = P ∧ P.length ≤ k + 1))
        case first =>
          obtain ⟨hh1, hh2⟩ := HH.out
          by_cases h0 : c = 0
          · subst h0
            have C5 := Lib.hid (dc.push y XV.out.ps)
            by_cases hok : ¬ y.Ok
            · skip
              have hpr : pushR s y = (1, s) := by unfold pushR; rw [if_neg hok]
              rw [hpr] at C5
              clear hpr
              go_wp2_with fail
              refine C5.out.mono ?_
              rintro e W5 ⟨rfl, hc5, F5, hp5, hF5⟩
              have X5 := Lib.hid (XV.out.next hc5 hp5 hF5)
              have P5 := Lib.hid (PV.out.step hc5 hF5)
              have T5 := Lib.hid (TV.out.step hc5 hF5)
              have HR : Hid (T ++ s.W = P ∧ P.length ≤ k + 1) := ⟨hh1, by omega⟩
              clear hc5 hp5 hF5 C5 u0 u1 u2 u3 u4 u5 u6 u7 u8 u9 u10 u11 u12 u13 u14 u15 u16 hh1 hh2
              go_wp2_with fail
              go_meet
              case rel => exact ⟨F5, s, P, T, av, bv, ac, bc, rfl, rfl, rfl, X5.out, P5.out, T5.out, AP.out, HR.out⟩
            by_cases hfull : 1024 ≤ s.W.length
            · skip
              have hpr : pushR s y = (8, s) := by unfold pushR; rw [if_pos (Classical.not_not.1 hok), if_pos hfull]
              rw [hpr] at C5
              clear hpr
              go_wp2_with fail
              refine C5.out.mono ?_
              rintro e W5 ⟨rfl, hc5, F5, hp5, hF5⟩
              have X5 := Lib.hid (XV.out.next hc5 hp5 hF5)
              have P5 := Lib.hid (PV.out.step hc5 hF5)
              have T5 := Lib.hid (TV.out.step hc5 hF5)
              have HR : Hid (T ++ s.W = P ∧ P.length ≤ k + 1) := ⟨hh1, by omega⟩
              clear hc5 hp5 hF5 C5 u0 u1 u2 u3 u4 u5 u6 u7 u8 u9 u10 u11 u12 u13 u14 u15 u16 hh1 hh2
              go_wp2_with fail
              go_meet
              case rel => exact ⟨F5, s, P, T, av, bv, ac, bc, rfl, rfl, rfl, X5.out, P5.out, T5.out, AP.out, HR.out⟩
            have hpr : pushR s y = (0, { s with W := s.W ++ [y] }) := by unfold pushR; rw [if_pos (Classical.not_not.1 hok), if_neg hfull]
            rw [hpr] at C5
            clear hpr hok hfull
            go_wp2_with fail
            refine C5.out.mono ?_
            rintro e W5 ⟨rfl, hc5, F5, hp5, hF5⟩
            have X5 := Lib.hid (XV.out.next hc5 hp5 hF5)
            have P5 := Lib.hid (PV.out.step hc5 hF5)
            have T5 := Lib.hid (TV.out.step hc5 hF5)
            have t1 := (hc5.cell (j := 1) HGV.out HNF.out).trans u1
            have t2 := (hc5.cell (j := 2) HGV.out HNF.out).trans u2
            have t3 := (hc5.cell (j := 3) HGV.out HNF.out).trans u3
            have t4 := (hc5.cell (j := 4) HGV.out HNF.out).trans u4
            have t5 := (hc5.cell (j := 5) HGV.out HNF.out).trans u5
            have t6 := (hc5.cell (j := 6) HGV.out HNF.out).trans u6
            have t7 := (hc5.cell (j := 7) HGV.out HNF.out).trans u7
            have t8 := (hc5.cell (j := 8) HGV.out HNF.out).trans u8
            have t9 := (hc5.cell (j := 9) HGV.out HNF.out).trans u9
            have t10 := (hc5.cell (j := 10) HGV.out HNF.out).trans u10
            have t11 := (hc5.cell (j := 11) HGV.out HNF.out).trans u11
            have t12 := (hc5.cell (j := 12) HGV.out HNF.out).trans u12
            obtain ⟨V6, hV6⟩ : ∃ V6, W5.alloc (.cells #[.int .i64 y.k, .int .i64 y.x, .bool y.n, .int .i64 y.t, .int .i64 y.o, .int .i64 y.r, .int .i64 y.d, .int .i64 y.i, .int .i64 y.p, .int .i64 y.q, .int .i64 y.s, .int .i64 y.m] 39) = V6 := ⟨_, rfl⟩
            have hb6 : Below W5.heap.size W5 V6 := hV6 ▸ (Below.refl _ W5).alloc (Nat.le_refl _) _
            have ho6 : Os V6 (.slice (some ⟨W5.heap.size, 0, none⟩) 1 1) [y] := hV6 ▸ os_new W5 y
            have P6 := P5.out.below hb6
            have T6 := T5.out.below hb6
            have X6 := X5.out.below dc hb6
            obtain ⟨r7, W7, hr, o7, hg, hrr⟩ := run_gappo V6 29 w.heap.size _ P P6.own _ [y] ho6 (by have := HL.out; show P.length + 1 ≤ 30000; omega) X6.bel.size
            obtain ⟨a7, c7, rfl⟩ := own_form o7
            have P7 : Hid (RowF W7 w.heap.size F5 _ (P ++ [y])) := P6.grew o7 (dc.lt X6.ps) hrr
            have T7 := Lib.hid (T6.kept hg AP.out.symm)
            have X7 := Lib.hid (X6.grown dc P6 hg)
            have AP7 := Lib.hid (AP.out.grew T6 hrr)
            have HR : Hid (T ++ (s.W ++ [y]) = P ++ [y] ∧ (P ++ [y]).length ≤ k + 1) := ⟨by rw [← List.append_assoc, hh1], by rw [List.length_append]; show P.length + 1 ≤ k + 1; omega⟩
            clear hc5 hp5 hF5 C5 u0 u1 u2 u3 u4 u5 u6 u7 u8 u9 u10 u11 u12 u13 u14 u15 u16 hh1 hh2 hb6 ho6 P6 T6 X6 o7 hg hrr
            go_wp2_with (at_builtin; refine app_go rfl (.tmp 58) (.tmp 61) 29 rfl _ _ _ _ rfl rfl hr ?_)
            go_meet
            case rel => exact ⟨F5, { s with W := s.W ++ [y] }, P ++ [y], T, a7, bv, c7, bc, by rw [List.length_append]; rfl, rfl, rfl, X7.out, P7.out, T7.out, AP7.out, HR.out⟩
          · have h0' : (c == 0) = false := by simpa using h0
            by_cases h1 : c = 1
            · subst h1
              have C5 := Lib.hid (dc.send XV.out.ps)
              have hok := dc.ok XV.out.ps
              clear h0 h0'
              go_wp2_with fail
              refine C5.out.mono ?_
              rintro e W5 ⟨r5, rfl, hc5, F5, hp5, hF5, h5'⟩
              obtain ⟨a5, c5, rfl⟩ := h5'.form
              obtain ⟨G, hG⟩ : ∃ G, (fun q => F5 q ∨ q < V.heap.size ∨ W5.heap.size ≤ q) = G := ⟨_, rfl⟩
              have B5 : Hid (BtsO W5 G (.slice a5 (sdT s).length c5) (sdT s)) := by
                subst hG
                refine h5'.to (F' := fun q => F5 q ∨ q < V.heap.size ∨ W5.heap.size ≤ q) ?_
                rintro q (h | h | h)
                · exact .inl (.inl h)
                · exact .inl (.inr h)
                · exact .inr h
              have HGN : Hid (∀ q, W5.heap.size ≤ q → G q) := by subst hG; exact fun q h => .inr (.inr h)
              have X5 := Lib.hid (XV.out.next hc5 hp5 hF5)
              have P5 := Lib.hid (PV.out.step hc5 hF5)
              have T5 := Lib.hid (TV.out.step hc5 hF5)
              have HGT : Hid (∀ g, (Value.slice bv T.length bc).ownBlock = some g → G g) := by subst hG; exact fun g hg => .inr (.inl (TV.out.lt g hg).2)
              have HLT := Lib.hid (sdT_len hok)
              have HSM := Lib.hid (sdT_small hok)
              have HOK := Lib.hid hok
              have HR : Hid (T ++ s.W = P ∧ P.length ≤ k) := ⟨hh1, hh2⟩
              have HTL : Hid (T.length ≤ 101) := by
                have h1 := congrArg List.length hh1
                rw [List.length_append] at h1
                have := HL.out
                show _ ≤ _
                omega
              obtain ⟨l5, hl5⟩ : ∃ l5, sdT s = l5 := ⟨_, rfl⟩
              have HL5 := Lib.hid hl5
              rw [hl5] at B5 HLT HSM
              clear h5' hG hc5 hp5 hF5 C5 u0 u1 u2 u3 u4 u5 u6 u7 u8 u9 u10 u11 u12 u13 u14 u15 u16 hh1 hh2 hok
              go_wp2_with fail
              go_loopw [10, 11, 15] (fun sv nv jv wr => ∃ (j : Nat) (av6 : Option Addr) (cv6 : Nat), j ≤ l5.length ∧ jv = .int .i64 j ∧ sv = .slice av6 (snt T l5 j).length cv6 ∧ nv = .int .i64 (numAt s.nx j) ∧ Hid (One PS w wr F5 b (sdS s)) ∧ Hid (RowF wr w.heap.size F5 (.slice av P.length ac) P) ∧ Hid (RowF wr w.heap.size F5 (.slice av6 (snt T l5 j).length cv6) (snt T l5 j)) ∧ Hid (Apart (.slice av P.length ac) (.slice av6 (snt T l5 j).length cv6)) ∧ Hid (BtsO wr G (.slice a5 l5.length c5) l5) ∧ Hid ((∀ g, (Value.slice av6 (snt T l5 j).length cv6).ownBlock = some g → G g) ∧ W5.heap.size ≤ wr.heap.size)) (fun _ _ j _ => l5.length - (intOf j).toNat)
              case atStart => exact ⟨0, bv, bc, Nat.zero_le _, rfl, by rw [snt_zero], rfl, X5.out, P5.out, by rw [snt_zero]; exact T5.out, by rw [snt_zero]; exact AP.out, B5.out, by rw [snt_zero]; exact HGT.out, Nat.le_refl _⟩
              case round =>
                obtain ⟨j, av6, cv6, hj, rfl, rfl, rfl, X6, P6, T6, AP6, B6, G6⟩ := hrel
                by_cases hlj : j < l5.length
                · obtain ⟨b5, q5, ha5, _⟩ := B6.out.at hlj
                  subst ha5
                  have hljz : (j : Int) < (l5.length : Int) := by omega
                  have hqn : ((j : Int)).toNat = j := Int.toNat_natCast j
                  obtain ⟨_, _, g1, g2, u, g3, g4⟩ := B6.out.bts.at hlj
                  cases g1
                  obtain ⟨nj, hnj⟩ : ∃ nj, (l5.getD j zb).1 = nj := ⟨_, rfl⟩
                  rw [hnj] at g2
                  have hz : far (numAt s.nx j) nj = 0 := by
                    have h := sdT_num HOK.out j (by rw [HL5.out]; exact hlj)
                    rw [HL5.out, hnj] at h
                    rw [h]; exact far_self _
                  have hzn := Lib.hid (z_num HOK.out j)
                  obtain ⟨m, hm⟩ : ∃ m, numAt s.nx j = m := ⟨_, rfl⟩
                  rw [hm] at hz hzn
                  rw [hm]
                  have k2 := Lib.hid (fun w' (hb : Below wr.heap.size wr w') => (hb.cell (p := ⟨b5, q5 + j * 2 + 1, none⟩) (World.block_lt_of_cell? _ _ g3)).trans g3)
                  have HU := Lib.hid g4
                  clear g3 g4 hnj hm
                  go_wp2_with fail
                  refine (far_any m nj _).mono ?_
                  rintro e U5 ⟨rfl, hb5⟩
                  have HB5 := Lib.hid hb5
                  clear hb5 g2
                  rw [hz]
                  clear hz
                  go_wp2_with fail
                  refine (z_next_any m _).mono ?_
                  rintro e U6 ⟨rfl, hb6⟩
                  have HB6 := Lib.hid (HB5.out.trans (hb6.mono HB5.out.size))
                  clear hb6
                  rw [hzn.out]
                  have x7 := X6.out.below dc HB6.out
                  have p7 := P6.out.below HB6.out
                  have t7 := T6.out.below HB6.out
                  have b7 := B6.out.below HB6.out
                  have hu7 := HU.out.below HB6.out
                  have k7 := k2.out U6 HB6.out
                  obtain ⟨r8, W8, hr8, o8, hg8, hrr8⟩ := run_gappo U6 29 w.heap.size _ _ t7.own _ _ hu7 (by have h1 := snt_len T l5 HSM.out j; have h2 := HTL.out; have h3 := HLT.out; have h4 := HSM.out _ (getD_mem (d := zb) hlj); omega) x7.bel.size
                  rw [← snt_succ T l5 hlj] at o8
                  obtain ⟨a8, c8, rfl⟩ := own_form o8
                  have T8 := Lib.hid (t7.grew o8 (dc.lt x7.ps) hrr8)
                  have P8 := Lib.hid (p7.kept hg8 AP6.out)
                  have X8 := Lib.hid (x7.grown dc t7 hg8)
                  have AP8 := Lib.hid (AP6.out.symm.grew p7 hrr8).symm
                  have B8 := Lib.hid (b7.grew hg8 G6.out.1)
                  have G8 : Hid ((∀ g, (Value.slice a8 (snt T l5 (j + 1)).length c8).ownBlock = some g → G g) ∧ W5.heap.size ≤ W8.heap.size) := ⟨fun g hg => (hrr8 g hg).elim (G6.out.1 g) (fun h => HGN.out g (by have := G6.out.2; have := HB6.out.size; omega)), by have := G6.out.2; have := HB6.out.size; have := hg8.size; omega⟩
                  clear x7 p7 t7 b7 hu7 o8 hg8 hrr8 k2 HU
                  have hl16 := HLT.out
                  go_wp2_with (at_builtin; refine app_go rfl (.tmp 83) (.tmp 88) 29 rfl _ _ _ _ rfl rfl hr8 ?_)
                  go_roundw
                  case rel => exact ⟨j + 1, a8, c8, by omega, by go_num, rfl, rfl, X8.out, P8.out, T8.out, AP8.out, B8.out, G8.out⟩
                  case measure => simp [intOf]; omega
                · obtain rfl : j = l5.length := by omega
                  have HRE : Hid (snt T l5 l5.length ++ (sdS s).W = P ∧ P.length ≤ k + 1) := ⟨by rw [← HL5.out, snt_all]; exact HR.out.1, by have := HR.out.2; omega⟩
                  have HN : Hid (numAt s.nx l5.length = (sdS s).nx) := by rw [← HL5.out]; exact rfl
                  go_wp2_with fail
                  go_meet
                  case rel => exact ⟨F5, _, P, snt T l5 l5.length, av, av6, ac, cv6, rfl, rfl, by rw [← HN.out], X6.out, P6.out, T6.out, AP6.out, HRE.out⟩
            · have h1' : (c == 1) = false := by simpa using h1
              by_cases h2 : c = 2
              · subst h2
                have C5 := Lib.hid (dc.again XV.out.ps)
                clear h0 h0' h1 h1'
                go_wp2_with fail
                refine C5.out.mono ?_
                rintro e W5 ⟨r5, rfl, hc5, F5, hp5, hF5, -⟩
                have X5 := Lib.hid (XV.out.next hc5 hp5 hF5)
                have P5 := Lib.hid (PV.out.step hc5 hF5)
                have T5 := Lib.hid (TV.out.step hc5 hF5)
                have HR : Hid (T ++ (agS s).W = P ∧ P.length ≤ k + 1) := ⟨by rw [(ag_W s).1]; exact hh1, by omega⟩
                have HN : Hid (s.nx = (agS s).nx) := (ag_W s).2.symm
                clear hc5 hp5 hF5 C5 u0 u1 u2 u3 u4 u5 u6 u7 u8 u9 u10 u11 u12 u13 u14 u15 u16 hh1 hh2
                go_wp2_with fail
                go_meet
                case rel => exact ⟨F5, _, P, T, av, bv, ac, bc, rfl, rfl, by rw [← HN.out], X5.out, P5.out, T5.out, AP.out, HR.out⟩
              · have h2' : (c == 2) = false := by simpa using h2
                have C5 := Lib.hid (dc.got a XV.out.ps)
                clear h0 h1 h2
                go_wp2_with fail
                refine C5.out.mono ?_
                rintro e W5 ⟨rfl, hc5, F5, hp5, hF5⟩
                have X5 := Lib.hid (XV.out.next hc5 hp5 hF5)
                have P5 := Lib.hid (PV.out.step hc5 hF5)
                have T5 := Lib.hid (TV.out.step hc5 hF5)
                have HR : Hid (T ++ (gtS s a).W = P ∧ P.length ≤ k + 1) := ⟨by rw [(gt_W s a).1]; exact hh1, by omega⟩
                have HN : Hid (s.nx = (gtS s a).nx) := (gt_W s a).2.symm
                clear hc5 hp5 hF5 C5 u0 u1 u2 u3 u4 u5 u6 u7 u8 u9 u10 u11 u12 u13 u14 u15 u16 hh1 hh2
                go_wp2_with fail
                go_meet
                case rel => exact ⟨F5, _, P, T, av, bv, ac, bc, rfl, rfl, by rw [← HN.out], X5.out, P5.out, T5.out, AP.out, HR.out⟩
        case rest =>
          obtain ⟨F2, s2, P2, T2, av2, bv2, ac2, bc2, rfl, rfl, rfl, X2, PR2, TR2, AP2, H2⟩ := hcut
          obtain ⟨wA, hwA⟩ : ∃ wA, wA = wc := ⟨_, rfl⟩
          subst hwA
          clear HEL HGV HNF HVC XV HV HG HBV X PR TR AP HH PV TV
          obtain ⟨VZ, hVZ⟩ : ∃ VZ, wA.alloc (.cells #[] 39) = VZ := ⟨_, rfl⟩
          have hbz : Below wA.heap.size wA VZ := hVZ ▸ (Below.refl _ wA).alloc (Nat.le_refl _) _
          have oz : OwO VZ w.heap.size (.slice (some ⟨wA.heap.size, 0, none⟩) 0 0) [] := hVZ ▸ World.ownsRow_made wA #[] 0 X2.out.bel.size (Nat.zero_le _) rfl
          have rz : RowF VZ w.heap.size F2 (.slice (some ⟨wA.heap.size, 0, none⟩) 0 0) [] := ⟨oz, fun g hg hf => by cases hg; exact absurd (dc.lt X2.out.ps _ hf) (Nat.lt_irrefl _)⟩
          have xz := X2.out.below dc hbz
          have tz := TR2.out.below hbz
          have pz := PR2.out.below hbz
          have apz : Apart (.slice av2 P2.length ac2) (.slice (some ⟨wA.heap.size, 0, none⟩) 0 0) := fun g hg h2 => by cases h2; exact absurd (PR2.out.lt _ hg).2 (Nat.lt_irrefl _)
          have atz : Apart (.slice bv2 T2.length bc2) (.slice (some ⟨wA.heap.size, 0, none⟩) 0 0) := fun g hg h2 => by cases h2; exact absurd (TR2.out.lt _ hg).2 (Nat.lt_irrefl _)
          have hlen : T2.length ≤ 101 ∧ s2.W.length ≤ 101 ∧ P2.length ≤ 101 := by
            have h1 := congrArg List.length H2.out.1
            have h2 := H2.out.2
            have h3 := HL.out
            rw [List.length_append] at h1
            exact ⟨by omega, by omega, by omega⟩
          obtain ⟨r8, W8, hr8, o8, hg8, hrr8⟩ := run_gappo VZ 29 w.heap.size _ [] oz _ T2 tz.own.os (by show 0 + T2.length ≤ 30000; omega) xz.bel.size
          rw [List.nil_append] at o8
          obtain ⟨a8, c8, rfl⟩ := own_form o8
          have R8 : RowF W8 w.heap.size F2 _ T2 := rz.grew o8 (dc.lt xz.ps) hrr8
          have T8 := tz.kept hg8 atz
          have P8 := pz.kept hg8 apz
          have X8 := xz.grown dc rz hg8
          have AP8 : Apart (.slice a8 T2.length c8) (.slice av2 P2.length ac2) := apz.symm.grew pz hrr8
          have AT8 : Apart (.slice a8 T2.length c8) (.slice bv2 T2.length bc2) := atz.symm.grew tz hrr8
          have C9 := Lib.hid (dc.wait X8.ps)
          have HR8 := Lib.hid R8
          have HT8 := Lib.hid T8
          have HP8 := Lib.hid P8
          have HX8 := Lib.hid X8
          have HA8 := Lib.hid (And.intro AP8 AT8)
          have HLN := Lib.hid hlen
          clear hbz oz rz xz tz pz apz atz o8 hg8 hrr8 R8 T8 P8 X8 AP8 AT8 hlen
          go_wp2_with (at_builtin; refine app_go rfl (.tmp 94) (.tmp 95) 29 rfl _ _ _ _ rfl rfl hr8 ?_)
          refine C9.out.mono ?_
          rintro e W9 ⟨r9, rfl, hc9, F9, hp9, hF9, ho9⟩
          obtain ⟨a9, c9, rfl⟩ := ho9.form
          have X9 := HX8.out.next hc9 hp9 hF9
          have R9 := HR8.out.step hc9 hF9
          have T9 := HT8.out.step hc9 hF9
          have P9 := HP8.out.step hc9 hF9
          obtain ⟨r10, W10, hr10, o10, hg10, hrr10⟩ := run_gappo W9 29 w.heap.size _ T2 R9.own _ s2.W ho9.1 (by have := HLN.out; omega) X9.bel.size
          rw [H2.out.1] at o10
          obtain ⟨a10, c10, rfl⟩ := own_form o10
          have T10 := Lib.hid (T9.kept hg10 HA8.out.2.symm)
          have P10 := Lib.hid (P9.kept hg10 HA8.out.1.symm)
          have X10 := Lib.hid (X9.grown dc R9 hg10)
          have C10 := Lib.hid (same_fix _ _ P2 P2 true (iff_of_true rfl rfl) W10 o10.os P10.out.own.os (by have := HLN.out; omega))
          clear hc9 hp9 hF9 ho9 X9 R9 T9 P9 o10 hg10 hrr10 C9 HR8 HT8 HP8 HX8 HA8 hVZ hr8
          go_wp2_with (at_builtin; refine app_go rfl (.tmp 96) (.tmp 98) 29 rfl _ _ _ _ rfl rfl hr10 ?_)
          refine C10.out.mono ?_
          rintro e W11 ⟨rfl, hb11⟩
          have X11 := Lib.hid (X10.out.below dc hb11)
          have T11 := Lib.hid (T10.out.below hb11)
          have P11 := Lib.hid (P10.out.below hb11)
          clear hb11 C10 X10 T10 P10 hr10
          go_wp2_with fail
          go_roundw
          case rel => exact ⟨k + 1, F9, s2, P2, T2, av2, bv2, ac2, bc2, by omega, by go_num, rfl, rfl, rfl, X11.out, P11.out, T11.out, AP2.out, H2.out⟩
          case measure => simp [intOf]; omega
      · obtain rfl : k = z2.length := by omega
        go_wp2_with fail
        refine (awake14 dc wr).mono ?_
        rintro e W5 ⟨rfl, hb5⟩
        have HB5 := Lib.hid (X.out.bel.trans (hb5.mono X.out.bel.size))
        clear hb5
        go_wp2_with fail
        go_ret
        exact ⟨rfl, HB5.out⟩
theorem walk {PS : World → (Nat → Prop) → Nat → Sd → Prop} (dc : Dc PS) (a0 : Int) (w0 : I64 a0) (a1 : Int) (w1 : I64 a1) (a2 : Option Addr) (cap2 : Nat) (z2 : List Opn) (w : World) (r2 : Sc w (.slice a2 z2.length cap2) z2) :
    Calls Try.prog 4 #[.int .i64 a0, .int .i64 a1, .slice a2 z2.length cap2] w fun e w' => e = .returned (.bool true) ∧ Below w.heap.size w w' := walk0 dc a0 a1 a2 cap2 z2 w r2

set_option maxRecDepth 100000 in
theorem lifted (os : _root_.Go.Os) (started : os.Started) (H : Type) (enc : TypeId × Value → H) :
    ReturnsInHanded {} Try.checked os 4 .any (Rows.senderOrderSpec.pre6 enc Try.prog Try.f4 Rows.senderOrderRow.domain false) (Rows.senderOrderSpec.post enc Try.prog Try.f4 false true false false) := by
  refine returnsInHanded_of_change (C := Try.checked) own started (by kernel_rfl) Try.func4
    (ChangeSpec.witness6 (enc := enc) (C := Try.checked) false ⟨#[], #[.int .i64 0, .int .i64 0, .slice none 0 0], []⟩ 16 (by kernel_rfl) (by kernel_rfl) (by kernel_rfl) (by kernel_rfl)) ?_
  intro W base args ds gs before hval0 hW hcnd _
  have hval : ∀ (j : Nat) t v, Try.f4.params[j]? = some t → args[j]? = some v → Value.okWide Try.prog W .any base t v := hval0
  have hW' := hW
  obtain ⟨p, q, hA0, hV, rfl, hfz, hnd⟩ := hW
  have hA : DataW.TrodAll enc Try.prog W 0 (fun _ => true) true Try.f4.params.toList args.toList ds p := hA0
  rw [Try.params4] at hA hval
  obtain ⟨v0, vs0, e0, ds0, p0, q0, hargs, rfl, rfl, h0, x0⟩ := trodAll_cons hA
  obtain ⟨v1, vs1, e1, ds1, p1, q1, rfl, rfl, rfl, h1, x1⟩ := trodAll_cons x0
  obtain ⟨v2, vs2, e2, ds2, p2, q2, rfl, rfl, rfl, h2, x2⟩ := trodAll_cons x1
  obtain ⟨rfl, rfl, rfl⟩ := trodAll_nil x2
  obtain rfl : args = #[v0, v1, v2] := by cases args; simp_all
  obtain ⟨rfl, rfl⟩ := trodVars_none hV
  have k0 := h0
  have lt0 : ∀ x ∈ p0, x.block < W.heap.size := by obtain ⟨m, hm⟩ := k0; exact DataW.trod_lt m _ _ _ hm
  obtain ⟨a0, rfl, _, _, w0⟩ := open_int Try.underlying3 (hval 0 3 v0 rfl rfl) h0
  have k1 := h1
  have lt1 : ∀ x ∈ p1, x.block < W.heap.size := by obtain ⟨m, hm⟩ := k1; exact DataW.trod_lt m _ _ _ hm
  obtain ⟨a1, rfl, _, _, w1⟩ := open_int Try.underlying3 (hval 1 3 v1 rfl rfl) h1
  have k2 := h2
  have lt2 : ∀ x ∈ p2, x.block < W.heap.size := by obtain ⟨m, hm⟩ := k2; exact DataW.trod_lt m _ _ _ hm
  obtain ⟨a2, len2, cap2, rfl⟩ := okWide_slice underOPS (hval 2 22 v2 rfl rfl)
  obtain ⟨z2, hz2, w2⟩ := sc_form h2
  subst hz2
  clear hA0 hval0
  refine (walk dc a0 (i64_wf w0) a1 (i64_wf w1) a2 cap2 z2 W w2).mono fun e W' ⟨he, bel⟩ => ?_
  subst he
  exact ⟨_, rfl, _, _, _, [], _, [], hW', trodAll_mk1 (shut_bool Try.underlying4 _), (trodAll_cons_mk (Below.trod laidOut (by kernel_rfl) (of_decide_eq_true (by kernel_rfl)) k0 bel lt0) (trodAll_cons_mk (Below.trod laidOut (by kernel_rfl) (of_decide_eq_true (by kernel_rfl)) k1 bel lt1) (trodAll_cons_mk (Below.trod laidOut (by kernel_rfl) (of_decide_eq_true (by kernel_rfl)) k2 bel lt2) trodAll_mk0))), rfl, bel.frame _, fun h => by cases h⟩

theorem over : Rows.senderOrderRow.holds Try.pinned (OpenSpec.ofChange Rows.senderOrderSpec) :=
  OpenClaim.holds_of_wide 4 Try.f4 rfl rfl rfl rfl rfl rfl rfl ⟨rfl, rfl, rfl, rfl, rfl⟩ rfl rfl rfl rfl rfl (by kernel_rfl) Try.func4 (by kernel_rfl)
    (of_decide_eq_true (by kernel_rfl)) (by unfold Func.isWrapper; first | (rw [if_pos (by decide +kernel)]; kernel_rfl) | (rw [if_neg (by decide +kernel)]; exact ⟨rfl, rfl⟩))
    (fun os started H enc _ => lifted os started H enc)

theorem proved : Rows.SenderOrderSaid := over
#print axioms proved
end Go.Proofs.Yticjeknadddhoaa.senderOrder
