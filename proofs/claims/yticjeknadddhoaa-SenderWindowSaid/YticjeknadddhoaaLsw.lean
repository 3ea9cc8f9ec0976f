/- thalweglaw14.SenderWindow: for any numbers and script the law answers true; no condition. -/
import Derived.Test.YticjeknadddhoaaSm
import Derived.Test.YticjeknadddhoaaPn
import Derived.WalkLawsBesides
import Derived.WalkKit
import Derived.ProofKit
import Derived.OpenShut
import Derived.ShutString
import Derived.ChangeOld
import Derived.Below
namespace Go.Proofs.Yticjeknadddhoaa.senderWindow
open Go.ChangeShapes Go.WideShapes Go.ChangeAt Go.RowKit
open Go.ChangeMaps (open_string shut_string)
set_option linter.unusedVariables false
set_option maxRecDepth 100000

theorem own : ownKnob Try.prog.godebug = none := by kernel_rfl
theorem laidOut : laidOutB Try.prog = true := by kernel_rfl
set_option maxHeartbeats 64000000 in
theorem walk0 {PS : World → (Nat → Prop) → Nat → Sd → Prop} (dc : Dc PS) (a0 : Int) (a1 : Int) (a2 : Option Addr) (cap2 : Nat) (z2 : List Opn) (w : World) (r2 : Sc w (.slice a2 z2.length cap2) z2) :
    Calls Try.prog 5 #[.int .i64 a0, .int .i64 a1, .slice a2 z2.length cap2] w fun e w' => e = .returned (.bool true) ∧ Below w.heap.size w w' := by
  have r2 := Lib.hid r2
  have C1 := Lib.hid (dc.new a0 a1 w)
  go_enter Try.func5, Try.ntmps5
  go_wp2_with fail
  refine C1.out.mono ?_
  rintro e W1 ⟨hb1, h1⟩
  have HB1 := Lib.hid hb1
  rcases h1 with ⟨hn, rfl⟩ | ⟨hn, b, F1, rfl, hp1, hF1⟩
  · clear hn hb1 C1
    go_wp2_with fail
    refine (awake14 dc _).mono ?_
    rintro e W9 ⟨rfl, hb9⟩
    have HB9 := Lib.hid (HB1.out.trans (hb9.mono HB1.out.size))
    clear hb9
    go_wp2_with fail
    go_ret
    exact ⟨rfl, HB9.out⟩
  · have X1 : Hid (One PS w W1 F1 b (sd0 a0 a1)) := ⟨hp1, hF1, HB1.out⟩
    clear hn hb1 hp1 hF1 C1
    by_cases hl : 100 < z2.length
    · have hl' : (100 : Int) < (z2.length : Int) := by omega
      clear hl
      go_wp2_with fail
      refine (awake14 dc _).mono ?_
      rintro e W9 ⟨rfl, hb9⟩
      have HB9 := Lib.hid (HB1.out.trans (hb9.mono HB1.out.size))
      clear hb9
      go_wp2_with fail
      go_ret
      exact ⟨rfl, HB9.out⟩
    have hl' : ¬ (100 : Int) < (z2.length : Int) := by omega
    have HL : Hid (z2.length ≤ 100) := by show _ ≤ _; omega
    clear hl
    go_wp2_with fail
    clear hl'
    go_loopw [9, 10] (fun sv iv wr => ∃ (k : Nat) (F : Nat → Prop) (s : Sd) (l : List Bt) (ax : Option Addr) (cx : Nat), k ≤ z2.length ∧ iv = .int .i64 k ∧ sv = .slice ax l.length cx ∧ Hid (One PS w wr F b s) ∧ Hid (SentR wr w.heap.size F (.slice ax l.length cx) l) ∧ Hid (s.out.Sublist l ∧ l.length ≤ 16 * k ∧ (∀ p ∈ l, p.2.length ≤ 32) ∧ s.win = a0)) (fun _ i _ => z2.length - (intOf i).toNat)
    case atStart => exact ⟨0, F1, _, [], none, 0, Nat.zero_le _, rfl, rfl, X1.out, SentR_nil _ _ _, List.nil_sublist _, Nat.zero_le _, fun p hp => absurd hp List.not_mem_nil, rfl⟩
    case round =>
      obtain ⟨k, F, s, l, ax, cx, hk, rfl, rfl, X, SS, HH⟩ := hrel
      by_cases hlt : k < z2.length
      · obtain ⟨wo, hwo⟩ : ∃ wo, wo = wr := ⟨_, rfl⟩
        subst hwo
        skip
        obtain ⟨bs, offs, hbs, hlts, hcs⟩ := Sc.at (h := r2.out.below X.out.bel) hlt
        obtain ⟨⟨c, y, a⟩, hel⟩ : ∃ o : Opn, z2.getD k (0, z12, (0, 0, 0, 0)) = o := ⟨_, rfl⟩
        rw [hel] at hcs
        have q0 := hcs 0 (by decide)
        have q1 := hcs 1 (by decide)
        have q2 := hcs 2 (by decide)
        have q3 := hcs 3 (by decide)
        have q4 := hcs 4 (by decide)
        have q5 := hcs 5 (by decide)
        have q6 := hcs 6 (by decide)
        have q7 := hcs 7 (by decide)
        have q8 := hcs 8 (by decide)
        have q9 := hcs 9 (by decide)
        have q10 := hcs 10 (by decide)
        have q11 := hcs 11 (by decide)
        have q12 := hcs 12 (by decide)
        have q13 := hcs 13 (by decide)
        have q14 := hcs 14 (by decide)
        have q15 := hcs 15 (by decide)
        have q16 := hcs 16 (by decide)
        simp only [opc, Ob.cl, akc, List.cons_append, List.nil_append, List.getElem?_cons_zero, List.getElem?_cons_succ, Nat.add_zero] at q0 q1 q2 q3 q4 q5 q6 q7 q8 q9 q10 q11 q12 q13 q14 q15 q16
        subst hbs
        have hltz : (k : Int) < (z2.length : Int) := by omega
        have hq0 : (0 : Int) ≤ (k : Int) := by omega
        have hqn : ((k : Int)).toNat = k := Int.toNat_natCast k
        obtain ⟨V, hV⟩ : ∃ V, wo.alloc (.cells #[.int .i64 c, .int .i64 y.k, .int .i64 y.x, .bool y.n, .int .i64 y.t, .int .i64 y.o, .int .i64 y.r, .int .i64 y.d, .int .i64 y.i, .int .i64 y.p, .int .i64 y.q, .int .i64 y.s, .int .i64 y.m, .int .i64 a.1, .int .i64 a.2.1, .int .i64 a.2.2.1, .int .i64 a.2.2.2] 44) = V := ⟨_, rfl⟩
        have hbv : Below wo.heap.size wo V := hV ▸ (Below.refl _ wo).alloc (Nat.le_refl _) _
        obtain ⟨g0, hg0⟩ : ∃ g0, wo.heap.size = g0 := ⟨_, rfl⟩
        have HGV : Hid (g0 < V.heap.size) := by show _ < _; rw [← hg0, ← hV]; simp
        have hvc : V.cell? ⟨g0, 0, none⟩ = some (.int .i64 c) ∧ V.cell? ⟨g0, 1, none⟩ = some (.int .i64 y.k) ∧ V.cell? ⟨g0, 2, none⟩ = some (.int .i64 y.x) ∧ V.cell? ⟨g0, 3, none⟩ = some (.bool y.n) ∧ V.cell? ⟨g0, 4, none⟩ = some (.int .i64 y.t) ∧ V.cell? ⟨g0, 5, none⟩ = some (.int .i64 y.o) ∧ V.cell? ⟨g0, 6, none⟩ = some (.int .i64 y.r) ∧ V.cell? ⟨g0, 7, none⟩ = some (.int .i64 y.d) ∧ V.cell? ⟨g0, 8, none⟩ = some (.int .i64 y.i) ∧ V.cell? ⟨g0, 9, none⟩ = some (.int .i64 y.p) ∧ V.cell? ⟨g0, 10, none⟩ = some (.int .i64 y.q) ∧ V.cell? ⟨g0, 11, none⟩ = some (.int .i64 y.s) ∧ V.cell? ⟨g0, 12, none⟩ = some (.int .i64 y.m) ∧ V.cell? ⟨g0, 13, none⟩ = some (.int .i64 a.1) ∧ V.cell? ⟨g0, 14, none⟩ = some (.int .i64 a.2.1) ∧ V.cell? ⟨g0, 15, none⟩ = some (.int .i64 a.2.2.1) ∧ V.cell? ⟨g0, 16, none⟩ = some (.int .i64 a.2.2.2) := by
          rw [← hV, ← hg0]
          refine ⟨?_, ?_, ?_, ?_, ?_, ?_, ?_, ?_, ?_, ?_, ?_, ?_, ?_, ?_, ?_, ?_, ?_⟩ <;> simp
        have HVC := Lib.hid hvc
        have XV := Lib.hid (X.out.below dc hbv)
        have HV := Lib.hid hV
        have HBV := Lib.hid hbv
        have HG := Lib.hid hg0
        have HEL := Lib.hid hel
        have HNF : Hid (¬ F g0) := fun h => by have := dc.lt X.out.ps g0 h; omega
        clear hV hbv hg0 hel hcs hvc hlts
        go_upto_block 2 with fail
        rw [HV.out]
        simp only [HG.out]
        clear q0 q1 q2 q3 q4 q5 q6 q7 q8 q9 q10 q11 q12 q13 q14 q15 q16 hltz hq0 hqn
        obtain ⟨u0, u1, u2, u3, u4, u5, u6, u7, u8, u9, u10, u11, u12, u13, u14, u15, u16⟩ := HVC.out
        have SV := Lib.hid (SS.out.below (show Below wo.heap.size wo V from HBV.out))
        go_cut [9] from 43 to 64 (fun sv wx => ∃ (F' : Nat → Prop) (s' : Sd) (l' : List Bt) (ay : Option Addr) (cy : Nat), sv = .slice ay l'.length cy ∧ Hid (One PS w wx F' b s') ∧ Hid (SentR wx w.heap.size F' (.slice ay l'.length cy) l') ∧ Hid (s'.out.Sublist l' ∧ l'.length ≤ 16 * (k + 1) ∧ (∀ p ∈ l', p.2.length ≤ 32) ∧ s'.win = a0))
        case first =>
          obtain ⟨hh1, hh2, hh3, hh4⟩ := HH.out
          by_cases h0 : c = 0
          · subst h0
            have C5 := Lib.hid (dc.push y XV.out.ps)
            go_wp2_with fail
            refine C5.out.mono ?_
            rintro e W5 ⟨rfl, hc5, F5, hp5, hF5⟩
            have X5 := Lib.hid (XV.out.next hc5 hp5 hF5)
            have S5 := Lib.hid (SV.out.step hc5 hF5)
            have HR : Hid ((pushR s y).2.out.Sublist l ∧ l.length ≤ 16 * (k + 1) ∧ (∀ p ∈ l, p.2.length ≤ 32) ∧ (pushR s y).2.win = a0) := ⟨by rw [push_out]; exact hh1, by omega, hh3, by rw [push_win]; exact hh4⟩
            clear hc5 hp5 hF5 C5 u0 u1 u2 u3 u4 u5 u6 u7 u8 u9 u10 u11 u12 u13 u14 u15 u16 hh1 hh2 hh3 hh4
            go_wp2_with fail
            go_meet
            case rel => exact ⟨F5, _, l, ax, cx, rfl, X5.out, S5.out, HR.out⟩
          · have h0' : (c == 0) = false := by simpa using h0
            by_cases h1 : c = 1
            · subst h1
              have C5 := Lib.hid (dc.send XV.out.ps)
              clear h0 h0'
              go_wp2_with fail
              refine C5.out.mono ?_
              rintro e W5 ⟨r5, rfl, hc5, F5, hp5, hF5, h5'⟩
              have h5 := h5'.mono (F := F5) (fun k h => .inl h)
              clear h5'
              obtain ⟨a5, c5, rfl⟩ := h5.form
              have X5 := Lib.hid (XV.out.next hc5 hp5 hF5)
              have hok := dc.ok XV.out.ps
              have s5 := SV.out.step hc5 hF5
              have hsl := sdT_len hok
              obtain ⟨r6, W6, hr, s6, hg⟩ := run_gappb W5 30 w.heap.size F5 _ l s5 _ (sdT s) h5 (dc.lt hp5) (by have := HL.out; omega) X5.out.bel.size
              have hrow : ∀ g, (Value.slice ax l.length cx).ownBlock = some g → w.heap.size ≤ g ∧ ¬ F5 g := fun g hg2 => by
                obtain ⟨h7, vs, _, h8, _⟩ := s5
                exact ⟨(h8.lt g hg2).1, h7 g hg2⟩
              have X6 : Hid (One PS w W6 F5 b (sdS s)) := ⟨dc.keep hp5 (chg_grown hg) (fun q hq e => (hrow q e).2 hq), X5.out.new, X5.out.bel.grown hg X5.out.bel.size (fun q hq => (hrow q hq).1)⟩
              obtain ⟨a6, c6, rfl⟩ := s6.form
              have S6 := Lib.hid s6
              have HR : Hid ((sdS s).out.Sublist (l ++ sdT s) ∧ (l ++ sdT s).length ≤ 16 * (k + 1) ∧ (∀ p ∈ l ++ sdT s, p.2.length ≤ 32) ∧ (sdS s).win = a0) := ⟨sub_send hh1, by rw [List.length_append]; omega, fun p hp => (List.mem_append.1 hp).elim (hh3 p) (sdT_small hok p), hh4⟩
              clear hc5 hp5 hF5 C5 u0 u1 u2 u3 u4 u5 u6 u7 u8 u9 u10 u11 u12 u13 u14 u15 u16 hh1 hh2 hh3 hh4 h5 s5 s6 hg hrow hok hsl
              go_wp2_with (at_builtin; refine app_go rfl (.tmp 57) (.tmp 59) 30 rfl _ _ _ _ rfl rfl hr ?_)
              go_meet
              case rel => exact ⟨F5, _, _, a6, c6, by rw [List.length_append], X6.out, S6.out, HR.out⟩
            · have h1' : (c == 1) = false := by simpa using h1
              by_cases h2 : c = 2
              · subst h2
                have C5 := Lib.hid (dc.again XV.out.ps)
                clear h0 h0' h1 h1'
                go_wp2_with fail
                refine C5.out.mono ?_
                rintro e W5 ⟨r5, rfl, hc5, F5, hp5, hF5, -⟩
                have X5 := Lib.hid (XV.out.next hc5 hp5 hF5)
                have S5 := Lib.hid (SV.out.step hc5 hF5)
                have HR : Hid ((agS s).out.Sublist l ∧ l.length ≤ 16 * (k + 1) ∧ (∀ p ∈ l, p.2.length ≤ 32) ∧ (agS s).win = a0) := ⟨by rw [out_again]; exact hh1, by omega, hh3, by rw [ag_win]; exact hh4⟩
                clear hc5 hp5 hF5 C5 u0 u1 u2 u3 u4 u5 u6 u7 u8 u9 u10 u11 u12 u13 u14 u15 u16 hh1 hh2 hh3 hh4
                go_wp2_with fail
                go_meet
                case rel => exact ⟨F5, _, l, ax, cx, rfl, X5.out, S5.out, HR.out⟩
              · have h2' : (c == 2) = false := by simpa using h2
                have C5 := Lib.hid (dc.got a XV.out.ps)
                clear h0 h1 h2
                go_wp2_with fail
                refine C5.out.mono ?_
                rintro e W5 ⟨rfl, hc5, F5, hp5, hF5⟩
                have X5 := Lib.hid (XV.out.next hc5 hp5 hF5)
                have S5 := Lib.hid (SV.out.step hc5 hF5)
                have HR : Hid ((gtS s a).out.Sublist l ∧ l.length ≤ 16 * (k + 1) ∧ (∀ p ∈ l, p.2.length ≤ 32) ∧ (gtS s a).win = a0) := ⟨(out_got s a).trans hh1, by omega, hh3, by rw [gt_win]; exact hh4⟩
                clear hc5 hp5 hF5 C5 u0 u1 u2 u3 u4 u5 u6 u7 u8 u9 u10 u11 u12 u13 u14 u15 u16 hh1 hh2 hh3 hh4
                go_wp2_with fail
                go_meet
                case rel => exact ⟨F5, _, l, ax, cx, rfl, X5.out, S5.out, HR.out⟩
        case rest =>
          obtain ⟨F2, s2, l2, ay, cy, rfl, X2, S2, H2⟩ := hcut
          obtain ⟨wA, hwA⟩ : ∃ wA, wA = wc := ⟨_, rfl⟩
          subst hwA
          have CO := Lib.hid (dc.out X2.out.ps)
          clear HEL HGV HNF HVC XV HV HG HBV X SS HH SV u0 u1 u2 u3 u4 u5 u6 u7 u8 u9 u10 u11 u12 u13 u14 u15 u16
          go_wp2_with fail
          refine CO.out.mono ?_
          rintro e Wo ⟨ro, rfl, hco, Fo, hpo, hFo, ho⟩
          obtain ⟨ao, co, rfl⟩ := ho.form
          have XO := Lib.hid (X2.out.next hco hpo hFo)
          have SO := Lib.hid (S2.out.step hco hFo)
          obtain ⟨ol, hol⟩ : ∃ ol, s2.out = ol := ⟨_, rfl⟩
          have HWI : Hid (∀ q, q < ol.length → far (ol.getD 0 zb).1 (ol.getD q zb).1 < a0) := fun q hq => by
            rw [← hol] at hq ⊢
            rw [← H2.out.2.2.2]
            exact out_within (dc.ok hpo) hq
          have HLE : Hid (¬ a0 < (ol.length : Int)) := by
            have h1 := out_le (dc.ok hpo)
            rw [hol, H2.out.2.2.2] at h1
            show ¬ _
            omega
          have HSUB : Hid (ol.Sublist l2) := hol ▸ H2.out.1
          have HOL : Hid (ol.length ≤ 16) := by
            have h1 := out_le (dc.ok hpo)
            have h2 := (dc.ok hpo).win
            rw [hol] at h1
            show _ ≤ _
            omega
          have HLL : Hid (l2.length ≤ 2000) := by
            have h1 := H2.out.2.1
            have h2 := HL.out
            show _ ≤ _
            omega
          rw [hol] at ho ⊢
          have HO := Lib.hid ho
          clear hol hco hpo hFo ho CO X2 S2
          go_wp2_with fail
          go_loopw [13, 14] (fun av jv wr => ∃ (j at_ : Nat), j ≤ ol.length ∧ at_ ≤ l2.length ∧ av = .int .i64 at_ ∧ jv = .int .i64 j ∧ Hid ((ol.drop j).Sublist (l2.drop at_)) ∧ Hid (Below Wo.heap.size Wo wr)) (fun _ i _ => ol.length - (intOf i).toNat)
          case atStart => exact ⟨0, 0, Nat.zero_le _, Nat.zero_le _, rfl, rfl, HSUB.out, Below.refl _ _⟩
          case round =>
            obtain ⟨j, at_, hj, hat, rfl, rfl, HS, HB⟩ := hrel
            by_cases hlj : j < ol.length
            · obtain ⟨wq, hwq⟩ : ∃ wq, wq = wr := ⟨_, rfl⟩
              subst hwq
              have hljz : (j : Int) < (ol.length : Int) := by omega
              go_wp2_with fail
              go_loopw [13] (fun av wr => ∃ (p : Nat), p ≤ l2.length ∧ av = .int .i64 p ∧ Hid ((ol.drop j).Sublist (l2.drop p)) ∧ Hid (Below Wo.heap.size Wo wr)) (fun i _ => l2.length - (intOf i).toNat)
              case atStart => exact ⟨at_, hat, rfl, HS.out, HB.out⟩
              case round =>
                obtain ⟨p, hp, rfl, HS3, HB3⟩ := hrel
                have hpl : p < l2.length := by
                  have h1 := HS3.out.length_le
                  rw [List.length_drop, List.length_drop] at h1
                  omega
                have ex : ol.drop j = ol.getD j zb :: ol.drop (j + 1) := by rw [List.drop_eq_getElem_cons hlj]; simp [List.getD, hlj]
                have ey : l2.drop p = l2.getD p zb :: l2.drop (p + 1) := by rw [List.drop_eq_getElem_cons hpl]; simp [List.getD, hpl]
                obtain ⟨b1, q1, hay, hcap1⟩ := SO.out.at hpl
                obtain ⟨b2, q2, hao, hcap2⟩ := HO.out.at hlj
                subst hay
                subst hao
                have hsl1 := fun W => run_sl b1 q1 l2.length cy p hpl hcap1 W
                have hsl2 := fun W => run_sl b2 q2 ol.length co j hlj hcap2 W
                have hatz : (p : Int) < (l2.length : Int) := by omega
                have hw1 : IntKind.i64.wrap ((p : Int) + 1) = (p : Int) + 1 := by have := HLL.out; rw [IntKind.wrap_i64]; omega
                have hw2 : IntKind.i64.wrap ((j : Int) + 1) = (j : Int) + 1 := by have := HOL.out; rw [IntKind.wrap_i64]; omega
                have HSW : Hid ((ol.getD j zb :: ol.drop (j + 1)).Sublist (l2.getD p zb :: l2.drop (p + 1))) := by have h := HS3.out; rw [ex, ey] at h; exact h
                have cS : ∀ (q : Bool), (q = true ↔ l2.getD p zb = ol.getD j zb) → ∀ w', Below wr.heap.size wr w' → Calls Try.prog 13 #[.slice (some ⟨b1, q1 + p * 2, none⟩) 1 (cy - p), .slice (some ⟨b2, q2 + j * 2, none⟩) 1 (co - j)] w' fun e w'' => e = .returned (.bool q) ∧ Below w'.heap.size w' w'' := fun q hq w' hb => by
                  have hbb := HB3.out.trans (hb.mono HB3.out.size)
                  exact bsame_one (bts_sub (SO.out.below hbb).bts hpl) (bts_sub (HO.out.below hbb).bts hlj) (by have h1 := H2.out.2.2.1 _ (getD_mem (d := zb) hpl); omega) q hq
                clear ex ey
                go_upto_region 22 with (fail)
                by_cases hxy : l2.getD p zb = ol.getD j zb
                · have cB := cS true (iff_of_true rfl hxy)
                  have HNX : Hid ((ol.drop (j + 1)).Sublist (l2.drop (p + 1))) := by have h := HSW.out; rw [hxy] at h; exact sub_take h
                  clear cS hxy
                  refine wp_region_typed (C := fun w' => Below wr.heap.size wr w') (X := fun w w' => Below w.heap.size w w') (n := 118) (by kernel_rfl) (by kernel_rfl) rfl (fun w => Below.refl _ w) (Below.refl _ _).drew ?_
                  refine w_is (fun w => Below.refl _ w) _ (.inl rfl) (fun ρ w hC hc hfn hf => by have e13 : ρ (.tmp 13) = _ := hf 13 (by decide); (conv => lhs; simp [execOp, go_sem, hc, e13])) ?_
                  refine w_is (fun w => Below.refl _ w) _ (.inl rfl) (fun ρ w hC hc hfn hf => by have e9 : ρ (.tmp 9) = _ := hf 9 (by decide); (conv => lhs; simp [execOp, go_sem, hc, e9])) ?_
                  refine w_is (fun w => Below.refl _ w) _ (.inl rfl) (fun ρ w hC hc hfn hf => by have e74 : ρ (.tmp 74) = _ := hf 74 (by decide); (conv => lhs; simp [execOp, go_sem, hc, e74])) ?_
                  refine w_is (fun w => Below.refl _ w) _ (.inl rfl) (fun ρ w hC hc hfn hf => by have e73 : ρ (.tmp 73) = _ := hf 73 (by decide); have e75 : ρ (.tmp 75) = _ := hf 75 (by decide); (conv => lhs; simp [execOp, go_sem, hc, e73, e75, hatz])) ?_
                  refine w_is (fun w => Below.refl _ w) _ (.inl rfl) (fun ρ w hC hc hfn hf => by have e76 : ρ (.tmp 76) = _ := hf 76 (by decide); (conv => lhs; simp [execOp, go_sem, hc, e76])) ?_
                  refine w_is (fun w => Below.refl _ w) _ (.inr ⟨4, 77, true, rfl, rfl, known_is rfl⟩) (fun ρ w hC hc hfn hf => by have e9 : ρ (.tmp 9) = _ := hf 9 (by decide); (conv => lhs; simp [execOp, go_sem, hc, e9])) ?_
                  refine w_is (fun w => Below.refl _ w) _ (.inr ⟨4, 77, true, rfl, rfl, known_is rfl⟩) (fun ρ w hC hc hfn hf => by have e13 : ρ (.tmp 13) = _ := hf 13 (by decide); (conv => lhs; simp [execOp, go_sem, hc, e13])) ?_
                  refine w_is (fun w => Below.refl _ w) _ (.inr ⟨4, 77, true, rfl, rfl, known_is rfl⟩) (fun ρ w hC hc hfn hf => by have e13 : ρ (.tmp 13) = _ := hf 13 (by decide); (conv => lhs; simp [execOp, go_sem, hc, e13])) ?_
                  refine w_is (fun w => Below.refl _ w) _ (.inr ⟨4, 77, true, rfl, rfl, known_is rfl⟩) (fun ρ w hC hc hfn hf => by have e80 : ρ (.tmp 80) = _ := hf 80 (by decide); (conv => lhs; simp [execOp, go_sem, hc, e80, hw1])) ?_
                  refine w_is (fun w => Below.refl _ w) _ (.inr ⟨4, 77, true, rfl, rfl, known_is rfl⟩) (fun ρ w hC hc hfn hf => by have e78 : ρ (.tmp 78) = _ := hf 78 (by decide); have e79 : ρ (.tmp 79) = _ := hf 79 (by decide); have e81 : ρ (.tmp 81) = _ := hf 81 (by decide); (conv => lhs; simp [execOp, go_sem, hc, e78, e79, e81, hsl1 w])) ?_
                  refine w_is (fun w => Below.refl _ w) _ (.inr ⟨4, 77, true, rfl, rfl, known_is rfl⟩) (fun ρ w hC hc hfn hf => by have e12 : ρ (.tmp 12) = _ := hf 12 (by decide); (conv => lhs; simp [execOp, go_sem, hc, e12])) ?_
                  refine w_is (fun w => Below.refl _ w) _ (.inr ⟨4, 77, true, rfl, rfl, known_is rfl⟩) (fun ρ w hC hc hfn hf => by have e14 : ρ (.tmp 14) = _ := hf 14 (by decide); (conv => lhs; simp [execOp, go_sem, hc, e14])) ?_
                  refine w_is (fun w => Below.refl _ w) _ (.inr ⟨4, 77, true, rfl, rfl, known_is rfl⟩) (fun ρ w hC hc hfn hf => by have e14 : ρ (.tmp 14) = _ := hf 14 (by decide); (conv => lhs; simp [execOp, go_sem, hc, e14])) ?_
                  refine w_is (fun w => Below.refl _ w) _ (.inr ⟨4, 77, true, rfl, rfl, known_is rfl⟩) (fun ρ w hC hc hfn hf => by have e85 : ρ (.tmp 85) = _ := hf 85 (by decide); (conv => lhs; simp [execOp, go_sem, hc, e85, hw2])) ?_
                  refine w_is (fun w => Below.refl _ w) _ (.inr ⟨4, 77, true, rfl, rfl, known_is rfl⟩) (fun ρ w hC hc hfn hf => by have e83 : ρ (.tmp 83) = _ := hf 83 (by decide); have e84 : ρ (.tmp 84) = _ := hf 84 (by decide); have e86 : ρ (.tmp 86) = _ := hf 86 (by decide); (conv => lhs; simp [execOp, go_sem, hc, e83, e84, e86, hsl2 w])) ?_
                  refine w_call (Is _) (fun _ _ _ h _ => h) 13 (.inr ⟨4, 77, true, rfl, rfl, known_is rfl⟩) (fun ρ w hC hc hfn hf => by have e82 : ρ (.tmp 82) = _ := hf 82 (by decide); have e87 : ρ (.tmp 87) = _ := hf 87 (by decide); exact ⟨_, by (conv => lhs; simp [execOp, resolve, invoke, go_sem, hc, hfn, e82, e87]), tc_below hC (cB w hC)⟩) ?_
                  refine w_is (fun w => Below.refl _ w) _ (.inr ⟨4, 77, true, rfl, rfl, known_is rfl⟩) (fun ρ w hC hc hfn hf => by have e88 : ρ (.tmp 88) = _ := hf 88 (by decide); (conv => lhs; simp [execOp, go_sem, hc, e88])) ?_
                  refine w_is (fun w => Below.refl _ w) _ (.inl rfl) (fun ρ w hC hc hfn hf => by have e77 : ρ (.tmp 77) = _ := hf 77 (by decide); have e89 : ρ (.tmp 89) = _ := hf 89 (by decide); (conv => lhs; simp [execOp, go_sem, hc, e77, e89])) ?_
                  intro A U5 hC hn hd hf
                  have y0 : A.eval (.tmp 0) = _ := Eq.trans (hf 0) (by conv => lhs; simp [go_sem])
                  have y1 : A.eval (.tmp 1) = _ := Eq.trans (hf 1) (by conv => lhs; simp [go_sem])
                  have y2 : A.eval (.tmp 2) = _ := Eq.trans (hf 2) (by conv => lhs; simp [go_sem])
                  have y3 : A.eval (.tmp 3) = _ := Eq.trans (hf 3) (by conv => lhs; simp [go_sem])
                  have y4 : A.eval (.tmp 4) = _ := Eq.trans (hf 4) (by conv => lhs; simp [go_sem])
                  have y5 : A.eval (.tmp 5) = _ := Eq.trans (hf 5) (by conv => lhs; simp [go_sem])
                  have y6 : A.eval (.tmp 6) = _ := Eq.trans (hf 6) (by conv => lhs; simp [go_sem])
                  have y7 : A.eval (.tmp 7) = _ := Eq.trans (hf 7) (by conv => lhs; simp [go_sem])
                  have y8 : A.eval (.tmp 8) = _ := Eq.trans (hf 8) (by conv => lhs; simp [go_sem])
                  have y9 : A.eval (.tmp 9) = _ := Eq.trans (hf 9) (by conv => lhs; simp [go_sem])
                  have y10 : A.eval (.tmp 10) = _ := Eq.trans (hf 10) (by conv => lhs; simp [go_sem])
                  have y11 : A.eval (.tmp 11) = _ := Eq.trans (hf 11) (by conv => lhs; simp [go_sem])
                  have y12 : A.eval (.tmp 12) = _ := Eq.trans (hf 12) (by conv => lhs; simp [go_sem])
                  have y13 : A.eval (.tmp 13) = _ := Eq.trans (hf 13) (by conv => lhs; simp [go_sem])
                  have y14 : A.eval (.tmp 14) = _ := Eq.trans (hf 14) (by conv => lhs; simp [go_sem])
                  have y15 : A.eval (.tmp 15) = _ := Eq.trans (hf 15) (by conv => lhs; simp [go_sem])
                  have y16 : A.eval (.tmp 16) = _ := Eq.trans (hf 16) (by conv => lhs; simp [go_sem])
                  have y17 : A.eval (.tmp 17) = _ := Eq.trans (hf 17) (by conv => lhs; simp [go_sem])
                  have y18 : A.eval (.tmp 18) = _ := Eq.trans (hf 18) (by conv => lhs; simp [go_sem])
                  have y19 : A.eval (.tmp 19) = _ := Eq.trans (hf 19) (by conv => lhs; simp [go_sem])
                  have y20 : A.eval (.tmp 20) = _ := Eq.trans (hf 20) (by conv => lhs; simp [go_sem])
                  have y21 : A.eval (.tmp 21) = _ := Eq.trans (hf 21) (by conv => lhs; simp [go_sem])
                  have y22 : A.eval (.tmp 22) = _ := Eq.trans (hf 22) (by conv => lhs; simp [go_sem])
                  have y23 : A.eval (.tmp 23) = _ := Eq.trans (hf 23) (by conv => lhs; simp [go_sem])
                  have y24 : A.eval (.tmp 24) = _ := Eq.trans (hf 24) (by conv => lhs; simp [go_sem])
                  have y25 : A.eval (.tmp 25) = _ := Eq.trans (hf 25) (by conv => lhs; simp [go_sem])
                  have y26 : A.eval (.tmp 26) = _ := Eq.trans (hf 26) (by conv => lhs; simp [go_sem])
                  have y27 : A.eval (.tmp 27) = _ := Eq.trans (hf 27) (by conv => lhs; simp [go_sem])
                  have y28 : A.eval (.tmp 28) = _ := Eq.trans (hf 28) (by conv => lhs; simp [go_sem])
                  have y29 : A.eval (.tmp 29) = _ := Eq.trans (hf 29) (by conv => lhs; simp [go_sem])
                  have y30 : A.eval (.tmp 30) = _ := Eq.trans (hf 30) (by conv => lhs; simp [go_sem])
                  have y31 : A.eval (.tmp 31) = _ := Eq.trans (hf 31) (by conv => lhs; simp [go_sem])
                  have y32 : A.eval (.tmp 32) = _ := Eq.trans (hf 32) (by conv => lhs; simp [go_sem])
                  have y33 : A.eval (.tmp 33) = _ := Eq.trans (hf 33) (by conv => lhs; simp [go_sem])
                  have y34 : A.eval (.tmp 34) = _ := Eq.trans (hf 34) (by conv => lhs; simp [go_sem])
                  have y35 : A.eval (.tmp 35) = _ := Eq.trans (hf 35) (by conv => lhs; simp [go_sem])
                  have y36 : A.eval (.tmp 36) = _ := Eq.trans (hf 36) (by conv => lhs; simp [go_sem])
                  have y37 : A.eval (.tmp 37) = _ := Eq.trans (hf 37) (by conv => lhs; simp [go_sem])
                  have y38 : A.eval (.tmp 38) = _ := Eq.trans (hf 38) (by conv => lhs; simp [go_sem])
                  have y39 : A.eval (.tmp 39) = _ := Eq.trans (hf 39) (by conv => lhs; simp [go_sem])
                  have y40 : A.eval (.tmp 40) = _ := Eq.trans (hf 40) (by conv => lhs; simp [go_sem])
                  have y41 : A.eval (.tmp 41) = _ := Eq.trans (hf 41) (by conv => lhs; simp [go_sem])
                  have y42 : A.eval (.tmp 42) = _ := Eq.trans (hf 42) (by conv => lhs; simp [go_sem])
                  have y43 : A.eval (.tmp 43) = _ := Eq.trans (hf 43) (by conv => lhs; simp [go_sem])
                  have y44 : A.eval (.tmp 44) = _ := Eq.trans (hf 44) (by conv => lhs; simp [go_sem])
                  have y45 : A.eval (.tmp 45) = _ := Eq.trans (hf 45) (by conv => lhs; simp [go_sem])
                  have y46 : A.eval (.tmp 46) = _ := Eq.trans (hf 46) (by conv => lhs; simp [go_sem])
                  have y47 : A.eval (.tmp 47) = _ := Eq.trans (hf 47) (by conv => lhs; simp [go_sem])
                  have y48 : A.eval (.tmp 48) = _ := Eq.trans (hf 48) (by conv => lhs; simp [go_sem])
                  have y49 : A.eval (.tmp 49) = _ := Eq.trans (hf 49) (by conv => lhs; simp [go_sem])
                  have y50 : A.eval (.tmp 50) = _ := Eq.trans (hf 50) (by conv => lhs; simp [go_sem])
                  have y51 : A.eval (.tmp 51) = _ := Eq.trans (hf 51) (by conv => lhs; simp [go_sem])
                  have y52 : A.eval (.tmp 52) = _ := Eq.trans (hf 52) (by conv => lhs; simp [go_sem])
                  have y53 : A.eval (.tmp 53) = _ := Eq.trans (hf 53) (by conv => lhs; simp [go_sem])
                  have y54 : A.eval (.tmp 54) = _ := Eq.trans (hf 54) (by conv => lhs; simp [go_sem])
                  have y55 : A.eval (.tmp 55) = _ := Eq.trans (hf 55) (by conv => lhs; simp [go_sem])
                  have y56 : A.eval (.tmp 56) = _ := Eq.trans (hf 56) (by conv => lhs; simp [go_sem])
                  have y57 : A.eval (.tmp 57) = _ := Eq.trans (hf 57) (by conv => lhs; simp [go_sem])
                  have y58 : A.eval (.tmp 58) = _ := Eq.trans (hf 58) (by conv => lhs; simp [go_sem])
                  have y59 : A.eval (.tmp 59) = _ := Eq.trans (hf 59) (by conv => lhs; simp [go_sem])
                  have y60 : A.eval (.tmp 60) = _ := Eq.trans (hf 60) (by conv => lhs; simp [go_sem])
                  have y61 : A.eval (.tmp 61) = _ := Eq.trans (hf 61) (by conv => lhs; simp [go_sem])
                  have y62 : A.eval (.tmp 62) = _ := Eq.trans (hf 62) (by conv => lhs; simp [go_sem])
                  have y63 : A.eval (.tmp 63) = _ := Eq.trans (hf 63) (by conv => lhs; simp [go_sem])
                  have y64 : A.eval (.tmp 64) = _ := Eq.trans (hf 64) (by conv => lhs; simp [go_sem])
                  have y65 : A.eval (.tmp 65) = _ := Eq.trans (hf 65) (by conv => lhs; simp [go_sem])
                  have y66 : A.eval (.tmp 66) = _ := Eq.trans (hf 66) (by conv => lhs; simp [go_sem])
                  have y67 : A.eval (.tmp 67) = _ := Eq.trans (hf 67) (by conv => lhs; simp [go_sem])
                  have y68 : A.eval (.tmp 68) = _ := Eq.trans (hf 68) (by conv => lhs; simp [go_sem])
                  have y69 : A.eval (.tmp 69) = _ := Eq.trans (hf 69) (by conv => lhs; simp [go_sem])
                  have y70 : A.eval (.tmp 70) = _ := Eq.trans (hf 70) (by conv => lhs; simp [go_sem])
                  have y71 : A.eval (.tmp 71) = _ := Eq.trans (hf 71) (by conv => lhs; simp [go_sem])
                  have y72 : A.eval (.tmp 72) = _ := Eq.trans (hf 72) (by conv => lhs; simp [go_sem])
                  have y73 : A.eval (.tmp 73) = _ := hf 73
                  have y74 : A.eval (.tmp 74) = _ := hf 74
                  have y75 : A.eval (.tmp 75) = _ := hf 75
                  have y76 : A.eval (.tmp 76) = _ := hf 76
                  have y77 : A.eval (.tmp 77) = _ := hf 77
                  have y78 : A.eval (.tmp 78) = _ := hf 78
                  have y79 : A.eval (.tmp 79) = _ := hf 79
                  have y80 : A.eval (.tmp 80) = _ := hf 80
                  have y81 : A.eval (.tmp 81) = _ := hf 81
                  have y82 : A.eval (.tmp 82) = _ := hf 82
                  have y83 : A.eval (.tmp 83) = _ := hf 83
                  have y84 : A.eval (.tmp 84) = _ := hf 84
                  have y85 : A.eval (.tmp 85) = _ := hf 85
                  have y86 : A.eval (.tmp 86) = _ := hf 86
                  have y87 : A.eval (.tmp 87) = _ := hf 87
                  have y88 : A.eval (.tmp 88) = _ := hf 88
                  have y89 : A.eval (.tmp 89) = _ := hf 89
                  have y90 : A.eval (.tmp 90) = _ := hf 90
                  have y91 : A.eval (.tmp 91) = _ := Eq.trans (hf 91) (by conv => lhs; simp [go_sem])
                  have y92 : A.eval (.tmp 92) = _ := Eq.trans (hf 92) (by conv => lhs; simp [go_sem])
                  have y93 : A.eval (.tmp 93) = _ := Eq.trans (hf 93) (by conv => lhs; simp [go_sem])
                  have y94 : A.eval (.tmp 94) = _ := Eq.trans (hf 94) (by conv => lhs; simp [go_sem])
                  have y95 : A.eval (.tmp 95) = _ := Eq.trans (hf 95) (by conv => lhs; simp [go_sem])
                  have y96 : A.eval (.tmp 96) = _ := Eq.trans (hf 96) (by conv => lhs; simp [go_sem])
                  have y97 : A.eval (.tmp 97) = _ := Eq.trans (hf 97) (by conv => lhs; simp [go_sem])
                  have y98 : A.eval (.tmp 98) = _ := Eq.trans (hf 98) (by conv => lhs; simp [go_sem])
                  have y99 : A.eval (.tmp 99) = _ := Eq.trans (hf 99) (by conv => lhs; simp [go_sem])
                  have y100 : A.eval (.tmp 100) = _ := Eq.trans (hf 100) (by conv => lhs; simp [go_sem])
                  have y101 : A.eval (.tmp 101) = _ := Eq.trans (hf 101) (by conv => lhs; simp [go_sem])
                  have y102 : A.eval (.tmp 102) = _ := Eq.trans (hf 102) (by conv => lhs; simp [go_sem])
                  have y103 : A.eval (.tmp 103) = _ := Eq.trans (hf 103) (by conv => lhs; simp [go_sem])
                  have y104 : A.eval (.tmp 104) = _ := Eq.trans (hf 104) (by conv => lhs; simp [go_sem])
                  have y105 : A.eval (.tmp 105) = _ := Eq.trans (hf 105) (by conv => lhs; simp [go_sem])
                  have y106 : A.eval (.tmp 106) = _ := Eq.trans (hf 106) (by conv => lhs; simp [go_sem])
                  have y107 : A.eval (.tmp 107) = _ := Eq.trans (hf 107) (by conv => lhs; simp [go_sem])
                  have y108 : A.eval (.tmp 108) = _ := Eq.trans (hf 108) (by conv => lhs; simp [go_sem])
                  have y109 : A.eval (.tmp 109) = _ := Eq.trans (hf 109) (by conv => lhs; simp [go_sem])
                  have y110 : A.eval (.tmp 110) = _ := Eq.trans (hf 110) (by conv => lhs; simp [go_sem])
                  have y111 : A.eval (.tmp 111) = _ := Eq.trans (hf 111) (by conv => lhs; simp [go_sem])
                  have y112 : A.eval (.tmp 112) = _ := Eq.trans (hf 112) (by conv => lhs; simp [go_sem])
                  have y113 : A.eval (.tmp 113) = _ := Eq.trans (hf 113) (by conv => lhs; simp [go_sem])
                  have y114 : A.eval (.tmp 114) = _ := Eq.trans (hf 114) (by conv => lhs; simp [go_sem])
                  have y115 : A.eval (.tmp 115) = _ := Eq.trans (hf 115) (by conv => lhs; simp [go_sem])
                  have y116 : A.eval (.tmp 116) = _ := Eq.trans (hf 116) (by conv => lhs; simp [go_sem])
                  have y117 : A.eval (.tmp 117) = _ := Eq.trans (hf 117) (by conv => lhs; simp [go_sem])
                  clear hf
                  have hA := frame_eq hn
                  rw [show List.range 118 = [0, 1, 2, 3, 4, 5, 6, 7, 8, 9, 10, 11, 12, 13, 14, 15, 16, 17, 18, 19, 20, 21, 22, 23, 24, 25, 26, 27, 28, 29, 30, 31, 32, 33, 34, 35, 36, 37, 38, 39, 40, 41, 42, 43, 44, 45, 46, 47, 48, 49, 50, 51, 52, 53, 54, 55, 56, 57, 58, 59, 60, 61, 62, 63, 64, 65, 66, 67, 68, 69, 70, 71, 72, 73, 74, 75, 76, 77, 78, 79, 80, 81, 82, 83, 84, 85, 86, 87, 88, 89, 90, 91, 92, 93, 94, 95, 96, 97, 98, 99, 100, 101, 102, 103, 104, 105, 106, 107, 108, 109, 110, 111, 112, 113, 114, 115, 116, 117] from rfl, hd] at hA
                  simp only [List.map_cons, List.map_nil, y0, y1, y2, y3, y4, y5, y6, y7, y8, y9, y10, y11, y12, y13, y14, y15, y16, y17, y18, y19, y20, y21, y22, y23, y24, y25, y26, y27, y28, y29, y30, y31, y32, y33, y34, y35, y36, y37, y38, y39, y40, y41, y42, y43, y44, y45, y46, y47, y48, y49, y50, y51, y52, y53, y54, y55, y56, y57, y58, y59, y60, y61, y62, y63, y64, y65, y66, y67, y68, y69, y70, y71, y72, y73, y74, y75, y76, y77, y78, y79, y80, y81, y82, y83, y84, y85, y86, y87, y88, y89, y90, y91, y92, y93, y94, y95, y96, y97, y98, y99, y100, y101, y102, y103, y104, y105, y106, y107, y108, y109, y110, y111, y112, y113, y114, y115, y116, y117] at hA
                  clear y0 y1 y2 y3 y4 y5 y6 y7 y8 y9 y10 y11 y12 y13 y14 y15 y16 y17 y18 y19 y20 y21 y22 y23 y24 y25 y26 y27 y28 y29 y30 y31 y32 y33 y34 y35 y36 y37 y38 y39 y40 y41 y42 y43 y44 y45 y46 y47 y48 y49 y50 y51 y52 y53 y54 y55 y56 y57 y58 y59 y60 y61 y62 y63 y64 y65 y66 y67 y68 y69 y70 y71 y72 y73 y74 y75 y76 y77 y78 y79 y80 y81 y82 y83 y84 y85 y86 y87 y88 y89 y90 y91 y92 y93 y94 y95 y96 y97 y98 y99 y100 y101 y102 y103 y104 y105 y106 y107 y108 y109 y110 y111 y112 y113 y114 y115 y116 y117
                  clear hn hd
                  subst hA
                  have HB5 := Lib.hid (HB3.out.trans (hC.mono HB3.out.size))
                  clear cB hC hsl1 hsl2
                  go_upto_region 24 with (fail)
                  have hne : ((p : Int) == (l2.length : Int)) = false := by rw [beq_eq_false_iff_ne]; omega
                  have hqn : ((j : Int)).toNat = j := Int.toNat_natCast j
                  have h0z : 0 < ol.length := by omega
                  obtain ⟨nj, hnj⟩ : ∃ nj, (ol.getD j zb).1 = nj := ⟨_, rfl⟩
                  obtain ⟨n0, hn0⟩ : ∃ n0, (ol.getD 0 zb).1 = n0 := ⟨_, rfl⟩
                  have kc : ∀ w', Below U5.heap.size U5 w' → w'.cell? ⟨b2, q2 + j * 2, none⟩ = some (.int .i64 nj) ∧ w'.cell? ⟨b2, q2, none⟩ = some (.int .i64 n0) := fun w' hb => by
                    have hbb := HB5.out.trans (hb.mono HB5.out.size)
                    obtain ⟨x1, x2, g1, g2, -⟩ := (HO.out.below hbb).bts.at hlj
                    cases g1
                    obtain ⟨x3, x4, g3, g4, -⟩ := (HO.out.below hbb).bts.at (show 0 < ol.length by omega)
                    cases g3
                    rw [Nat.zero_mul, Nat.add_zero] at g4
                    rw [hnj] at g2
                    rw [hn0] at g4
                    exact ⟨g2, g4⟩
                  have cW : ∀ w', Below U5.heap.size U5 w' → Calls Try.prog 25 #[.int .i64 nj, .int .i64 n0, .int .i64 a0] w' fun e w'' => e = .returned (.bool true) ∧ Below w'.heap.size w' w'' := fun w' _ => by
                    have h1 := within_any nj n0 a0 w'
                    rw [show withB nj n0 a0 = true from decide_eq_true (by have h2 := HWI.out j hlj; rw [hnj, hn0] at h2; exact h2)] at h1
                    exact h1
                  refine wp_region_typed (C := fun w' => Below U5.heap.size U5 w') (X := fun w w' => Below w.heap.size w w') (n := 118) (by kernel_rfl) (by kernel_rfl) rfl (fun w => Below.refl _ w) (Below.refl _ _).drew ?_
                  refine w_is (fun w => Below.refl _ w) _ (.inl rfl) (fun ρ w hC hc hfn hf => by have e13 : ρ (.tmp 13) = _ := hf 13 (by decide); (conv => lhs; simp [execOp, go_sem, hc, e13])) ?_
                  refine w_is (fun w => Below.refl _ w) _ (.inl rfl) (fun ρ w hC hc hfn hf => by have e9 : ρ (.tmp 9) = _ := hf 9 (by decide); (conv => lhs; simp [execOp, go_sem, hc, e9])) ?_
                  refine w_is (fun w => Below.refl _ w) _ (.inl rfl) (fun ρ w hC hc hfn hf => by have e94 : ρ (.tmp 94) = _ := hf 94 (by decide); (conv => lhs; simp [execOp, go_sem, hc, e94])) ?_
                  refine w_is (fun w => Below.refl _ w) _ (.inl rfl) (fun ρ w hC hc hfn hf => by have e93 : ρ (.tmp 93) = _ := hf 93 (by decide); have e95 : ρ (.tmp 95) = _ := hf 95 (by decide); (conv => lhs; simp [execOp, go_sem, hc, e93, e95, hne])) ?_
                  refine w_is (fun w => Below.refl _ w) _ (.inl rfl) (fun ρ w hC hc hfn hf => by have e96 : ρ (.tmp 96) = _ := hf 96 (by decide); (conv => lhs; simp [execOp, go_sem, hc, e96])) ?_
                  refine w_is (fun w => Below.refl _ w) _ (.inr ⟨4, 97, false, rfl, rfl, known_is rfl⟩) (fun ρ w hC hc hfn hf => by have e12 : ρ (.tmp 12) = _ := hf 12 (by decide); (conv => lhs; simp [execOp, go_sem, hc, e12])) ?_
                  refine w_is (fun w => Below.refl _ w) _ (.inr ⟨4, 97, false, rfl, rfl, known_is rfl⟩) (fun ρ w hC hc hfn hf => by have e14 : ρ (.tmp 14) = _ := hf 14 (by decide); (conv => lhs; simp [execOp, go_sem, hc, e14])) ?_
                  refine w_is (fun w => Below.refl _ w) _ (.inr ⟨4, 97, false, rfl, rfl, known_is rfl⟩) (fun ρ w hC hc hfn hf => by have e98 : ρ (.tmp 98) = _ := hf 98 (by decide); have e99 : ρ (.tmp 99) = _ := hf 99 (by decide); (conv => lhs; simp [execOp, go_sem, hc, e98, e99, hljz, hqn])) ?_
                  refine w_is (fun w => Below.refl _ w) _ (.inr ⟨4, 97, false, rfl, rfl, known_is rfl⟩) (fun ρ w hC hc hfn hf => by have e100 : ρ (.tmp 100) = _ := hf 100 (by decide); (conv => lhs; simp [execOp, go_sem, hc, e100])) ?_
                  refine w_is (fun w => Below.refl _ w) _ (.inr ⟨4, 97, false, rfl, rfl, known_is rfl⟩) (fun ρ w hC hc hfn hf => by have e101 : ρ (.tmp 101) = _ := hf 101 (by decide); (conv => lhs; simp [execOp, go_sem, hc, e101, kc w hC])) ?_
                  refine w_is (fun w => Below.refl _ w) _ (.inr ⟨4, 97, false, rfl, rfl, known_is rfl⟩) (fun ρ w hC hc hfn hf => by have e12 : ρ (.tmp 12) = _ := hf 12 (by decide); (conv => lhs; simp [execOp, go_sem, hc, e12])) ?_
                  refine w_is (fun w => Below.refl _ w) _ (.inr ⟨4, 97, false, rfl, rfl, known_is rfl⟩) (fun ρ w hC hc hfn hf => by have e103 : ρ (.tmp 103) = _ := hf 103 (by decide); (conv => lhs; simp [execOp, go_sem, hc, e103, h0z])) ?_
                  refine w_is (fun w => Below.refl _ w) _ (.inr ⟨4, 97, false, rfl, rfl, known_is rfl⟩) (fun ρ w hC hc hfn hf => by have e104 : ρ (.tmp 104) = _ := hf 104 (by decide); (conv => lhs; simp [execOp, go_sem, hc, e104])) ?_
                  refine w_is (fun w => Below.refl _ w) _ (.inr ⟨4, 97, false, rfl, rfl, known_is rfl⟩) (fun ρ w hC hc hfn hf => by have e105 : ρ (.tmp 105) = _ := hf 105 (by decide); (conv => lhs; simp [execOp, go_sem, hc, e105, kc w hC])) ?_
                  refine w_is (fun w => Below.refl _ w) _ (.inr ⟨4, 97, false, rfl, rfl, known_is rfl⟩) (fun ρ w hC hc hfn hf => by have e0 : ρ (.tmp 0) = _ := hf 0 (by decide); (conv => lhs; simp [execOp, go_sem, hc, e0])) ?_
                  refine w_call (Is _) (fun _ _ _ h _ => h) 25 (.inr ⟨4, 97, false, rfl, rfl, known_is rfl⟩) (fun ρ w hC hc hfn hf => by have e102 : ρ (.tmp 102) = _ := hf 102 (by decide); have e106 : ρ (.tmp 106) = _ := hf 106 (by decide); have e107 : ρ (.tmp 107) = _ := hf 107 (by decide); exact ⟨_, by (conv => lhs; simp [execOp, resolve, invoke, go_sem, hc, hfn, e102, e106, e107]), tc_below hC (cW w hC)⟩) ?_
                  refine w_is (fun w => Below.refl _ w) _ (.inr ⟨4, 97, false, rfl, rfl, known_is rfl⟩) (fun ρ w hC hc hfn hf => by have e108 : ρ (.tmp 108) = _ := hf 108 (by decide); (conv => lhs; simp [execOp, go_sem, hc, e108])) ?_
                  refine w_is (fun w => Below.refl _ w) _ (.inl rfl) (fun ρ w hC hc hfn hf => by have e97 : ρ (.tmp 97) = _ := hf 97 (by decide); have e109 : ρ (.tmp 109) = _ := hf 109 (by decide); (conv => lhs; simp [execOp, go_sem, hc, e97, e109])) ?_
                  intro A U7 hC hn hd hf
                  have y0 : A.eval (.tmp 0) = _ := Eq.trans (hf 0) (by conv => lhs; simp [go_sem])
                  have y1 : A.eval (.tmp 1) = _ := Eq.trans (hf 1) (by conv => lhs; simp [go_sem])
                  have y2 : A.eval (.tmp 2) = _ := Eq.trans (hf 2) (by conv => lhs; simp [go_sem])
                  have y3 : A.eval (.tmp 3) = _ := Eq.trans (hf 3) (by conv => lhs; simp [go_sem])
                  have y4 : A.eval (.tmp 4) = _ := Eq.trans (hf 4) (by conv => lhs; simp [go_sem])
                  have y5 : A.eval (.tmp 5) = _ := Eq.trans (hf 5) (by conv => lhs; simp [go_sem])
                  have y6 : A.eval (.tmp 6) = _ := Eq.trans (hf 6) (by conv => lhs; simp [go_sem])
                  have y7 : A.eval (.tmp 7) = _ := Eq.trans (hf 7) (by conv => lhs; simp [go_sem])
                  have y8 : A.eval (.tmp 8) = _ := Eq.trans (hf 8) (by conv => lhs; simp [go_sem])
                  have y9 : A.eval (.tmp 9) = _ := Eq.trans (hf 9) (by conv => lhs; simp [go_sem])
                  have y10 : A.eval (.tmp 10) = _ := Eq.trans (hf 10) (by conv => lhs; simp [go_sem])
                  have y11 : A.eval (.tmp 11) = _ := Eq.trans (hf 11) (by conv => lhs; simp [go_sem])
                  have y12 : A.eval (.tmp 12) = _ := Eq.trans (hf 12) (by conv => lhs; simp [go_sem])
                  have y13 : A.eval (.tmp 13) = _ := Eq.trans (hf 13) (by conv => lhs; simp [go_sem])
                  have y14 : A.eval (.tmp 14) = _ := Eq.trans (hf 14) (by conv => lhs; simp [go_sem])
                  have y15 : A.eval (.tmp 15) = _ := Eq.trans (hf 15) (by conv => lhs; simp [go_sem])
                  have y16 : A.eval (.tmp 16) = _ := Eq.trans (hf 16) (by conv => lhs; simp [go_sem])
                  have y17 : A.eval (.tmp 17) = _ := Eq.trans (hf 17) (by conv => lhs; simp [go_sem])
                  have y18 : A.eval (.tmp 18) = _ := Eq.trans (hf 18) (by conv => lhs; simp [go_sem])
                  have y19 : A.eval (.tmp 19) = _ := Eq.trans (hf 19) (by conv => lhs; simp [go_sem])
                  have y20 : A.eval (.tmp 20) = _ := Eq.trans (hf 20) (by conv => lhs; simp [go_sem])
                  have y21 : A.eval (.tmp 21) = _ := Eq.trans (hf 21) (by conv => lhs; simp [go_sem])
                  have y22 : A.eval (.tmp 22) = _ := Eq.trans (hf 22) (by conv => lhs; simp [go_sem])
                  have y23 : A.eval (.tmp 23) = _ := Eq.trans (hf 23) (by conv => lhs; simp [go_sem])
                  have y24 : A.eval (.tmp 24) = _ := Eq.trans (hf 24) (by conv => lhs; simp [go_sem])
                  have y25 : A.eval (.tmp 25) = _ := Eq.trans (hf 25) (by conv => lhs; simp [go_sem])
                  have y26 : A.eval (.tmp 26) = _ := Eq.trans (hf 26) (by conv => lhs; simp [go_sem])
                  have y27 : A.eval (.tmp 27) = _ := Eq.trans (hf 27) (by conv => lhs; simp [go_sem])
                  have y28 : A.eval (.tmp 28) = _ := Eq.trans (hf 28) (by conv => lhs; simp [go_sem])
                  have y29 : A.eval (.tmp 29) = _ := Eq.trans (hf 29) (by conv => lhs; simp [go_sem])
                  have y30 : A.eval (.tmp 30) = _ := Eq.trans (hf 30) (by conv => lhs; simp [go_sem])
                  have y31 : A.eval (.tmp 31) = _ := Eq.trans (hf 31) (by conv => lhs; simp [go_sem])
                  have y32 : A.eval (.tmp 32) = _ := Eq.trans (hf 32) (by conv => lhs; simp [go_sem])
                  have y33 : A.eval (.tmp 33) = _ := Eq.trans (hf 33) (by conv => lhs; simp [go_sem])
                  have y34 : A.eval (.tmp 34) = _ := Eq.trans (hf 34) (by conv => lhs; simp [go_sem])
                  have y35 : A.eval (.tmp 35) = _ := Eq.trans (hf 35) (by conv => lhs; simp [go_sem])
                  have y36 : A.eval (.tmp 36) = _ := Eq.trans (hf 36) (by conv => lhs; simp [go_sem])
                  have y37 : A.eval (.tmp 37) = _ := Eq.trans (hf 37) (by conv => lhs; simp [go_sem])
                  have y38 : A.eval (.tmp 38) = _ := Eq.trans (hf 38) (by conv => lhs; simp [go_sem])
                  have y39 : A.eval (.tmp 39) = _ := Eq.trans (hf 39) (by conv => lhs; simp [go_sem])
                  have y40 : A.eval (.tmp 40) = _ := Eq.trans (hf 40) (by conv => lhs; simp [go_sem])
                  have y41 : A.eval (.tmp 41) = _ := Eq.trans (hf 41) (by conv => lhs; simp [go_sem])
                  have y42 : A.eval (.tmp 42) = _ := Eq.trans (hf 42) (by conv => lhs; simp [go_sem])
                  have y43 : A.eval (.tmp 43) = _ := Eq.trans (hf 43) (by conv => lhs; simp [go_sem])
                  have y44 : A.eval (.tmp 44) = _ := Eq.trans (hf 44) (by conv => lhs; simp [go_sem])
                  have y45 : A.eval (.tmp 45) = _ := Eq.trans (hf 45) (by conv => lhs; simp [go_sem])
                  have y46 : A.eval (.tmp 46) = _ := Eq.trans (hf 46) (by conv => lhs; simp [go_sem])
                  have y47 : A.eval (.tmp 47) = _ := Eq.trans (hf 47) (by conv => lhs; simp [go_sem])
                  have y48 : A.eval (.tmp 48) = _ := Eq.trans (hf 48) (by conv => lhs; simp [go_sem])
                  have y49 : A.eval (.tmp 49) = _ := Eq.trans (hf 49) (by conv => lhs; simp [go_sem])
                  have y50 : A.eval (.tmp 50) = _ := Eq.trans (hf 50) (by conv => lhs; simp [go_sem])
                  have y51 : A.eval (.tmp 51) = _ := Eq.trans (hf 51) (by conv => lhs; simp [go_sem])
                  have y52 : A.eval (.tmp 52) = _ := Eq.trans (hf 52) (by conv => lhs; simp [go_sem])
                  have y53 : A.eval (.tmp 53) = _ := Eq.trans (hf 53) (by conv => lhs; simp [go_sem])
                  have y54 : A.eval (.tmp 54) = _ := Eq.trans (hf 54) (by conv => lhs; simp [go_sem])
                  have y55 : A.eval (.tmp 55) = _ := Eq.trans (hf 55) (by conv => lhs; simp [go_sem])
                  have y56 : A.eval (.tmp 56) = _ := Eq.trans (hf 56) (by conv => lhs; simp [go_sem])
                  have y57 : A.eval (.tmp 57) = _ := Eq.trans (hf 57) (by conv => lhs; simp [go_sem])
                  have y58 : A.eval (.tmp 58) = _ := Eq.trans (hf 58) (by conv => lhs; simp [go_sem])
                  have y59 : A.eval (.tmp 59) = _ := Eq.trans (hf 59) (by conv => lhs; simp [go_sem])
                  have y60 : A.eval (.tmp 60) = _ := Eq.trans (hf 60) (by conv => lhs; simp [go_sem])
                  have y61 : A.eval (.tmp 61) = _ := Eq.trans (hf 61) (by conv => lhs; simp [go_sem])
                  have y62 : A.eval (.tmp 62) = _ := Eq.trans (hf 62) (by conv => lhs; simp [go_sem])
                  have y63 : A.eval (.tmp 63) = _ := Eq.trans (hf 63) (by conv => lhs; simp [go_sem])
                  have y64 : A.eval (.tmp 64) = _ := Eq.trans (hf 64) (by conv => lhs; simp [go_sem])
                  have y65 : A.eval (.tmp 65) = _ := Eq.trans (hf 65) (by conv => lhs; simp [go_sem])
                  have y66 : A.eval (.tmp 66) = _ := Eq.trans (hf 66) (by conv => lhs; simp [go_sem])
                  have y67 : A.eval (.tmp 67) = _ := Eq.trans (hf 67) (by conv => lhs; simp [go_sem])
                  have y68 : A.eval (.tmp 68) = _ := Eq.trans (hf 68) (by conv => lhs; simp [go_sem])
                  have y69 : A.eval (.tmp 69) = _ := Eq.trans (hf 69) (by conv => lhs; simp [go_sem])
                  have y70 : A.eval (.tmp 70) = _ := Eq.trans (hf 70) (by conv => lhs; simp [go_sem])
                  have y71 : A.eval (.tmp 71) = _ := Eq.trans (hf 71) (by conv => lhs; simp [go_sem])
                  have y72 : A.eval (.tmp 72) = _ := Eq.trans (hf 72) (by conv => lhs; simp [go_sem])
                  have y73 : A.eval (.tmp 73) = _ := Eq.trans (hf 73) (by conv => lhs; simp [go_sem])
                  have y74 : A.eval (.tmp 74) = _ := Eq.trans (hf 74) (by conv => lhs; simp [go_sem])
                  have y75 : A.eval (.tmp 75) = _ := Eq.trans (hf 75) (by conv => lhs; simp [go_sem])
                  have y76 : A.eval (.tmp 76) = _ := Eq.trans (hf 76) (by conv => lhs; simp [go_sem])
                  have y77 : A.eval (.tmp 77) = _ := Eq.trans (hf 77) (by conv => lhs; simp [go_sem])
                  have y78 : A.eval (.tmp 78) = _ := Eq.trans (hf 78) (by conv => lhs; simp [go_sem])
                  have y79 : A.eval (.tmp 79) = _ := Eq.trans (hf 79) (by conv => lhs; simp [go_sem])
                  have y80 : A.eval (.tmp 80) = _ := Eq.trans (hf 80) (by conv => lhs; simp [go_sem])
                  have y81 : A.eval (.tmp 81) = _ := Eq.trans (hf 81) (by conv => lhs; simp [go_sem])
                  have y82 : A.eval (.tmp 82) = _ := Eq.trans (hf 82) (by conv => lhs; simp [go_sem])
                  have y83 : A.eval (.tmp 83) = _ := Eq.trans (hf 83) (by conv => lhs; simp [go_sem])
                  have y84 : A.eval (.tmp 84) = _ := Eq.trans (hf 84) (by conv => lhs; simp [go_sem])
                  have y85 : A.eval (.tmp 85) = _ := Eq.trans (hf 85) (by conv => lhs; simp [go_sem])
                  have y86 : A.eval (.tmp 86) = _ := Eq.trans (hf 86) (by conv => lhs; simp [go_sem])
                  have y87 : A.eval (.tmp 87) = _ := Eq.trans (hf 87) (by conv => lhs; simp [go_sem])
                  have y88 : A.eval (.tmp 88) = _ := Eq.trans (hf 88) (by conv => lhs; simp [go_sem])
                  have y89 : A.eval (.tmp 89) = _ := Eq.trans (hf 89) (by conv => lhs; simp [go_sem])
                  have y90 : A.eval (.tmp 90) = _ := Eq.trans (hf 90) (by conv => lhs; simp [go_sem])
                  have y91 : A.eval (.tmp 91) = _ := Eq.trans (hf 91) (by conv => lhs; simp [go_sem])
                  have y92 : A.eval (.tmp 92) = _ := Eq.trans (hf 92) (by conv => lhs; simp [go_sem])
                  have y93 : A.eval (.tmp 93) = _ := hf 93
                  have y94 : A.eval (.tmp 94) = _ := hf 94
                  have y95 : A.eval (.tmp 95) = _ := hf 95
                  have y96 : A.eval (.tmp 96) = _ := hf 96
                  have y97 : A.eval (.tmp 97) = _ := hf 97
                  have y98 : A.eval (.tmp 98) = _ := hf 98
                  have y99 : A.eval (.tmp 99) = _ := hf 99
                  have y100 : A.eval (.tmp 100) = _ := hf 100
                  have y101 : A.eval (.tmp 101) = _ := hf 101
                  have y102 : A.eval (.tmp 102) = _ := hf 102
                  have y103 : A.eval (.tmp 103) = _ := hf 103
                  have y104 : A.eval (.tmp 104) = _ := hf 104
                  have y105 : A.eval (.tmp 105) = _ := hf 105
                  have y106 : A.eval (.tmp 106) = _ := hf 106
                  have y107 : A.eval (.tmp 107) = _ := hf 107
                  have y108 : A.eval (.tmp 108) = _ := hf 108
                  have y109 : A.eval (.tmp 109) = _ := hf 109
                  have y110 : A.eval (.tmp 110) = _ := hf 110
                  have y111 : A.eval (.tmp 111) = _ := Eq.trans (hf 111) (by conv => lhs; simp [go_sem])
                  have y112 : A.eval (.tmp 112) = _ := Eq.trans (hf 112) (by conv => lhs; simp [go_sem])
                  have y113 : A.eval (.tmp 113) = _ := Eq.trans (hf 113) (by conv => lhs; simp [go_sem])
                  have y114 : A.eval (.tmp 114) = _ := Eq.trans (hf 114) (by conv => lhs; simp [go_sem])
                  have y115 : A.eval (.tmp 115) = _ := Eq.trans (hf 115) (by conv => lhs; simp [go_sem])
                  have y116 : A.eval (.tmp 116) = _ := Eq.trans (hf 116) (by conv => lhs; simp [go_sem])
                  have y117 : A.eval (.tmp 117) = _ := Eq.trans (hf 117) (by conv => lhs; simp [go_sem])
                  clear hf
                  have hA := frame_eq hn
                  rw [show List.range 118 = [0, 1, 2, 3, 4, 5, 6, 7, 8, 9, 10, 11, 12, 13, 14, 15, 16, 17, 18, 19, 20, 21, 22, 23, 24, 25, 26, 27, 28, 29, 30, 31, 32, 33, 34, 35, 36, 37, 38, 39, 40, 41, 42, 43, 44, 45, 46, 47, 48, 49, 50, 51, 52, 53, 54, 55, 56, 57, 58, 59, 60, 61, 62, 63, 64, 65, 66, 67, 68, 69, 70, 71, 72, 73, 74, 75, 76, 77, 78, 79, 80, 81, 82, 83, 84, 85, 86, 87, 88, 89, 90, 91, 92, 93, 94, 95, 96, 97, 98, 99, 100, 101, 102, 103, 104, 105, 106, 107, 108, 109, 110, 111, 112, 113, 114, 115, 116, 117] from rfl, hd] at hA
                  simp only [List.map_cons, List.map_nil, y0, y1, y2, y3, y4, y5, y6, y7, y8, y9, y10, y11, y12, y13, y14, y15, y16, y17, y18, y19, y20, y21, y22, y23, y24, y25, y26, y27, y28, y29, y30, y31, y32, y33, y34, y35, y36, y37, y38, y39, y40, y41, y42, y43, y44, y45, y46, y47, y48, y49, y50, y51, y52, y53, y54, y55, y56, y57, y58, y59, y60, y61, y62, y63, y64, y65, y66, y67, y68, y69, y70, y71, y72, y73, y74, y75, y76, y77, y78, y79, y80, y81, y82, y83, y84, y85, y86, y87, y88, y89, y90, y91, y92, y93, y94, y95, y96, y97, y98, y99, y100, y101, y102, y103, y104, y105, y106, y107, y108, y109, y110, y111, y112, y113, y114, y115, y116, y117] at hA
                  clear y0 y1 y2 y3 y4 y5 y6 y7 y8 y9 y10 y11 y12 y13 y14 y15 y16 y17 y18 y19 y20 y21 y22 y23 y24 y25 y26 y27 y28 y29 y30 y31 y32 y33 y34 y35 y36 y37 y38 y39 y40 y41 y42 y43 y44 y45 y46 y47 y48 y49 y50 y51 y52 y53 y54 y55 y56 y57 y58 y59 y60 y61 y62 y63 y64 y65 y66 y67 y68 y69 y70 y71 y72 y73 y74 y75 y76 y77 y78 y79 y80 y81 y82 y83 y84 y85 y86 y87 y88 y89 y90 y91 y92 y93 y94 y95 y96 y97 y98 y99 y100 y101 y102 y103 y104 y105 y106 y107 y108 y109 y110 y111 y112 y113 y114 y115 y116 y117
                  clear hn hd
                  subst hA
                  have HB7 := Lib.hid (HB5.out.trans (hC.mono HB5.out.size))
                  clear kc cW hC hne hqn h0z hnj hn0
                  go_wp2_with fail
                  go_roundw
                  case rel => exact ⟨j + 1, p + 1, by omega, by omega, by go_num, by go_num, HNX.out, HB7.out⟩
                  case measure => simp [intOf]; omega
                · have cB := cS false ⟨fun h => (nomatch h), fun h => absurd h hxy⟩
                  have HNX : Hid ((ol.drop j).Sublist (l2.drop (p + 1))) := by
                    have ex : ol.drop j = ol.getD j zb :: ol.drop (j + 1) := by rw [List.drop_eq_getElem_cons hlj]; simp [List.getD, hlj]
                    show List.Sublist _ _
                    rw [ex]
                    exact sub_skip HSW.out hxy
                  clear cS hxy
                  refine wp_region_typed (C := fun w' => Below wr.heap.size wr w') (X := fun w w' => Below w.heap.size w w') (n := 118) (by kernel_rfl) (by kernel_rfl) rfl (fun w => Below.refl _ w) (Below.refl _ _).drew ?_
                  refine w_is (fun w => Below.refl _ w) _ (.inl rfl) (fun ρ w hC hc hfn hf => by have e13 : ρ (.tmp 13) = _ := hf 13 (by decide); (conv => lhs; simp [execOp, go_sem, hc, e13])) ?_
                  refine w_is (fun w => Below.refl _ w) _ (.inl rfl) (fun ρ w hC hc hfn hf => by have e9 : ρ (.tmp 9) = _ := hf 9 (by decide); (conv => lhs; simp [execOp, go_sem, hc, e9])) ?_
                  refine w_is (fun w => Below.refl _ w) _ (.inl rfl) (fun ρ w hC hc hfn hf => by have e74 : ρ (.tmp 74) = _ := hf 74 (by decide); (conv => lhs; simp [execOp, go_sem, hc, e74])) ?_
                  refine w_is (fun w => Below.refl _ w) _ (.inl rfl) (fun ρ w hC hc hfn hf => by have e73 : ρ (.tmp 73) = _ := hf 73 (by decide); have e75 : ρ (.tmp 75) = _ := hf 75 (by decide); (conv => lhs; simp [execOp, go_sem, hc, e73, e75, hatz])) ?_
                  refine w_is (fun w => Below.refl _ w) _ (.inl rfl) (fun ρ w hC hc hfn hf => by have e76 : ρ (.tmp 76) = _ := hf 76 (by decide); (conv => lhs; simp [execOp, go_sem, hc, e76])) ?_
                  refine w_is (fun w => Below.refl _ w) _ (.inr ⟨4, 77, true, rfl, rfl, known_is rfl⟩) (fun ρ w hC hc hfn hf => by have e9 : ρ (.tmp 9) = _ := hf 9 (by decide); (conv => lhs; simp [execOp, go_sem, hc, e9])) ?_
                  refine w_is (fun w => Below.refl _ w) _ (.inr ⟨4, 77, true, rfl, rfl, known_is rfl⟩) (fun ρ w hC hc hfn hf => by have e13 : ρ (.tmp 13) = _ := hf 13 (by decide); (conv => lhs; simp [execOp, go_sem, hc, e13])) ?_
                  refine w_is (fun w => Below.refl _ w) _ (.inr ⟨4, 77, true, rfl, rfl, known_is rfl⟩) (fun ρ w hC hc hfn hf => by have e13 : ρ (.tmp 13) = _ := hf 13 (by decide); (conv => lhs; simp [execOp, go_sem, hc, e13])) ?_
                  refine w_is (fun w => Below.refl _ w) _ (.inr ⟨4, 77, true, rfl, rfl, known_is rfl⟩) (fun ρ w hC hc hfn hf => by have e80 : ρ (.tmp 80) = _ := hf 80 (by decide); (conv => lhs; simp [execOp, go_sem, hc, e80, hw1])) ?_
                  refine w_is (fun w => Below.refl _ w) _ (.inr ⟨4, 77, true, rfl, rfl, known_is rfl⟩) (fun ρ w hC hc hfn hf => by have e78 : ρ (.tmp 78) = _ := hf 78 (by decide); have e79 : ρ (.tmp 79) = _ := hf 79 (by decide); have e81 : ρ (.tmp 81) = _ := hf 81 (by decide); (conv => lhs; simp [execOp, go_sem, hc, e78, e79, e81, hsl1 w])) ?_
                  refine w_is (fun w => Below.refl _ w) _ (.inr ⟨4, 77, true, rfl, rfl, known_is rfl⟩) (fun ρ w hC hc hfn hf => by have e12 : ρ (.tmp 12) = _ := hf 12 (by decide); (conv => lhs; simp [execOp, go_sem, hc, e12])) ?_
                  refine w_is (fun w => Below.refl _ w) _ (.inr ⟨4, 77, true, rfl, rfl, known_is rfl⟩) (fun ρ w hC hc hfn hf => by have e14 : ρ (.tmp 14) = _ := hf 14 (by decide); (conv => lhs; simp [execOp, go_sem, hc, e14])) ?_
                  refine w_is (fun w => Below.refl _ w) _ (.inr ⟨4, 77, true, rfl, rfl, known_is rfl⟩) (fun ρ w hC hc hfn hf => by have e14 : ρ (.tmp 14) = _ := hf 14 (by decide); (conv => lhs; simp [execOp, go_sem, hc, e14])) ?_
                  refine w_is (fun w => Below.refl _ w) _ (.inr ⟨4, 77, true, rfl, rfl, known_is rfl⟩) (fun ρ w hC hc hfn hf => by have e85 : ρ (.tmp 85) = _ := hf 85 (by decide); (conv => lhs; simp [execOp, go_sem, hc, e85, hw2])) ?_
                  refine w_is (fun w => Below.refl _ w) _ (.inr ⟨4, 77, true, rfl, rfl, known_is rfl⟩) (fun ρ w hC hc hfn hf => by have e83 : ρ (.tmp 83) = _ := hf 83 (by decide); have e84 : ρ (.tmp 84) = _ := hf 84 (by decide); have e86 : ρ (.tmp 86) = _ := hf 86 (by decide); (conv => lhs; simp [execOp, go_sem, hc, e83, e84, e86, hsl2 w])) ?_
                  refine w_call (Is _) (fun _ _ _ h _ => h) 13 (.inr ⟨4, 77, true, rfl, rfl, known_is rfl⟩) (fun ρ w hC hc hfn hf => by have e82 : ρ (.tmp 82) = _ := hf 82 (by decide); have e87 : ρ (.tmp 87) = _ := hf 87 (by decide); exact ⟨_, by (conv => lhs; simp [execOp, resolve, invoke, go_sem, hc, hfn, e82, e87]), tc_below hC (cB w hC)⟩) ?_
                  refine w_is (fun w => Below.refl _ w) _ (.inr ⟨4, 77, true, rfl, rfl, known_is rfl⟩) (fun ρ w hC hc hfn hf => by have e88 : ρ (.tmp 88) = _ := hf 88 (by decide); (conv => lhs; simp [execOp, go_sem, hc, e88])) ?_
                  refine w_is (fun w => Below.refl _ w) _ (.inl rfl) (fun ρ w hC hc hfn hf => by have e77 : ρ (.tmp 77) = _ := hf 77 (by decide); have e89 : ρ (.tmp 89) = _ := hf 89 (by decide); (conv => lhs; simp [execOp, go_sem, hc, e77, e89])) ?_
                  intro A U5 hC hn hd hf
                  have y0 : A.eval (.tmp 0) = _ := Eq.trans (hf 0) (by conv => lhs; simp [go_sem])
                  have y1 : A.eval (.tmp 1) = _ := Eq.trans (hf 1) (by conv => lhs; simp [go_sem])
                  have y2 : A.eval (.tmp 2) = _ := Eq.trans (hf 2) (by conv => lhs; simp [go_sem])
                  have y3 : A.eval (.tmp 3) = _ := Eq.trans (hf 3) (by conv => lhs; simp [go_sem])
                  have y4 : A.eval (.tmp 4) = _ := Eq.trans (hf 4) (by conv => lhs; simp [go_sem])
                  have y5 : A.eval (.tmp 5) = _ := Eq.trans (hf 5) (by conv => lhs; simp [go_sem])
                  have y6 : A.eval (.tmp 6) = _ := Eq.trans (hf 6) (by conv => lhs; simp [go_sem])
                  have y7 : A.eval (.tmp 7) = _ := Eq.trans (hf 7) (by conv => lhs; simp [go_sem])
                  have y8 : A.eval (.tmp 8) = _ := Eq.trans (hf 8) (by conv => lhs; simp [go_sem])
                  have y9 : A.eval (.tmp 9) = _ := Eq.trans (hf 9) (by conv => lhs; simp [go_sem])
                  have y10 : A.eval (.tmp 10) = _ := Eq.trans (hf 10) (by conv => lhs; simp [go_sem])
                  have y11 : A.eval (.tmp 11) = _ := Eq.trans (hf 11) (by conv => lhs; simp [go_sem])
                  have y12 : A.eval (.tmp 12) = _ := Eq.trans (hf 12) (by conv => lhs; simp [go_sem])
                  have y13 : A.eval (.tmp 13) = _ := Eq.trans (hf 13) (by conv => lhs; simp [go_sem])
                  have y14 : A.eval (.tmp 14) = _ := Eq.trans (hf 14) (by conv => lhs; simp [go_sem])
                  have y15 : A.eval (.tmp 15) = _ := Eq.trans (hf 15) (by conv => lhs; simp [go_sem])
                  have y16 : A.eval (.tmp 16) = _ := Eq.trans (hf 16) (by conv => lhs; simp [go_sem])
                  have y17 : A.eval (.tmp 17) = _ := Eq.trans (hf 17) (by conv => lhs; simp [go_sem])
                  have y18 : A.eval (.tmp 18) = _ := Eq.trans (hf 18) (by conv => lhs; simp [go_sem])
                  have y19 : A.eval (.tmp 19) = _ := Eq.trans (hf 19) (by conv => lhs; simp [go_sem])
                  have y20 : A.eval (.tmp 20) = _ := Eq.trans (hf 20) (by conv => lhs; simp [go_sem])
                  have y21 : A.eval (.tmp 21) = _ := Eq.trans (hf 21) (by conv => lhs; simp [go_sem])
                  have y22 : A.eval (.tmp 22) = _ := Eq.trans (hf 22) (by conv => lhs; simp [go_sem])
                  have y23 : A.eval (.tmp 23) = _ := Eq.trans (hf 23) (by conv => lhs; simp [go_sem])
                  have y24 : A.eval (.tmp 24) = _ := Eq.trans (hf 24) (by conv => lhs; simp [go_sem])
                  have y25 : A.eval (.tmp 25) = _ := Eq.trans (hf 25) (by conv => lhs; simp [go_sem])
                  have y26 : A.eval (.tmp 26) = _ := Eq.trans (hf 26) (by conv => lhs; simp [go_sem])
                  have y27 : A.eval (.tmp 27) = _ := Eq.trans (hf 27) (by conv => lhs; simp [go_sem])
                  have y28 : A.eval (.tmp 28) = _ := Eq.trans (hf 28) (by conv => lhs; simp [go_sem])
                  have y29 : A.eval (.tmp 29) = _ := Eq.trans (hf 29) (by conv => lhs; simp [go_sem])
                  have y30 : A.eval (.tmp 30) = _ := Eq.trans (hf 30) (by conv => lhs; simp [go_sem])
                  have y31 : A.eval (.tmp 31) = _ := Eq.trans (hf 31) (by conv => lhs; simp [go_sem])
                  have y32 : A.eval (.tmp 32) = _ := Eq.trans (hf 32) (by conv => lhs; simp [go_sem])
                  have y33 : A.eval (.tmp 33) = _ := Eq.trans (hf 33) (by conv => lhs; simp [go_sem])
                  have y34 : A.eval (.tmp 34) = _ := Eq.trans (hf 34) (by conv => lhs; simp [go_sem])
                  have y35 : A.eval (.tmp 35) = _ := Eq.trans (hf 35) (by conv => lhs; simp [go_sem])
                  have y36 : A.eval (.tmp 36) = _ := Eq.trans (hf 36) (by conv => lhs; simp [go_sem])
                  have y37 : A.eval (.tmp 37) = _ := Eq.trans (hf 37) (by conv => lhs; simp [go_sem])
                  have y38 : A.eval (.tmp 38) = _ := Eq.trans (hf 38) (by conv => lhs; simp [go_sem])
                  have y39 : A.eval (.tmp 39) = _ := Eq.trans (hf 39) (by conv => lhs; simp [go_sem])
                  have y40 : A.eval (.tmp 40) = _ := Eq.trans (hf 40) (by conv => lhs; simp [go_sem])
                  have y41 : A.eval (.tmp 41) = _ := Eq.trans (hf 41) (by conv => lhs; simp [go_sem])
                  have y42 : A.eval (.tmp 42) = _ := Eq.trans (hf 42) (by conv => lhs; simp [go_sem])
                  have y43 : A.eval (.tmp 43) = _ := Eq.trans (hf 43) (by conv => lhs; simp [go_sem])
                  have y44 : A.eval (.tmp 44) = _ := Eq.trans (hf 44) (by conv => lhs; simp [go_sem])
                  have y45 : A.eval (.tmp 45) = _ := Eq.trans (hf 45) (by conv => lhs; simp [go_sem])
                  have y46 : A.eval (.tmp 46) = _ := Eq.trans (hf 46) (by conv => lhs; simp [go_sem])
                  have y47 : A.eval (.tmp 47) = _ := Eq.trans (hf 47) (by conv => lhs; simp [go_sem])
                  have y48 : A.eval (.tmp 48) = _ := Eq.trans (hf 48) (by conv => lhs; simp [go_sem])
                  have y49 : A.eval (.tmp 49) = _ := Eq.trans (hf 49) (by conv => lhs; simp [go_sem])
                  have y50 : A.eval (.tmp 50) = _ := Eq.trans (hf 50) (by conv => lhs; simp [go_sem])
                  have y51 : A.eval (.tmp 51) = _ := Eq.trans (hf 51) (by conv => lhs; simp [go_sem])
                  have y52 : A.eval (.tmp 52) = _ := Eq.trans (hf 52) (by conv => lhs; simp [go_sem])
                  have y53 : A.eval (.tmp 53) = _ := Eq.trans (hf 53) (by conv => lhs; simp [go_sem])
                  have y54 : A.eval (.tmp 54) = _ := Eq.trans (hf 54) (by conv => lhs; simp [go_sem])
                  have y55 : A.eval (.tmp 55) = _ := Eq.trans (hf 55) (by conv => lhs; simp [go_sem])
                  have y56 : A.eval (.tmp 56) = _ := Eq.trans (hf 56) (by conv => lhs; simp [go_sem])
                  have y57 : A.eval (.tmp 57) = _ := Eq.trans (hf 57) (by conv => lhs; simp [go_sem])
                  have y58 : A.eval (.tmp 58) = _ := Eq.trans (hf 58) (by conv => lhs; simp [go_sem])
                  have y59 : A.eval (.tmp 59) = _ := Eq.trans (hf 59) (by conv => lhs; simp [go_sem])
                  have y60 : A.eval (.tmp 60) = _ := Eq.trans (hf 60) (by conv => lhs; simp [go_sem])
                  have y61 : A.eval (.tmp 61) = _ := Eq.trans (hf 61) (by conv => lhs; simp [go_sem])
                  have y62 : A.eval (.tmp 62) = _ := Eq.trans (hf 62) (by conv => lhs; simp [go_sem])
                  have y63 : A.eval (.tmp 63) = _ := Eq.trans (hf 63) (by conv => lhs; simp [go_sem])
                  have y64 : A.eval (.tmp 64) = _ := Eq.trans (hf 64) (by conv => lhs; simp [go_sem])
                  have y65 : A.eval (.tmp 65) = _ := Eq.trans (hf 65) (by conv => lhs; simp [go_sem])
                  have y66 : A.eval (.tmp 66) = _ := Eq.trans (hf 66) (by conv => lhs; simp [go_sem])
                  have y67 : A.eval (.tmp 67) = _ := Eq.trans (hf 67) (by conv => lhs; simp [go_sem])
                  have y68 : A.eval (.tmp 68) = _ := Eq.trans (hf 68) (by conv => lhs; simp [go_sem])
                  have y69 : A.eval (.tmp 69) = _ := Eq.trans (hf 69) (by conv => lhs; simp [go_sem])
                  have y70 : A.eval (.tmp 70) = _ := Eq.trans (hf 70) (by conv => lhs; simp [go_sem])
                  have y71 : A.eval (.tmp 71) = _ := Eq.trans (hf 71) (by conv => lhs; simp [go_sem])
                  have y72 : A.eval (.tmp 72) = _ := Eq.trans (hf 72) (by conv => lhs; simp [go_sem])
                  have y73 : A.eval (.tmp 73) = _ := hf 73
                  have y74 : A.eval (.tmp 74) = _ := hf 74
                  have y75 : A.eval (.tmp 75) = _ := hf 75
                  have y76 : A.eval (.tmp 76) = _ := hf 76
                  have y77 : A.eval (.tmp 77) = _ := hf 77
                  have y78 : A.eval (.tmp 78) = _ := hf 78
                  have y79 : A.eval (.tmp 79) = _ := hf 79
                  have y80 : A.eval (.tmp 80) = _ := hf 80
                  have y81 : A.eval (.tmp 81) = _ := hf 81
                  have y82 : A.eval (.tmp 82) = _ := hf 82
                  have y83 : A.eval (.tmp 83) = _ := hf 83
                  have y84 : A.eval (.tmp 84) = _ := hf 84
                  have y85 : A.eval (.tmp 85) = _ := hf 85
                  have y86 : A.eval (.tmp 86) = _ := hf 86
                  have y87 : A.eval (.tmp 87) = _ := hf 87
                  have y88 : A.eval (.tmp 88) = _ := hf 88
                  have y89 : A.eval (.tmp 89) = _ := hf 89
                  have y90 : A.eval (.tmp 90) = _ := hf 90
                  have y91 : A.eval (.tmp 91) = _ := Eq.trans (hf 91) (by conv => lhs; simp [go_sem])
                  have y92 : A.eval (.tmp 92) = _ := Eq.trans (hf 92) (by conv => lhs; simp [go_sem])
                  have y93 : A.eval (.tmp 93) = _ := Eq.trans (hf 93) (by conv => lhs; simp [go_sem])
                  have y94 : A.eval (.tmp 94) = _ := Eq.trans (hf 94) (by conv => lhs; simp [go_sem])
                  have y95 : A.eval (.tmp 95) = _ := Eq.trans (hf 95) (by conv => lhs; simp [go_sem])
                  have y96 : A.eval (.tmp 96) = _ := Eq.trans (hf 96) (by conv => lhs; simp [go_sem])
                  have y97 : A.eval (.tmp 97) = _ := Eq.trans (hf 97) (by conv => lhs; simp [go_sem])
                  have y98 : A.eval (.tmp 98) = _ := Eq.trans (hf 98) (by conv => lhs; simp [go_sem])
                  have y99 : A.eval (.tmp 99) = _ := Eq.trans (hf 99) (by conv => lhs; simp [go_sem])
                  have y100 : A.eval (.tmp 100) = _ := Eq.trans (hf 100) (by conv => lhs; simp [go_sem])
                  have y101 : A.eval (.tmp 101) = _ := Eq.trans (hf 101) (by conv => lhs; simp [go_sem])
                  have y102 : A.eval (.tmp 102) = _ := Eq.trans (hf 102) (by conv => lhs; simp [go_sem])
                  have y103 : A.eval (.tmp 103) = _ := Eq.trans (hf 103) (by conv => lhs; simp [go_sem])
                  have y104 : A.eval (.tmp 104) = _ := Eq.trans (hf 104) (by conv => lhs; simp [go_sem])
                  have y105 : A.eval (.tmp 105) = _ := Eq.trans (hf 105) (by conv => lhs; simp [go_sem])
                  have y106 : A.eval (.tmp 106) = _ := Eq.trans (hf 106) (by conv => lhs; simp [go_sem])
                  have y107 : A.eval (.tmp 107) = _ := Eq.trans (hf 107) (by conv => lhs; simp [go_sem])
                  have y108 : A.eval (.tmp 108) = _ := Eq.trans (hf 108) (by conv => lhs; simp [go_sem])
                  have y109 : A.eval (.tmp 109) = _ := Eq.trans (hf 109) (by conv => lhs; simp [go_sem])
                  have y110 : A.eval (.tmp 110) = _ := Eq.trans (hf 110) (by conv => lhs; simp [go_sem])
                  have y111 : A.eval (.tmp 111) = _ := Eq.trans (hf 111) (by conv => lhs; simp [go_sem])
                  have y112 : A.eval (.tmp 112) = _ := Eq.trans (hf 112) (by conv => lhs; simp [go_sem])
                  have y113 : A.eval (.tmp 113) = _ := Eq.trans (hf 113) (by conv => lhs; simp [go_sem])
                  have y114 : A.eval (.tmp 114) = _ := Eq.trans (hf 114) (by conv => lhs; simp [go_sem])
                  have y115 : A.eval (.tmp 115) = _ := Eq.trans (hf 115) (by conv => lhs; simp [go_sem])
                  have y116 : A.eval (.tmp 116) = _ := Eq.trans (hf 116) (by conv => lhs; simp [go_sem])
                  have y117 : A.eval (.tmp 117) = _ := Eq.trans (hf 117) (by conv => lhs; simp [go_sem])
                  clear hf
                  have hA := frame_eq hn
                  rw [show List.range 118 = [0, 1, 2, 3, 4, 5, 6, 7, 8, 9, 10, 11, 12, 13, 14, 15, 16, 17, 18, 19, 20, 21, 22, 23, 24, 25, 26, 27, 28, 29, 30, 31, 32, 33, 34, 35, 36, 37, 38, 39, 40, 41, 42, 43, 44, 45, 46, 47, 48, 49, 50, 51, 52, 53, 54, 55, 56, 57, 58, 59, 60, 61, 62, 63, 64, 65, 66, 67, 68, 69, 70, 71, 72, 73, 74, 75, 76, 77, 78, 79, 80, 81, 82, 83, 84, 85, 86, 87, 88, 89, 90, 91, 92, 93, 94, 95, 96, 97, 98, 99, 100, 101, 102, 103, 104, 105, 106, 107, 108, 109, 110, 111, 112, 113, 114, 115, 116, 117] from rfl, hd] at hA
                  simp only [List.map_cons, List.map_nil, y0, y1, y2, y3, y4, y5, y6, y7, y8, y9, y10, y11, y12, y13, y14, y15, y16, y17, y18, y19, y20, y21, y22, y23, y24, y25, y26, y27, y28, y29, y30, y31, y32, y33, y34, y35, y36, y37, y38, y39, y40, y41, y42, y43, y44, y45, y46, y47, y48, y49, y50, y51, y52, y53, y54, y55, y56, y57, y58, y59, y60, y61, y62, y63, y64, y65, y66, y67, y68, y69, y70, y71, y72, y73, y74, y75, y76, y77, y78, y79, y80, y81, y82, y83, y84, y85, y86, y87, y88, y89, y90, y91, y92, y93, y94, y95, y96, y97, y98, y99, y100, y101, y102, y103, y104, y105, y106, y107, y108, y109, y110, y111, y112, y113, y114, y115, y116, y117] at hA
                  clear y0 y1 y2 y3 y4 y5 y6 y7 y8 y9 y10 y11 y12 y13 y14 y15 y16 y17 y18 y19 y20 y21 y22 y23 y24 y25 y26 y27 y28 y29 y30 y31 y32 y33 y34 y35 y36 y37 y38 y39 y40 y41 y42 y43 y44 y45 y46 y47 y48 y49 y50 y51 y52 y53 y54 y55 y56 y57 y58 y59 y60 y61 y62 y63 y64 y65 y66 y67 y68 y69 y70 y71 y72 y73 y74 y75 y76 y77 y78 y79 y80 y81 y82 y83 y84 y85 y86 y87 y88 y89 y90 y91 y92 y93 y94 y95 y96 y97 y98 y99 y100 y101 y102 y103 y104 y105 y106 y107 y108 y109 y110 y111 y112 y113 y114 y115 y116 y117
                  clear hn hd
                  subst hA
                  have HB5 := Lib.hid (HB3.out.trans (hC.mono HB3.out.size))
                  clear cB hC hsl1 hsl2
                  go_wp2_with fail
                  go_roundw
                  case rel => exact ⟨p + 1, by omega, by go_num, HNX.out, HB5.out⟩
                  case measure => simp [intOf]; omega
            · obtain rfl : j = ol.length := by omega
              have hle := HLE.out
              have HXE := Lib.hid (XO.out.below dc HB.out)
              have HSE := Lib.hid (SO.out.below HB.out)
              go_wp2_with fail
              go_roundw
              case rel => exact ⟨k + 1, Fo, s2, l2, ay, cy, by omega, by go_num, rfl, HXE.out, HSE.out, H2.out⟩
              case measure => simp [intOf]; omega
      · obtain rfl : k = z2.length := by omega
        go_wp2_with fail
        refine (awake14 dc wr).mono ?_
        rintro e W5 ⟨rfl, hb5⟩
        have HB5 := Lib.hid (X.out.bel.trans (hb5.mono X.out.bel.size))
        clear hb5
        go_wp2_with fail
        go_ret
        exact ⟨rfl, HB5.out⟩
theorem walk {PS : World → (Nat → Prop) → Nat → Sd → Prop} (dc : Dc PS) (a0 : Int) (w0 : I64 a0) (a1 : Int) (w1 : I64 a1) (a2 : Option Addr) (cap2 : Nat) (z2 : List Opn) (w : World) (r2 : Sc w (.slice a2 z2.length cap2) z2) :
    Calls Try.prog 5 #[.int .i64 a0, .int .i64 a1, .slice a2 z2.length cap2] w fun e w' => e = .returned (.bool true) ∧ Below w.heap.size w w' := walk0 dc a0 a1 a2 cap2 z2 w r2

set_option maxRecDepth 100000 in
theorem lifted (os : _root_.Go.Os) (started : os.Started) (H : Type) (enc : TypeId × Value → H) :
    ReturnsInHanded {} Try.checked os 5 .any (Rows.senderWindowSpec.pre6 enc Try.prog Try.f5 Rows.senderWindowRow.domain false) (Rows.senderWindowSpec.post enc Try.prog Try.f5 false true false false) := by
  refine returnsInHanded_of_change (C := Try.checked) own started (by kernel_rfl) Try.func5
    (ChangeSpec.witness6 (enc := enc) (C := Try.checked) false ⟨#[], #[.int .i64 0, .int .i64 0, .slice none 0 0], []⟩ 16 (by kernel_rfl) (by kernel_rfl) (by kernel_rfl) (by kernel_rfl)) ?_
  intro W base args ds gs before hval0 hW hcnd _
  have hval : ∀ (j : Nat) t v, Try.f5.params[j]? = some t → args[j]? = some v → Value.okWide Try.prog W .any base t v := hval0
  have hW' := hW
  obtain ⟨p, q, hA0, hV, rfl, hfz, hnd⟩ := hW
  have hA : DataW.TrodAll enc Try.prog W 0 (fun _ => true) true Try.f5.params.toList args.toList ds p := hA0
  rw [Try.params5] at hA hval
  obtain ⟨v0, vs0, e0, ds0, p0, q0, hargs, rfl, rfl, h0, x0⟩ := trodAll_cons hA
  obtain ⟨v1, vs1, e1, ds1, p1, q1, rfl, rfl, rfl, h1, x1⟩ := trodAll_cons x0
  obtain ⟨v2, vs2, e2, ds2, p2, q2, rfl, rfl, rfl, h2, x2⟩ := trodAll_cons x1
  obtain ⟨rfl, rfl, rfl⟩ := trodAll_nil x2
  obtain rfl : args = #[v0, v1, v2] := by cases args; simp_all
  obtain ⟨rfl, rfl⟩ := trodVars_none hV
  have k0 := h0
  have lt0 : ∀ x ∈ p0, x.block < W.heap.size := by obtain ⟨m, hm⟩ := k0; exact DataW.trod_lt m _ _ _ hm
  obtain ⟨a0, rfl, _, _, w0⟩ := open_int Try.underlying3 (hval 0 3 v0 rfl rfl) h0
  have k1 := h1
  have lt1 : ∀ x ∈ p1, x.block < W.heap.size := by obtain ⟨m, hm⟩ := k1; exact DataW.trod_lt m _ _ _ hm
  obtain ⟨a1, rfl, _, _, w1⟩ := open_int Try.underlying3 (hval 1 3 v1 rfl rfl) h1
  have k2 := h2
  have lt2 : ∀ x ∈ p2, x.block < W.heap.size := by obtain ⟨m, hm⟩ := k2; exact DataW.trod_lt m _ _ _ hm
  obtain ⟨a2, len2, cap2, rfl⟩ := okWide_slice underOPS (hval 2 22 v2 rfl rfl)
  obtain ⟨z2, hz2, w2⟩ := sc_form h2
  subst hz2
  clear hA0 hval0
  refine (walk dc a0 (i64_wf w0) a1 (i64_wf w1) a2 cap2 z2 W w2).mono fun e W' ⟨he, bel⟩ => ?_
  subst he
  exact ⟨_, rfl, _, _, _, [], _, [], hW', trodAll_mk1 (shut_bool Try.underlying4 _), (trodAll_cons_mk (Below.trod laidOut (by kernel_rfl) (of_decide_eq_true (by kernel_rfl)) k0 bel lt0) (trodAll_cons_mk (Below.trod laidOut (by kernel_rfl) (of_decide_eq_true (by kernel_rfl)) k1 bel lt1) (trodAll_cons_mk (Below.trod laidOut (by kernel_rfl) (of_decide_eq_true (by kernel_rfl)) k2 bel lt2) trodAll_mk0))), rfl, bel.frame _, fun h => by cases h⟩

theorem over : Rows.senderWindowRow.holds Try.pinned (OpenSpec.ofChange Rows.senderWindowSpec) :=
  OpenClaim.holds_of_wide 5 Try.f5 rfl rfl rfl rfl rfl rfl rfl ⟨rfl, rfl, rfl, rfl, rfl⟩ rfl rfl rfl rfl rfl (by kernel_rfl) Try.func5 (by kernel_rfl)
    (of_decide_eq_true (by kernel_rfl)) (by unfold Func.isWrapper; first | (rw [if_pos (by decide +kernel)]; kernel_rfl) | (rw [if_neg (by decide +kernel)]; exact ⟨rfl, rfl⟩))
    (fun os started H enc _ => lifted os started H enc)

theorem proved : Rows.SenderWindowSaid := over
#print axioms proved
end Go.Proofs.Yticjeknadddhoaa.senderWindow
