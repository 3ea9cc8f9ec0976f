/- thalweglaw15.TakerPlays: for any window and steps the law answers true; no condition. -/
import Derived.Test.YtfiaghfaijlfjaaGreatPs
import Derived.WalkLawsBesides
import Derived.WalkKit
import Derived.ProofKit
import Derived.OpenShut
import Derived.ShutString
import Derived.ChangeOld
import Derived.Below
namespace Go.Proofs.YtfiaghfaijlfjaaGreat.takerPlays
open Go.ChangeShapes Go.WideShapes Go.ChangeAt Go.RowKit
open Go.ChangeMaps (open_string shut_string)
set_option linter.unusedVariables false
set_option maxRecDepth 100000

theorem own : ownKnob Tryz.prog.godebug = none := by kernel_rfl
theorem laidOut : laidOutB Tryz.prog = true := by kernel_rfl
theorem rem_run (T : TypeId) (m l : Nat) (hl : 0 < l) (w : World) : (binOp .rem T (.int .i64 (m : Int)) (.int .i64 (l : Int))).run Tryz.prog w = .ok (.int .i64 ((m % l : Nat) : Int)) w := by
  rw [binOp_rem]
  unfold Op.intDiv
  rw [if_neg (by omega)]
  rfl
theorem os_take {w : World} {a : Option Addr} {c n : Nat} {ys : List Ob} (h : Os w (.slice a ys.length c) ys) (hn : n ≤ ys.length) : Os w (.slice a n c) (ys.take n) ∧ ys.length ≤ c := by
  rcases h with ⟨a', c', e, h1, e0⟩ | ⟨b, off, c', e, h2, h3, h4⟩
  · subst e0
    obtain rfl : n = 0 := Nat.le_zero.1 hn
    simp only [Value.slice.injEq] at e
    obtain ⟨rfl, -, rfl⟩ := e
    exact ⟨.inl ⟨_, _, rfl, h1, rfl⟩, Nat.zero_le _⟩
  · simp only [Value.slice.injEq] at e
    obtain ⟨rfl, -, rfl⟩ := e
    have hl : (ys.take n).length = n := by rw [List.length_take]; omega
    refine ⟨.inr ⟨b, off, c, by rw [hl], by omega, h3, fun i hi j hj => ?_⟩, h2⟩
    rw [hl] at hi
    have e9 : (ys.take n).getD i z12 = ys.getD i z12 := by
      rw [List.getD_eq_getElem?_getD, List.getD_eq_getElem?_getD, List.getElem?_take, if_pos hi]
    rw [e9]
    exact h4 i (by omega) j hj
theorem btso_at {w : World} {F : Nat → Prop} {a : Option Addr} {c : Nat} {l : List Bt} (h : BtsO w F (.slice a l.length c) l) {i : Nat} (hi : i < l.length) : ∃ b off u, a = some ⟨b, off, none⟩ ∧ l.length ≤ c ∧ w.cell? ⟨b, off + i * 2, none⟩ = some (.int .i64 (l.getD i zb).1) ∧ w.cell? ⟨b, off + i * 2 + 1, none⟩ = some u ∧ OsO w F u (l.getD i zb).2 := by
  rcases h with ⟨_, _, _, _, e⟩ | ⟨b, off, cap, h1, h2, _, _, h5⟩
  · rw [e] at hi; exact absurd hi (Nat.not_lt_zero i)
  · simp only [Value.slice.injEq] at h1
    obtain ⟨rfl, -, rfl⟩ := h1
    obtain ⟨k1, u, k2, _, k4⟩ := h5 i hi
    exact ⟨b, off, u, rfl, h2, k1, k2, k4⟩
theorem mid_len {s : Sd} {t : Tk} {Bs : List Bt} {P T : List Ob} (h : Play s t Bs P) (hs : ∀ x ∈ s.out, x ∈ Bs) (hT : T = toldP t Bs) (j : Nat) : (T ++ (takeL t (s.out.take j)).1).length ≤ P.length := by
  obtain ⟨g1, g2, _⟩ := Play.takes (s.out.take j) h (fun x hx => hs x (List.mem_of_mem_take hx))
  obtain ⟨R, hR⟩ := g1.pre
  rw [g2, ← hT] at hR
  have e := congrArg List.length hR
  rw [List.length_append] at e
  omega
theorem play_outs {s : Sd} {t : Tk} {Bs : List Bt} {P : List Ob} (h : Play s t Bs P) : ∀ x ∈ s.out, x ∈ Bs := fun x hx => by
  obtain ⟨e, he, rfl⟩ := List.mem_map.1 hx
  exact h.out e he
set_option maxHeartbeats 64000000 in
theorem walk (a0 : Int) (w0 : I64 a0) (a1 : Option Addr) (cap1 : Nat) (z1 : List Stp) (w : World) (r1 : Sps w (.slice a1 z1.length cap1) z1) :
    Calls Tryz.prog 4 #[.int .i64 a0, .slice a1 z1.length cap1] w fun e w' => e = .returned (.bool true) ∧ Below w.heap.size w w' := by
  have R1 := Lib.hid r1
  clear r1
  have C1 := Lib.hid (dc.new a0 100 w)
  go_enter Tryz.func4, Tryz.ntmps4
  go_wp2_with fail
  refine C1.out.mono ?_
  rintro e W1 ⟨hb1, h1⟩
  have HB1 := Lib.hid hb1
  have C2 := Lib.hid (tnew_any W1)
  rcases h1 with ⟨hn, rfl⟩ | ⟨hn, b1, F1, rfl, hp1, hF1⟩
  · clear hn hb1 C1
    go_wp2_with fail
    refine C2.out.mono ?_
    rintro e W2 ⟨b2, F2, rfl, hp2, hF2, hb2⟩
    have HB2 := Lib.hid (HB1.out.trans (hb2.mono HB1.out.size))
    clear hp2 hF2 hb2 C2
    go_wp2_with fail
    refine (awake15 _).mono ?_
    rintro e W9 ⟨rfl, hb9⟩
    have HB9 := Lib.hid (HB2.out.trans (hb9.mono HB2.out.size))
    clear hb9
    go_wp2_with fail
    go_ret
    exact ⟨rfl, HB9.out⟩
  · clear C1
    go_wp2_with fail
    refine C2.out.mono ?_
    rintro e W2 ⟨b2, F2, rfl, hp2, hF2, hb2⟩
    have X2 := Lib.hid (ply_new (w0 := w) hp1 hF1 hb1 hp2 hF2 hb2)
    have HN := Lib.hid hn
    clear hp1 hF1 hb1 hp2 hF2 hb2 C2 hn HB1
    by_cases hl : 60 < z1.length
    · have hl' : (60 : Int) < (z1.length : Int) := by omega
      clear hl
      go_wp2_with fail
      refine (awake15 _).mono ?_
      rintro e W9 ⟨rfl, hb9⟩
      have HB9 := Lib.hid (X2.out.bel.trans (hb9.mono X2.out.bel.size))
      clear hb9
      go_wp2_with fail
      go_ret
      exact ⟨rfl, HB9.out⟩
    have hl' : ¬ (60 : Int) < (z1.length : Int) := by omega
    have HL : Hid (z1.length ≤ 60) := by show _ ≤ _; omega
    clear hl
    have C3 := Lib.hid (ply_ack X2.out)
    go_wp2_with fail
    clear hl'
    refine C3.out.mono ?_
    rintro e W3 ⟨rfl, G3, hx3, hn3⟩
    obtain ⟨M, hM⟩ : ∃ M, mask16 tk0.nx (srt tk0.nx (nums tk0.H)) = M := ⟨_, rfl⟩
    have PL0 := pla_new HN.out
    rw [show mask16 0 (srt 0 (nums tk0.H)) = M from hM] at PL0
    rw [hM]
    have h0n : tk0.nx = 0 := rfl
    rw [h0n]
    obtain ⟨W4, hW4⟩ : ∃ W4, W3.alloc (.cells (akc (0, 0, 0, M)).toArray 37) = W4 := ⟨_, rfl⟩
    have hb4 : Below W3.heap.size W3 W4 := hW4 ▸ (Below.refl _ W3).alloc (Nat.le_refl _) _
    have A4 : Hid (AkR W4 w.heap.size G3 (.slice (some ⟨W3.heap.size, 0, none⟩) 1 1) [(0, 0, 0, M)]) := hW4 ▸ akr_one w.heap.size (0, 0, 0, M) hx3.bel.size hx3.lt
    have X4 := Lib.hid (hx3.below hb4)
    have S4 : Hid (SentR W4 w.heap.size G3 (.slice none 0 0) []) := SentR_nil _ _ _
    have PL0' := Lib.hid PL0
    obtain ⟨q4, hq4⟩ : ∃ q4, W3.heap.size = q4 := ⟨_, rfl⟩
    rw [hq4] at A4
    have HW4 : Hid (W3.alloc (.cells #[.int .i64 0, .int .i64 0, .int .i64 0, .int .i64 M] 37) = W4) := hW4
    have HQ4 := Lib.hid hq4
    clear hx3 hn3 hb4 hW4 hq4 PL0 C3 hM h0n
    go_upto_region 9 with (fail)
    rw [HW4.out]
    try simp only [HQ4.out]
    go_wp2_with fail
    go_loopw [8, 9, 10, 11, 12] (fun pv tv sv av iv wr => ∃ (k : Nat) (G : Nat → Prop) (s : Sd) (t : Tk) (Bs : List Bt) (P T : List Ob) (L : List Bt) (As : List Ak) (xp xt xs xa : Option Addr) (cp ct cs ca : Nat), k ≤ z1.length ∧ iv = .int .i64 k ∧ pv = .slice xp P.length cp ∧ tv = .slice xt T.length ct ∧ sv = .slice xs L.length cs ∧ av = .slice xa As.length ca ∧ Hid (Ply w wr G b1 b2 s t (.slice xp P.length cp) (.slice xt T.length ct) P T) ∧ Hid (SentR wr w.heap.size G (.slice xs L.length cs) L) ∧ Hid (AkR wr w.heap.size G (.slice xa As.length ca) As) ∧ Hid (Pla s t Bs P T L As k)) (fun _ _ _ _ i _ => z1.length - (intOf i).toNat)
    case atStart => exact ⟨0, G3, sd0 a0 100, tk0, [], [], [], [], [(0, 0, 0, M)], none, none, none, some ⟨q4, 0, none⟩, 0, 0, 0, 1, Nat.zero_le _, rfl, rfl, rfl, rfl, rfl, X4.out, S4.out, A4.out, PL0'.out⟩
    case round =>
      obtain ⟨k, G, s, t, Bs, P, T, L, As, xp, xt, xs, xa, cp, ct, cs, ca, hk, rfl, rfl, rfl, rfl, rfl, X, SS, AA, PL⟩ := hrel
      by_cases hlt : k < z1.length
      · obtain ⟨wo, hwo⟩ : ∃ wo, wo = wr := ⟨_, rfl⟩
        subst hwo
        obtain ⟨bs, offs, hbs, hlts, hcs⟩ := Sps.at (h := R1.out.below X.out.bel) hlt
        obtain ⟨⟨c, y, n⟩, hel⟩ : ∃ o : Stp, z1.getD k (0, z12, 0) = o := ⟨_, rfl⟩
        rw [hel] at hcs
        have q0 := hcs 0 (by decide)
        have q1 := hcs 1 (by decide)
        have q2 := hcs 2 (by decide)
        have q3 := hcs 3 (by decide)
        have q4 := hcs 4 (by decide)
        have q5 := hcs 5 (by decide)
        have q6 := hcs 6 (by decide)
        have q7 := hcs 7 (by decide)
        have q8 := hcs 8 (by decide)
        have q9 := hcs 9 (by decide)
        have q10 := hcs 10 (by decide)
        have q11 := hcs 11 (by decide)
        have q12 := hcs 12 (by decide)
        have q13 := hcs 13 (by decide)
        simp only [stc, Ob.cl, List.cons_append, List.nil_append, List.getElem?_cons_zero, List.getElem?_cons_succ, Nat.add_zero] at q0 q1 q2 q3 q4 q5 q6 q7 q8 q9 q10 q11 q12 q13
        subst hbs
        have hltz : (k : Int) < (z1.length : Int) := by omega
        have hq0 : (0 : Int) ≤ (k : Int) := by omega
        have hqn : ((k : Int)).toNat = k := Int.toNat_natCast k
        obtain ⟨V, hV⟩ : ∃ V, wo.alloc (.cells #[.int .i64 c, .int .i64 y.k, .int .i64 y.x, .bool y.n, .int .i64 y.t, .int .i64 y.o, .int .i64 y.r, .int .i64 y.d, .int .i64 y.i, .int .i64 y.p, .int .i64 y.q, .int .i64 y.s, .int .i64 y.m, .int .i64 n] 55) = V := ⟨_, rfl⟩
        have hbv : Below wo.heap.size wo V := hV ▸ (Below.refl _ wo).alloc (Nat.le_refl _) _
        obtain ⟨g0, hg0⟩ : ∃ g0, wo.heap.size = g0 := ⟨_, rfl⟩
        have HGV : Hid (g0 < V.heap.size) := by show _ < _; rw [← hg0, ← hV]; simp
        have hvc : V.cell? ⟨g0, 0, none⟩ = some (.int .i64 c) ∧ V.cell? ⟨g0, 1, none⟩ = some (.int .i64 y.k) ∧ V.cell? ⟨g0, 2, none⟩ = some (.int .i64 y.x) ∧ V.cell? ⟨g0, 3, none⟩ = some (.bool y.n) ∧ V.cell? ⟨g0, 4, none⟩ = some (.int .i64 y.t) ∧ V.cell? ⟨g0, 5, none⟩ = some (.int .i64 y.o) ∧ V.cell? ⟨g0, 6, none⟩ = some (.int .i64 y.r) ∧ V.cell? ⟨g0, 7, none⟩ = some (.int .i64 y.d) ∧ V.cell? ⟨g0, 8, none⟩ = some (.int .i64 y.i) ∧ V.cell? ⟨g0, 9, none⟩ = some (.int .i64 y.p) ∧ V.cell? ⟨g0, 10, none⟩ = some (.int .i64 y.q) ∧ V.cell? ⟨g0, 11, none⟩ = some (.int .i64 y.s) ∧ V.cell? ⟨g0, 12, none⟩ = some (.int .i64 y.m) ∧ V.cell? ⟨g0, 13, none⟩ = some (.int .i64 n) := by
          rw [← hV, ← hg0]
          refine ⟨?_, ?_, ?_, ?_, ?_, ?_, ?_, ?_, ?_, ?_, ?_, ?_, ?_, ?_⟩ <;> simp
        have HVC := Lib.hid hvc
        have XV := Lib.hid (X.out.below hbv)
        have SV := Lib.hid (SS.out.below hbv)
        have AV := Lib.hid (AA.out.below hbv)
        have HV := Lib.hid hV
        have HG := Lib.hid hg0
        have HNF : Hid (¬ G g0) := fun h => by have := X.out.lt g0 h; omega
        clear hV hbv hg0 hel hcs hvc hlts
        go_upto_block 2 with fail
        rw [HV.out]
        simp only [HG.out]
        clear q0 q1 q2 q3 q4 q5 q6 q7 q8 q9 q10 q11 q12 q13 hltz hq0 hqn
        obtain ⟨u0, u1, u2, u3, u4, u5, u6, u7, u8, u9, u10, u11, u12, u13⟩ := HVC.out
        go_cut [8, 9, 10, 11] from 52 to 149 (fun pv tv sv av wx => ∃ (G : Nat → Prop) (s : Sd) (t : Tk) (Bs : List Bt) (P T : List Ob) (L : List Bt) (As : List Ak) (xp xt xs xa : Option Addr) (cp ct cs ca : Nat), pv = .slice xp P.length cp ∧ tv = .slice xt T.length ct ∧ sv = .slice xs L.length cs ∧ av = .slice xa As.length ca ∧ Hid (Ply w wx G b1 b2 s t (.slice xp P.length cp) (.slice xt T.length ct) P T) ∧ Hid (SentR wx w.heap.size G (.slice xs L.length cs) L) ∧ Hid (AkR wx w.heap.size G (.slice xa As.length ca) As) ∧ Hid (Pla s t Bs P T L As (k + 1)))
        case first =>
          by_cases h0 : c = 0
          · subst h0
            have C5 := ply_push y XV.out
            have P5 := PL.out.push y
            obtain ⟨⟨code, s5⟩, hpr⟩ : ∃ q, pushR s y = q := ⟨_, rfl⟩
            rw [hpr] at C5 P5
            have HC5 := Lib.hid C5
            clear C5 hpr
            by_cases hc0 : code = 0
            · subst hc0
              have P6 := Lib.hid P5
              clear P5
              go_wp2_with fail
              refine HC5.out.mono ?_
              rintro e W5 ⟨rfl, G5, hx, hn⟩
              have t0 := (hn.1.cell (b := g0) (j := 0) HGV.out HNF.out).trans u0
              have t1 := (hn.1.cell (b := g0) (j := 1) HGV.out HNF.out).trans u1
              have t2 := (hn.1.cell (b := g0) (j := 2) HGV.out HNF.out).trans u2
              have t3 := (hn.1.cell (b := g0) (j := 3) HGV.out HNF.out).trans u3
              have t4 := (hn.1.cell (b := g0) (j := 4) HGV.out HNF.out).trans u4
              have t5 := (hn.1.cell (b := g0) (j := 5) HGV.out HNF.out).trans u5
              have t6 := (hn.1.cell (b := g0) (j := 6) HGV.out HNF.out).trans u6
              have t7 := (hn.1.cell (b := g0) (j := 7) HGV.out HNF.out).trans u7
              have t8 := (hn.1.cell (b := g0) (j := 8) HGV.out HNF.out).trans u8
              have t9 := (hn.1.cell (b := g0) (j := 9) HGV.out HNF.out).trans u9
              have t10 := (hn.1.cell (b := g0) (j := 10) HGV.out HNF.out).trans u10
              have t11 := (hn.1.cell (b := g0) (j := 11) HGV.out HNF.out).trans u11
              have t12 := (hn.1.cell (b := g0) (j := 12) HGV.out HNF.out).trans u12
              have t13 := (hn.1.cell (b := g0) (j := 13) HGV.out HNF.out).trans u13
              have S5 := SV.out.nx hn
              have A5 := AV.out.nx hn
              obtain ⟨V6, hV6⟩ : ∃ V6, W5.alloc (.cells #[.int .i64 y.k, .int .i64 y.x, .bool y.n, .int .i64 y.t, .int .i64 y.o, .int .i64 y.r, .int .i64 y.d, .int .i64 y.i, .int .i64 y.p, .int .i64 y.q, .int .i64 y.s, .int .i64 y.m] 53) = V6 := ⟨_, rfl⟩
              have hb6 : Below W5.heap.size W5 V6 := hV6 ▸ (Below.refl _ W5).alloc (Nat.le_refl _) _
              have ho6 : Os V6 (.slice (some ⟨W5.heap.size, 0, none⟩) 1 1) [y] := hV6 ▸ os_new W5 y
              obtain ⟨a7, c7, W7, hr, G7, hx7, hn7⟩ := ply_appP (hx.below hb6) _ [y] ho6 (by have := PL.out.pl; have := HL.out; show P.length + 1 ≤ 30000; omega) 29
              have X7 := Lib.hid hx7
              have S7 := Lib.hid ((S5.below hb6).nx hn7)
              have A7 := Lib.hid ((A5.below hb6).nx hn7)
              rw [← hV6] at hr
              clear hx hn S5 A5 hb6 ho6 hx7 hn7 hV6 u0 u1 u2 u3 u4 u5 u6 u7 u8 u9 u10 u11 u12 u13 HC5
              go_wp2_with (at_builtin; refine app_go rfl (.tmp 84) (.tmp 87) 29 rfl _ _ _ _ rfl rfl hr ?_)
              go_meet
              case rel => exact ⟨G7, s5, t, Bs, P ++ [y], T, L, As, a7, xt, xs, xa, c7, ct, cs, ca, by rw [List.length_append]; rfl, rfl, rfl, rfl, X7.out, S7.out, A7.out, P6.out⟩
            · have hc1 : (code == 0) = false := by simpa using hc0
              have P6 : Hid (Pla s5 t Bs P T L As (k + 1)) := by
                have h := P5
                simp only [if_neg hc0] at h
                exact h
              clear P5
              go_wp2_with fail
              refine HC5.out.mono ?_
              rintro e W5 ⟨rfl, G5, hx, hn⟩
              have X7 := Lib.hid hx
              have S7 := Lib.hid (SV.out.nx hn)
              have A7 := Lib.hid (AV.out.nx hn)
              clear hx hn u0 u1 u2 u3 u4 u5 u6 u7 u8 u9 u10 u11 u12 u13 HC5
              go_wp2_with fail
              go_meet
              case rel => exact ⟨G5, s5, t, Bs, P, T, L, As, xp, xt, xs, xa, cp, ct, cs, ca, rfl, rfl, rfl, rfl, X7.out, S7.out, A7.out, P6.out⟩
          have h0' : (c == 0) = false := by simpa using h0
          by_cases h1 : c = 1
          · clear h0 h0'
            subst h1
            have C5 := Lib.hid (ply_send XV.out)
            have P6 := Lib.hid (PL.out.send (by have := HL.out; omega))
            clear u0 u1 u2 u3 u4 u5 u6 u7 u8 u9 u10 u11 u12 u13
            go_wp2_with fail
            refine C5.out.mono ?_
            rintro e W5 ⟨a5, c5, rfl, G5, hx, hn, hb⟩
            have S5 := SV.out.nx hn
            have A5 := AV.out.nx hn
            obtain ⟨a7, c7, W7, hr, hs7, hx7, hg7⟩ := ply_appS hx S5 _ hb (by have h1 := P6.out.sl; rw [List.length_append] at h1; have := HL.out; omega) 22
            have X7 := Lib.hid hx7
            have S7 := Lib.hid hs7
            have A7 := Lib.hid (A5.grown S5 hg7)
            clear hx hn hb S5 A5 hs7 hx7 hg7 C5
            go_wp2_with (at_builtin; refine app_go rfl (.tmp 91) (.tmp 93) 22 rfl _ _ _ _ rfl rfl hr ?_)
            go_meet
            case rel => exact ⟨G5, sdS s, t, _, P, T, L ++ sdT s, As, xp, xt, a7, xa, cp, ct, c7, ca, rfl, rfl, by rw [List.length_append], rfl, X7.out, S7.out, A7.out, P6.out⟩
          have h1' : (c == 1) = false := by simpa using h1
          by_cases h2 : c = 2
          · clear h0 h0' h1 h1'
            subst h2
            have C5 := Lib.hid (ply_again XV.out)
            have P6 := Lib.hid (PL.out.again)
            clear u0 u1 u2 u3 u4 u5 u6 u7 u8 u9 u10 u11 u12 u13
            go_wp2_with fail
            refine C5.out.mono ?_
            rintro e W5 ⟨a5, c5, rfl, G5, hx, hn, hb⟩
            have S5 := SV.out.nx hn
            have A5 := AV.out.nx hn
            obtain ⟨a7, c7, W7, hr, hs7, hx7, hg7⟩ := ply_appS hx S5 _ hb (by have h1 := P6.out.sl; rw [List.length_append] at h1; have := HL.out; omega) 22
            have X7 := Lib.hid hx7
            have S7 := Lib.hid hs7
            have A7 := Lib.hid (A5.grown S5 hg7)
            clear hx hn hb S5 A5 hs7 hx7 hg7 C5
            go_wp2_with (at_builtin; refine app_go rfl (.tmp 102) (.tmp 103) 22 rfl _ _ _ _ rfl rfl hr ?_)
            go_meet
            case rel => exact ⟨G5, agS s, t, _, P, T, L ++ agL s, As, xp, xt, a7, xa, cp, ct, c7, ca, rfl, rfl, by rw [List.length_append], rfl, X7.out, S7.out, A7.out, P6.out⟩
          have h2' : (c == 2) = false := by simpa using h2
          by_cases h3 : c = 3
          · clear h0 h0' h1 h1' h2 h2'
            subst h3
            by_cases hls : 0 < L.length
            · have hlz : (0 : Int) < (L.length : Int) := by omega
              by_cases hn0 : 0 ≤ n
              · obtain ⟨m, rfl⟩ : ∃ m : Nat, n = m := ⟨n.toNat, by omega⟩
                have hml : m % L.length < L.length := Nat.mod_lt _ hls
                obtain ⟨bl, ul, hxs, hlc, e0, e1, hou⟩ := sentr_at SV.out hml
                subst hxs
                obtain ⟨⟨n1, ys⟩, hxb⟩ : ∃ xb, L.getD (m % L.length) zb = xb := ⟨_, rfl⟩
                rw [hxb] at e0 hou
                rw [Nat.zero_add] at e0 e1
                have e0 : V.cell? ⟨bl, m % L.length * 2, none⟩ = some (.int .i64 n1) := e0
                have hmem : (n1, ys) ∈ L := hxb ▸ getD_mem hml
                have hx32 : ys.length ≤ 32 := PL.out.batch hmem
                have C5 := ply_take n1 ul ys XV.out hou (by omega)
                have P5 := PL.out.take hmem
                obtain ⟨⟨⟨o5, n5⟩, t5⟩, hq5⟩ : ∃ q, takeR t (n1, ys) = q := ⟨_, rfl⟩
                rw [hq5] at C5 P5
                have HC5 := Lib.hid C5
                have P6 : Hid (Pla s t5 Bs P (T ++ o5) L As k) := P5
                have hjz : m % L.length < L.length := hml
                clear hou hmem hxb hx32 C5 P5 hq5
                go_wp2_with fail
                refine HC5.out.mono ?_
                rintro e W5 ⟨a5, c5, rfl, G5, hx, hn, ho⟩
                have S5 := SV.out.nx hn
                have A5 := AV.out.nx hn
                obtain ⟨a7, c7, W7, hr, G7, hx7, hn7⟩ := ply_appT hx _ o5 ho (by have h1 := P6.out.pre.1; have h2 := P6.out.pl; have := HL.out; rw [List.length_append] at h1; omega) 29
                have X7 := Lib.hid hx7
                have S7 := Lib.hid (S5.nx hn7)
                have A7 := Lib.hid (A5.nx hn7)
                clear hx hn ho S5 A5 hx7 hn7 HC5 u0 u1 u2 u3 u4 u5 u6 u7 u8 u9 u10 u11 u12 u13 e0 e1 hjz hls hlz hn0
                go_upto_region 28 with (at_builtin; refine app_go rfl (.tmp 128) (.tmp 129) 29 rfl _ _ _ _ rfl rfl hr ?_)
                clear hr
                have C8 := Lib.hid (ply_ack X7.out)
                have P9 := Lib.hid (P6.out.ack)
                go_wp2_with fail
                refine C8.out.mono ?_
                rintro e W8 ⟨rfl, G8, hx, hn⟩
                have S8 := S7.out.nx hn
                have A8 := A7.out.nx hn
                obtain ⟨M, hM⟩ : ∃ M, mask16 t5.nx (srt t5.nx (nums t5.H)) = M := ⟨_, rfl⟩
                rw [hM] at P9
                obtain ⟨V9, hV9⟩ : ∃ V9, W8.alloc (.cells #[.int .i64 0, .int .i64 0, .int .i64 t5.nx, .int .i64 M] 37) = V9 := ⟨_, rfl⟩
                have hb9 : Below W8.heap.size W8 V9 := hV9 ▸ (Below.refl _ W8).alloc (Nat.le_refl _) _
                have hgc : GC RAK V9 W8.heap.size 0 (0, 0, t5.nx, M) := fun j hj => by
                  subst hV9
                  have hj4 : j < 4 := hj
                  rcases (show j = 0 ∨ j = 1 ∨ j = 2 ∨ j = 3 by omega) with rfl | rfl | rfl | rfl <;> simp [RAK, akc]
                obtain ⟨a9, c9, W9, hr9, ha9, hs9, hx9⟩ := ply_appA (hx.below hb9) (S8.below hb9) (A8.below hb9) W8.heap.size _ hgc (by have h1 := PL.out.an; have := HL.out; omega) 47
                have X9 := Lib.hid hx9
                have S9 := Lib.hid hs9
                have A9 := Lib.hid ha9
                rw [← hV9] at hr9
                rw [hM]
                clear hx hn S8 A8 hV9 hb9 hgc ha9 hs9 hx9 C8 hM
                go_wp2_with (at_builtin; refine app_go rfl (.tmp 131) (.tmp 134) 47 rfl _ _ _ _ rfl rfl hr9 ?_)
                go_meet
                case rel => exact ⟨G8, s, t5, Bs, P, T ++ o5, L, _, xp, a7, _, a9, cp, c7, cs, c9, rfl, by first | rfl | rw [List.length_append], rfl, by rw [List.length_append]; rfl, X9.out, S9.out, A9.out, P9.out⟩
              · have hn1 : ¬ (0 : Int) ≤ n := hn0
                go_upto_region 28 with (fail)
                clear u0 u1 u2 u3 u4 u5 u6 u7 u8 u9 u10 u11 u12 u13 hls hlz hn0 hn1
                have C8 := Lib.hid (ply_ack XV.out)
                have P9 := Lib.hid (PL.out.ack)
                go_wp2_with fail
                refine C8.out.mono ?_
                rintro e W8 ⟨rfl, G8, hx, hn⟩
                have S8 := SV.out.nx hn
                have A8 := AV.out.nx hn
                obtain ⟨M, hM⟩ : ∃ M, mask16 t.nx (srt t.nx (nums t.H)) = M := ⟨_, rfl⟩
                rw [hM] at P9
                obtain ⟨V9, hV9⟩ : ∃ V9, W8.alloc (.cells #[.int .i64 0, .int .i64 0, .int .i64 t.nx, .int .i64 M] 37) = V9 := ⟨_, rfl⟩
                have hb9 : Below W8.heap.size W8 V9 := hV9 ▸ (Below.refl _ W8).alloc (Nat.le_refl _) _
                have hgc : GC RAK V9 W8.heap.size 0 (0, 0, t.nx, M) := fun j hj => by
                  subst hV9
                  have hj4 : j < 4 := hj
                  rcases (show j = 0 ∨ j = 1 ∨ j = 2 ∨ j = 3 by omega) with rfl | rfl | rfl | rfl <;> simp [RAK, akc]
                obtain ⟨a9, c9, W9, hr9, ha9, hs9, hx9⟩ := ply_appA (hx.below hb9) (S8.below hb9) (A8.below hb9) W8.heap.size _ hgc (by have h1 := PL.out.an; have := HL.out; omega) 47
                have X9 := Lib.hid hx9
                have S9 := Lib.hid hs9
                have A9 := Lib.hid ha9
                rw [← hV9] at hr9
                rw [hM]
                clear hx hn S8 A8 hV9 hb9 hgc ha9 hs9 hx9 C8 hM
                go_wp2_with (at_builtin; refine app_go rfl (.tmp 131) (.tmp 134) 47 rfl _ _ _ _ rfl rfl hr9 ?_)
                go_meet
                case rel => exact ⟨G8, s, t, Bs, P, T, L, _, xp, xt, _, a9, cp, ct, cs, c9, rfl, by first | rfl | rw [List.length_append], rfl, by rw [List.length_append]; rfl, X9.out, S9.out, A9.out, P9.out⟩
            · have hlz : ¬ (0 : Int) < (L.length : Int) := by omega
              go_upto_region 28 with (fail)
              clear u0 u1 u2 u3 u4 u5 u6 u7 u8 u9 u10 u11 u12 u13 hls hlz
              have C8 := Lib.hid (ply_ack XV.out)
              have P9 := Lib.hid (PL.out.ack)
              go_wp2_with fail
              refine C8.out.mono ?_
              rintro e W8 ⟨rfl, G8, hx, hn⟩
              have S8 := SV.out.nx hn
              have A8 := AV.out.nx hn
              obtain ⟨M, hM⟩ : ∃ M, mask16 t.nx (srt t.nx (nums t.H)) = M := ⟨_, rfl⟩
              rw [hM] at P9
              obtain ⟨V9, hV9⟩ : ∃ V9, W8.alloc (.cells #[.int .i64 0, .int .i64 0, .int .i64 t.nx, .int .i64 M] 37) = V9 := ⟨_, rfl⟩
              have hb9 : Below W8.heap.size W8 V9 := hV9 ▸ (Below.refl _ W8).alloc (Nat.le_refl _) _
              have hgc : GC RAK V9 W8.heap.size 0 (0, 0, t.nx, M) := fun j hj => by
                subst hV9
                have hj4 : j < 4 := hj
                rcases (show j = 0 ∨ j = 1 ∨ j = 2 ∨ j = 3 by omega) with rfl | rfl | rfl | rfl <;> simp [RAK, akc]
              obtain ⟨a9, c9, W9, hr9, ha9, hs9, hx9⟩ := ply_appA (hx.below hb9) (S8.below hb9) (A8.below hb9) W8.heap.size _ hgc (by have h1 := PL.out.an; have := HL.out; omega) 47
              have X9 := Lib.hid hx9
              have S9 := Lib.hid hs9
              have A9 := Lib.hid ha9
              rw [← hV9] at hr9
              rw [hM]
              clear hx hn S8 A8 hV9 hb9 hgc ha9 hs9 hx9 C8 hM
              go_wp2_with (at_builtin; refine app_go rfl (.tmp 131) (.tmp 134) 47 rfl _ _ _ _ rfl rfl hr9 ?_)
              go_meet
              case rel => exact ⟨G8, s, t, Bs, P, T, L, _, xp, xt, _, a9, cp, ct, cs, c9, rfl, by first | rfl | rw [List.length_append], rfl, by rw [List.length_append]; rfl, X9.out, S9.out, A9.out, P9.out⟩
          have h3' : (c == 3) = false := by simpa using h3
          clear h0 h1 h2 h3
          by_cases hn0 : 0 ≤ n
          · obtain ⟨m, rfl⟩ : ∃ m : Nat, n = m := ⟨n.toNat, by omega⟩
            have hls : 0 < As.length := PL.out.an.1
            have hml : m % As.length < As.length := Nat.mod_lt _ hls
            obtain ⟨ba, hxa, hlc, hca⟩ := AV.out.at hml
            subst hxa
            obtain ⟨a, hxb⟩ : ∃ a, As.getD (m % As.length) (0, 0, 0, 0) = a := ⟨_, rfl⟩
            rw [hxb] at hca
            rw [Nat.zero_add] at hca
            have e0 : V.cell? ⟨ba, m % As.length * 4, none⟩ = some (.int .i64 a.1) := hca 0 (by decide)
            have e1 : V.cell? ⟨ba, m % As.length * 4 + 1, none⟩ = some (.int .i64 a.2.1) := hca 1 (by decide)
            have e2 : V.cell? ⟨ba, m % As.length * 4 + 2, none⟩ = some (.int .i64 a.2.2.1) := hca 2 (by decide)
            have e3 : V.cell? ⟨ba, m % As.length * 4 + 3, none⟩ = some (.int .i64 a.2.2.2) := hca 3 (by decide)
            have hmem : a ∈ As := hxb ▸ getD_mem hml
            have C5 := Lib.hid (ply_got a XV.out)
            have P6 := Lib.hid (PL.out.got hmem)
            have hjz : m % As.length < As.length := hml
            clear hca hmem hxb
            go_wp2_with fail
            refine C5.out.mono ?_
            rintro e W5 ⟨rfl, G5, hx, hn⟩
            have X7 := Lib.hid hx
            have S7 := Lib.hid (SV.out.nx hn)
            have A7 := Lib.hid (AV.out.nx hn)
            clear hx hn C5 u0 u1 u2 u3 u4 u5 u6 u7 u8 u9 u10 u11 u12 u13 e0 e1 e2 e3 hjz hls hn0
            go_wp2_with fail
            go_meet
            case rel => exact ⟨G5, gtS s a, t, Bs, P, T, L, As, xp, xt, xs, _, cp, ct, cs, ca, rfl, rfl, rfl, rfl, X7.out, S7.out, A7.out, P6.out⟩
          · have P6 := Lib.hid PL.out.up
            go_wp2_with fail
            go_meet
            case rel => exact ⟨G, s, t, Bs, P, T, L, As, xp, xt, xs, xa, cp, ct, cs, ca, rfl, rfl, rfl, rfl, XV.out, SV.out, AV.out, P6.out⟩
        case rest =>
          obtain ⟨G2, s2, t2, Bs2, P2, T2, L2, As2, xp2, xt2, xs2, xa2, cp2, ct2, cs2, ca2, rfl, rfl, rfl, rfl, X2, S2, A2, PL2⟩ := hcut
          obtain ⟨wA, hwA⟩ : ∃ wA, wA = wc := ⟨_, rfl⟩
          subst hwA
          clear HGV HNF HVC XV SV AV HV HG X SS AA PL
          obtain ⟨hle, htk⟩ := PL2.out.pre
          obtain ⟨ho2, hcp⟩ := os_take X2.out.pos hle
          rw [htk] at ho2
          have C9 := Lib.hid (same_any _ _ T2 T2 wA X2.out.tos ho2 (by have h1 := PL2.out.pl; have := HL.out; omega))
          have hgt : ¬ (P2.length : Int) < (T2.length : Int) := by omega
          have hcz : T2.length ≤ cp2 := by omega
          have hczi : (T2.length : Int) ≤ (cp2 : Int) := by omega
          clear ho2 htk
          go_wp2_with fail
          refine C9.out.mono ?_
          rintro e W9 ⟨⟨qs, rfl, hqs⟩, hb⟩
          obtain rfl : qs = true := by simpa using hqs
          have X9 := Lib.hid (X2.out.below hb)
          have S9 := Lib.hid (S2.out.below hb)
          have A9 := Lib.hid (A2.out.below hb)
          clear hqs hb C9
          go_wp2_with fail
          go_roundw
          case rel => exact ⟨k + 1, G2, s2, t2, Bs2, P2, T2, L2, As2, xp2, xt2, xs2, xa2, cp2, ct2, cs2, ca2, by omega, by go_num, rfl, rfl, rfl, rfl, X9.out, S9.out, A9.out, PL2.out⟩
          case measure => simp [intOf]; omega
      · obtain rfl : k = z1.length := by omega
        have FI := Lib.hid (PL.out.fin HL.out)
        clear PL SS AA hlt
        obtain ⟨WA, hWA⟩ : ∃ WA, WA = wr := ⟨_, rfl⟩
        subst hWA
        go_wp2_with fail
        go_loopw [9, 18] (fun tv iv wr => ∃ (i : Nat) (G : Nat → Prop) (s : Sd) (t : Tk) (Bs : List Bt) (T : List Ob) (xt : Option Addr) (ct : Nat), i ≤ 70 ∧ iv = .int .i64 i ∧ tv = .slice xt T.length ct ∧ Hid (Ply w wr G b1 b2 s t (.slice xp P.length cp) (.slice xt T.length ct) P T) ∧ Hid (Fin s t Bs P T i)) (fun _ i _ => 70 - (intOf i).toNat)
        case atStart => exact ⟨0, G, s, t, Bs, T, xt, ct, Nat.zero_le _, rfl, rfl, X.out, FI.out⟩
        case round =>
          clear X FI
          obtain ⟨i, G, s, t, Bs, T, xt, ct, hi, rfl, rfl, X, FI⟩ := hrel
          by_cases hlt : i < 70
          · have hltz : (i : Int) < 70 := by omega
            have C1 := Lib.hid (ply_send X.out)
            have PS1 := Lib.hid FI.out.send
            have FR := FI.out.round
            have FI0 := Lib.hid FI.out
            have TD := Lib.hid FI.out.told
            have PL60 := Lib.hid FI.out.pl
            go_wp2_with fail
            clear hltz
            refine C1.out.mono ?_
            rintro e W5 ⟨a5, c5, rfl, G5, hx5, -, -⟩
            clear C1 X FI
            have C2 := Lib.hid (ply_out hx5)
            clear hx5
            go_wp2_with fail
            refine C2.out.mono ?_
            rintro e W6 ⟨a6, c6, rfl, hx6, -, hb6⟩
            have X6 := Lib.hid hx6
            have B6 := Lib.hid hb6
            have HOU := Lib.hid (play_outs PS1.out)
            obtain ⟨s1, hs1⟩ : ∃ s1, sdS s = s1 := ⟨_, rfl⟩
            obtain ⟨B1, hB1⟩ : ∃ B1, Bs ++ sdT s = B1 := ⟨_, rfl⟩
            have TD1 : Hid (T = toldP t B1) := by
              have h := TD.out
              rw [← hB1]
              show _ = _
              rw [h]
              exact (told_send FI0.out.play _).symm
            rw [hs1, hB1] at PS1
            rw [hs1] at X6 B6
            rw [hs1, hB1] at HOU FR
            obtain ⟨ol, hol⟩ : ∃ ol, s1.out = ol := ⟨_, rfl⟩
            have HOL := Lib.hid hol
            have HFR := Lib.hid FR
            have HO16 : Hid (ol.length ≤ 16) := by
              have h1 := out_le PS1.out.sok
              have h2 := PS1.out.sok.win
              rw [hol] at h1
              show _ ≤ _
              omega
            have B7 : Hid (BtsO W6 G5 (.slice a6 ol.length c6) ol) := by
              have h := B6.out
              rw [hol] at h
              exact h
            rw [hs1, hol]
            clear hx6 hb6 C2 B6 hs1 hB1 FR TD FI0 hol
            go_wp2_with fail
            go_loopw [9, 20] (fun tv jv wr => ∃ (j : Nat) (G6 : Nat → Prop) (t6 : Tk) (T6 : List Ob) (xt6 : Option Addr) (ct6 : Nat), j ≤ ol.length ∧ jv = .int .i64 j ∧ tv = .slice xt6 T6.length ct6 ∧ Hid (Ply w wr G6 b1 b2 s1 t6 (.slice xp P.length cp) (.slice xt6 T6.length ct6) P T6) ∧ Hid (BtsO wr G6 (.slice a6 ol.length c6) ol) ∧ Hid (t6 = (takeL t (ol.take j)).2 ∧ T6 = T ++ (takeL t (ol.take j)).1)) (fun _ j _ => ol.length - (intOf j).toNat)
            case atStart => exact ⟨0, G5, t, T, xt, ct, Nat.zero_le _, rfl, rfl, X6.out, B7.out, rfl, (List.append_nil _).symm⟩
            case round =>
              clear X6 B7
              obtain ⟨j, G6, t6, T6, xt6, ct6, hj, rfl, rfl, X6, B6, M6⟩ := hrel
              by_cases hlj : j < ol.length
              · obtain ⟨bl, off, ul, hxs, hlc, e0, e1, hou⟩ := btso_at B6.out hlj
                subst hxs
                obtain ⟨⟨n1, ys⟩, hxb⟩ : ∃ xb, ol.getD j zb = xb := ⟨_, rfl⟩
                rw [hxb] at e0 hou
                have e0 : wr.cell? ⟨bl, off + j * 2, none⟩ = some (.int .i64 n1) := e0
                have hmem : (n1, ys) ∈ ol := hxb ▸ getD_mem hlj
                have hx32 : ys.length ≤ 32 := (PS1.out.bok _ (HOU.out _ (HOL.out ▸ hmem))).2.1.2
                have C5 := ply_take n1 ul ys X6.out hou (by omega)
                have hstep := mid9_step PS1.out HOU.out (j := j) (by rw [HOL.out]; exact hlj) (t1 := t6) (T1 := T6) (by rw [HOL.out]; exact M6.out.1) (by rw [HOL.out, ← TD1.out]; exact M6.out.2) (x := (n1, ys)) (by rw [HOL.out]; exact hxb)
                have hlen := mid_len PS1.out HOU.out TD1.out (j + 1)
                obtain ⟨⟨⟨o5, n5⟩, t5⟩, hq5⟩ : ∃ q, takeR t6 (n1, ys) = q := ⟨_, rfl⟩
                rw [hq5] at C5 hstep
                rw [HOL.out] at hlen hstep
                rw [← TD1.out] at hstep
                have HC5 := Lib.hid C5
                have M7 : Hid (t5 = (takeL t (ol.take (j + 1))).2 ∧ T6 ++ o5 = T ++ (takeL t (ol.take (j + 1))).1) := hstep
                have hlen2 : (T6 ++ o5).length ≤ P.length := by rw [hstep.2]; exact hlen
                rw [List.length_append] at hlen2
                have hlen3 : T6.length + o5.length ≤ 30000 := by have := PL60.out; omega
                have HLN := Lib.hid hlen3
                have hjz : (j : Int) < (ol.length : Int) := by omega
                have hj0 : (0 : Int) ≤ (j : Int) := by omega
                have hjn : ((j : Int)).toNat = j := Int.toNat_natCast j
                clear hou hmem hxb hx32 C5 hq5 hstep hlen hlen2 hlen3
                go_wp2_with fail
                refine HC5.out.mono ?_
                rintro e W7 ⟨a5', c5', rfl, G7, hx, hn, ho⟩
                obtain ⟨a7, c7, W8, hr, G8, hx8, hn8⟩ := ply_appT hx _ o5 ho HLN.out 29
                have X8 := Lib.hid hx8
                have B8 := Lib.hid ((B6.out.nx hn).nx hn8)
                clear hx hn ho hx8 hn8 HC5 e0 e1 hjz hj0 hjn
                have hl16 := HO16.out
                go_wp2_with (at_builtin; refine app_go rfl (.tmp 173) (.tmp 174) 29 rfl _ _ _ _ rfl rfl hr ?_)
                go_roundw
                case rel => exact ⟨j + 1, G8, t5, T6 ++ o5, a7, c7, by omega, by go_num, by rw [List.length_append], X8.out, B8.out, M7.out⟩
                case measure => simp [intOf]; omega
              · obtain rfl : j = ol.length := by omega
                obtain ⟨m1, m2⟩ := M6.out
                rw [List.take_length] at m1 m2
                subst m1
                subst m2
                have HF := HFR.out
                rw [HOL.out] at HF
                have HF1 := Lib.hid HF
                obtain ⟨tz, htz⟩ : ∃ tz, (takeL t ol).2 = tz := ⟨_, rfl⟩
                obtain ⟨oz, hoz⟩ : ∃ oz, (takeL t ol).1 = oz := ⟨_, rfl⟩
                rw [htz, hoz] at HF1 X6
                rw [hoz]
                have C8 := Lib.hid (ply_ack X6.out)
                clear HF htz hoz M6 B6
                go_wp2_with fail
                refine C8.out.mono ?_
                rintro e W8 ⟨rfl, G8, hx8, -⟩
                have C9 := Lib.hid (ply_got (0, 0, tz.nx, mask16 tz.nx (srt tz.nx (nums tz.H))) hx8)
                clear C8 hx8
                obtain ⟨M, hM⟩ : ∃ M, mask16 tz.nx (srt tz.nx (nums tz.H)) = M := ⟨_, rfl⟩
                rw [hM] at C9 HF1
                rw [hM]
                clear hM
                go_wp2_with fail
                refine C9.out.mono ?_
                rintro e W9 ⟨rfl, G9, hx9, -⟩
                have X9 := Lib.hid hx9
                clear hx9 C9
                go_wp2_with fail
                go_roundw
                case rel => exact ⟨i + 1, G9, _, tz, B1, T ++ oz, xt6, ct6, by omega, by go_num, by rw [List.length_append], X9.out, HF1.out⟩
                case measure => simp [intOf]; omega
          · obtain rfl : i = 70 := by omega
            obtain ⟨w1, w2, w3⟩ := FI.out.whole
            subst w1
            have HO := Lib.hid w2
            have HW := Lib.hid w3
            have PL60 := Lib.hid FI.out.pl
            clear w2 w3 FI
            go_wp2_with fail
            refine (awake15 _).mono ?_
            rintro e W5 ⟨rfl, hb5⟩
            have X5 := Lib.hid (X.out.below hb5)
            clear hb5 X
            have C6 := Lib.hid (same_any _ _ T T W5 X5.out.tos X5.out.pos (by have := PL60.out; omega))
            go_wp2_with fail
            refine C6.out.mono ?_
            rintro e W6 ⟨⟨qs, rfl, hqs⟩, hb⟩
            obtain rfl : qs = true := by simpa using hqs
            have X6 := Lib.hid (X5.out.below hb)
            clear hqs hb C6 X5
            have C7 := ply_out X6.out
            rw [HO.out] at C7
            have HC7 := Lib.hid C7
            clear C7
            go_wp2_with fail
            refine HC7.out.mono ?_
            rintro e W7 ⟨a7, c7, rfl, hx7, -, -⟩
            have X7 := Lib.hid hx7
            clear hx7 X6 HC7
            have C8 := ply_wait X7.out
            rw [HW.out] at C8
            have HC8 := Lib.hid C8
            clear C8
            go_wp2_with fail
            refine HC8.out.mono ?_
            rintro e W8 ⟨a8, c8, rfl, hb8⟩
            have HB8 := Lib.hid (X7.out.bel.trans (hb8.mono X7.out.bel.size))
            clear hb8 X7 HC8
            go_wp2_with fail
            go_ret
            exact ⟨rfl, HB8.out⟩

set_option maxRecDepth 100000 in
theorem lifted (os : _root_.Go.Os) (started : os.Started) (H : Type) (enc : TypeId × Value → H) :
    ReturnsInHanded {} Tryz.checked os 4 .any (Rows.takerPlaysSpec.pre6 enc Tryz.prog Tryz.f4 Rows.takerPlaysRow.domain false) (Rows.takerPlaysSpec.post enc Tryz.prog Tryz.f4 false true false false) := by
  refine returnsInHanded_of_change (C := Tryz.checked) own started (by kernel_rfl) Tryz.func4
    (ChangeSpec.witness6 (enc := enc) (C := Tryz.checked) false ⟨#[], #[.int .i64 0, .slice none 0 0], []⟩ 16 (by kernel_rfl) (by kernel_rfl) (by kernel_rfl) (by kernel_rfl)) ?_
  intro W base args ds gs before hval0 hW hcnd _
  have hval : ∀ (j : Nat) t v, Tryz.f4.params[j]? = some t → args[j]? = some v → Value.okWide Tryz.prog W .any base t v := hval0
  have hW' := hW
  obtain ⟨p, q, hA0, hV, rfl, hfz, hnd⟩ := hW
  have hA : DataW.TrodAll enc Tryz.prog W 0 (fun _ => true) true Tryz.f4.params.toList args.toList ds p := hA0
  rw [Tryz.params4] at hA hval
  obtain ⟨v0, vs0, e0, ds0, p0, q0, hargs, rfl, rfl, h0, x0⟩ := trodAll_cons hA
  obtain ⟨v1, vs1, e1, ds1, p1, q1, rfl, rfl, rfl, h1, x1⟩ := trodAll_cons x0
  obtain ⟨rfl, rfl, rfl⟩ := trodAll_nil x1
  obtain rfl : args = #[v0, v1] := by cases args; simp_all
  obtain ⟨rfl, rfl⟩ := trodVars_none hV
  have k0 := h0
  have lt0 : ∀ x ∈ p0, x.block < W.heap.size := by obtain ⟨m, hm⟩ := k0; exact DataW.trod_lt m _ _ _ hm
  obtain ⟨a0, rfl, _, _, w0⟩ := open_int Tryz.underlying3 (hval 0 3 v0 rfl rfl) h0
  have k1 := h1
  have lt1 : ∀ x ∈ p1, x.block < W.heap.size := by obtain ⟨m, hm⟩ := k1; exact DataW.trod_lt m _ _ _ hm
  obtain ⟨a1, len1, cap1, rfl⟩ := okWide_slice underSTS (hval 1 43 v1 rfl rfl)
  obtain ⟨z1, hz1, w1⟩ := sps_form h1
  subst hz1
  clear hA0 hval0
  refine (walk a0 (i64_wf w0) a1 cap1 z1 W w1).mono fun e W' ⟨he, bel⟩ => ?_
  subst he
  exact ⟨_, rfl, _, _, _, [], _, [], hW', trodAll_mk1 (shut_bool Tryz.underlying4 _), (trodAll_cons_mk (Below.trod laidOut (by kernel_rfl) (of_decide_eq_true (by kernel_rfl)) k0 bel lt0) (trodAll_cons_mk (Below.trod laidOut (by kernel_rfl) (of_decide_eq_true (by kernel_rfl)) k1 bel lt1) trodAll_mk0)), rfl, bel.frame _, fun h => by cases h⟩

theorem over : Rows.takerPlaysRow.holds Tryz.pinned (OpenSpec.ofChange Rows.takerPlaysSpec) :=
  OpenClaim.holds_of_wide 4 Tryz.f4 rfl rfl rfl rfl rfl rfl rfl ⟨rfl, rfl, rfl, rfl, rfl⟩ rfl rfl rfl rfl rfl (by kernel_rfl) Tryz.func4 (by kernel_rfl)
    (of_decide_eq_true (by kernel_rfl)) (by unfold Func.isWrapper; first | (rw [if_pos (by decide +kernel)]; kernel_rfl) | (rw [if_neg (by decide +kernel)]; exact ⟨rfl, rfl⟩))
    (fun os started H enc _ => lifted os started H enc)

theorem proved : Rows.TakerPlaysSaid := over
#print axioms proved
end Go.Proofs.YtfiaghfaijlfjaaGreat.takerPlays
