/- thalweglaw14.SenderOnce: for any numbers and script the law answers true; no condition. -/
import Derived.Test.YticjeknadddhoaaSm
import Derived.Test.YticjeknadddhoaaPn
import Derived.WalkLawsBesides
import Derived.WalkKit
import Derived.ProofKit
import Derived.OpenShut
import Derived.ShutString
import Derived.ChangeOld
import Derived.Below
namespace Go.Proofs.Yticjeknadddhoaa.senderOnce
open Go.ChangeShapes Go.WideShapes Go.ChangeAt Go.RowKit
open Go.ChangeMaps (open_string shut_string)
set_option linter.unusedVariables false
set_option maxRecDepth 100000

theorem own : ownKnob Try.prog.godebug = none := by kernel_rfl
theorem laidOut : laidOutB Try.prog = true := by kernel_rfl
set_option maxHeartbeats 16000000 in
theorem walk0 {PS : World → (Nat → Prop) → Nat → Sd → Prop} (dc : Dc PS) (a0 : Int) (a1 : Int) (a2 : Option Addr) (cap2 : Nat) (z2 : List Opn) (w : World) (r2 : Sc w (.slice a2 z2.length cap2) z2) :
    Calls Try.prog 8 #[.int .i64 a0, .int .i64 a1, .slice a2 z2.length cap2] w fun e w' => e = .returned (.bool true) ∧ Below w.heap.size w w' := by
  have r2 := Lib.hid r2
  have C1 := Lib.hid (dc.new a0 a1 w)
  go_enter Try.func8, Try.ntmps8
  go_wp2_with fail
  refine C1.out.mono ?_
  rintro e W1 ⟨hb1, h1⟩
  have HB1 := Lib.hid hb1
  rcases h1 with ⟨hn, rfl⟩ | ⟨hn, b, F1, rfl, hp1, hF1⟩
  · clear hn hb1 C1
    go_wp2_with fail
    refine (awake14 dc _).mono ?_
    rintro e W9 ⟨rfl, hb9⟩
    have HB9 := Lib.hid (HB1.out.trans (hb9.mono HB1.out.size))
    clear hb9
    go_wp2_with fail
    go_ret
    exact ⟨rfl, HB9.out⟩
  · have X1 : Hid (One PS w W1 F1 b (sd0 a0 a1)) := ⟨hp1, hF1, HB1.out⟩
    clear hn hb1 hp1 hF1 C1
    by_cases hl : 100 < z2.length
    · have hl' : (100 : Int) < (z2.length : Int) := by omega
      clear hl
      go_wp2_with fail
      refine (awake14 dc _).mono ?_
      rintro e W9 ⟨rfl, hb9⟩
      have HB9 := Lib.hid (HB1.out.trans (hb9.mono HB1.out.size))
      clear hb9
      go_wp2_with fail
      go_ret
      exact ⟨rfl, HB9.out⟩
    have hl' : ¬ (100 : Int) < (z2.length : Int) := by omega
    have HL : Hid (z2.length ≤ 100) := by show _ ≤ _; omega
    clear hl
    go_wp2_with fail
    clear hl'
    go_loopw [9] (fun iv wr => ∃ (k : Nat) (F : Nat → Prop) (s : Sd), k ≤ z2.length ∧ iv = .int .i64 k ∧ Hid (One PS w wr F b s)) (fun i _ => z2.length - (intOf i).toNat)
    case atStart => exact ⟨0, F1, _, Nat.zero_le _, rfl, X1.out⟩
    case round =>
      obtain ⟨k, F, s, hk, rfl, X⟩ := hrel
      by_cases hlt : k < z2.length
      · skip
        obtain ⟨bs, offs, hbs, hlts, hcs⟩ := Sc.at (h := r2.out.below X.out.bel) hlt
        obtain ⟨⟨c, y, a⟩, hel⟩ : ∃ o : Opn, z2.getD k (0, z12, (0, 0, 0, 0)) = o := ⟨_, rfl⟩
        rw [hel] at hcs
        have q0 := hcs 0 (by decide)
        have q1 := hcs 1 (by decide)
        have q2 := hcs 2 (by decide)
        have q3 := hcs 3 (by decide)
        have q4 := hcs 4 (by decide)
        have q5 := hcs 5 (by decide)
        have q6 := hcs 6 (by decide)
        have q7 := hcs 7 (by decide)
        have q8 := hcs 8 (by decide)
        have q9 := hcs 9 (by decide)
        have q10 := hcs 10 (by decide)
        have q11 := hcs 11 (by decide)
        have q12 := hcs 12 (by decide)
        have q13 := hcs 13 (by decide)
        have q14 := hcs 14 (by decide)
        have q15 := hcs 15 (by decide)
        have q16 := hcs 16 (by decide)
        simp only [opc, Ob.cl, akc, List.cons_append, List.nil_append, List.getElem?_cons_zero, List.getElem?_cons_succ, Nat.add_zero] at q0 q1 q2 q3 q4 q5 q6 q7 q8 q9 q10 q11 q12 q13 q14 q15 q16
        subst hbs
        have hltz : (k : Int) < (z2.length : Int) := by omega
        have hq0 : (0 : Int) ≤ (k : Int) := by omega
        have hqn : ((k : Int)).toNat = k := Int.toNat_natCast k
        obtain ⟨V, hV⟩ : ∃ V, wr.alloc (.cells #[.int .i64 c, .int .i64 y.k, .int .i64 y.x, .bool y.n, .int .i64 y.t, .int .i64 y.o, .int .i64 y.r, .int .i64 y.d, .int .i64 y.i, .int .i64 y.p, .int .i64 y.q, .int .i64 y.s, .int .i64 y.m, .int .i64 a.1, .int .i64 a.2.1, .int .i64 a.2.2.1, .int .i64 a.2.2.2] 44) = V := ⟨_, rfl⟩
        have hbv : Below wr.heap.size wr V := hV ▸ (Below.refl _ wr).alloc (Nat.le_refl _) _
        obtain ⟨g0, hg0⟩ : ∃ g0, wr.heap.size = g0 := ⟨_, rfl⟩
        have HGV : Hid (g0 < V.heap.size) := by show _ < _; rw [← hg0, ← hV]; simp
        have hvc : V.cell? ⟨g0, 0, none⟩ = some (.int .i64 c) ∧ V.cell? ⟨g0, 1, none⟩ = some (.int .i64 y.k) ∧ V.cell? ⟨g0, 2, none⟩ = some (.int .i64 y.x) ∧ V.cell? ⟨g0, 3, none⟩ = some (.bool y.n) ∧ V.cell? ⟨g0, 4, none⟩ = some (.int .i64 y.t) ∧ V.cell? ⟨g0, 5, none⟩ = some (.int .i64 y.o) ∧ V.cell? ⟨g0, 6, none⟩ = some (.int .i64 y.r) ∧ V.cell? ⟨g0, 7, none⟩ = some (.int .i64 y.d) ∧ V.cell? ⟨g0, 8, none⟩ = some (.int .i64 y.i) ∧ V.cell? ⟨g0, 9, none⟩ = some (.int .i64 y.p) ∧ V.cell? ⟨g0, 10, none⟩ = some (.int .i64 y.q) ∧ V.cell? ⟨g0, 11, none⟩ = some (.int .i64 y.s) ∧ V.cell? ⟨g0, 12, none⟩ = some (.int .i64 y.m) ∧ V.cell? ⟨g0, 13, none⟩ = some (.int .i64 a.1) ∧ V.cell? ⟨g0, 14, none⟩ = some (.int .i64 a.2.1) ∧ V.cell? ⟨g0, 15, none⟩ = some (.int .i64 a.2.2.1) ∧ V.cell? ⟨g0, 16, none⟩ = some (.int .i64 a.2.2.2) := by
          rw [← hV, ← hg0]
          refine ⟨?_, ?_, ?_, ?_, ?_, ?_, ?_, ?_, ?_, ?_, ?_, ?_, ?_, ?_, ?_, ?_, ?_⟩ <;> simp
        have HVC := Lib.hid hvc
        have XV := Lib.hid (X.out.below dc hbv)
        have HV := Lib.hid hV
        have HBV := Lib.hid hbv
        have HG := Lib.hid hg0
        have HEL := Lib.hid hel
        have HNF : Hid (¬ F g0) := fun h => by have := dc.lt X.out.ps g0 h; omega
        clear hV hbv hg0 hel hcs hvc hlts
        go_upto_region 8 with (fail)
        rw [HV.out]
        simp only [HG.out]
        clear q0 q1 q2 q3 q4 q5 q6 q7 q8 q9 q10 q11 q12 q13 q14 q15 q16 hltz hq0 hqn
        obtain ⟨u0, u1, u2, u3, u4, u5, u6, u7, u8, u9, u10, u11, u12, u13, u14, u15, u16⟩ := HVC.out
        by_cases h0 : c = 0
        · subst h0
          have C5 := Lib.hid (dc.push y XV.out.ps)
          go_wp2_with fail
          refine C5.out.mono ?_
          rintro e W5 ⟨rfl, hc5, F5, hp5, hF5⟩
          have X5 := Lib.hid (XV.out.next hc5 hp5 hF5)
          clear hc5 hp5 hF5 C5 u0 u1 u2 u3 u4 u5 u6 u7 u8 u9 u10 u11 u12 u13 u14 u15 u16
          go_wp2_with fail
          go_roundw
          case rel => exact ⟨k + 1, F5, _, by omega, by go_num, X5.out⟩
          case measure => simp [intOf]; omega
        · have h0' : (c == 0) = false := by simpa using h0
          by_cases h1 : c = 1
          · subst h1
            have C5 := Lib.hid (dc.send XV.out.ps)
            clear h0 h0'
            go_wp2_with fail
            refine C5.out.mono ?_
            rintro e W5 ⟨r5, rfl, hc5, F5, hp5, hF5, -⟩
            have X5 := Lib.hid (XV.out.next hc5 hp5 hF5)
            have C6 := Lib.hid (dc.send hp5)
            rw [send_twice (dc.ok XV.out.ps)] at C6
            clear hc5 hp5 hF5 C5 u0 u1 u2 u3 u4 u5 u6 u7 u8 u9 u10 u11 u12 u13 u14 u15 u16
            go_wp2_with fail
            refine C6.out.mono ?_
            rintro e W6 ⟨r6, rfl, hc6, F6, hp6, hF6, h6⟩
            obtain ⟨a6, c6, rfl⟩ := h6.form
            have X6 := Lib.hid (X5.out.next hc6 hp6 hF6)
            clear hc6 hp6 hF6 h6 C6
            go_wp2_with fail
            go_roundw
            case rel => exact ⟨k + 1, F6, _, by omega, by go_num, X6.out⟩
            case measure => simp [intOf]; omega
          · have h1' : (c == 1) = false := by simpa using h1
            by_cases h2 : c = 2
            · subst h2
              have C5 := Lib.hid (dc.out XV.out.ps)
              clear h0 h0' h1 h1'
              go_wp2_with fail
              refine C5.out.mono ?_
              rintro e W5 ⟨r5, rfl, hc5, F5, hp5, hF5, h5⟩
              obtain ⟨a5, c5, rfl⟩ := h5.form
              have X5 := Lib.hid (XV.out.next hc5 hp5 hF5)
              have C6 := Lib.hid (dc.again hp5)
              clear hc5 hp5 hF5 h5 C5 u0 u1 u2 u3 u4 u5 u6 u7 u8 u9 u10 u11 u12 u13 u14 u15 u16
              have HAG : Hid ((agS s).out.length = s.out.length) := by show _ = _; rw [out_again]
              cases hag : agB s with
              | true =>
                have hal : agL s = s.out := by unfold agL; rw [if_pos hag]
                rw [hag, hal] at C6
                clear hag hal
                go_wp2_with fail
                refine C6.out.mono ?_
                rintro e W6 ⟨r6, rfl, hc6, F6, hp6, hF6, h6⟩
                obtain ⟨a6, c6, rfl⟩ := h6.form
                have X6 := Lib.hid (X5.out.next hc6 hp6 hF6)
                have C7 := Lib.hid (dc.out hp6)
                clear hc6 hp6 hF6 h6 C6
                go_wp2_with fail
                refine C7.out.mono ?_
                rintro e W7 ⟨r7, rfl, hc7, F7, hp7, hF7, h7⟩
                obtain ⟨a7, c7, rfl⟩ := h7.form
                rw [HAG.out]
                have X7 := Lib.hid (X6.out.next hc7 hp7 hF7)
                clear hc7 hp7 hF7 h7 C7
                go_wp2_with fail
                go_roundw
                case rel => exact ⟨k + 1, F7, _, by omega, by go_num, X7.out⟩
                case measure => simp [intOf]; omega
              | false =>
                have hal : agL s = [] := by unfold agL; rw [if_neg (by rw [hag]; decide)]
                have hne : ((s.out.length : Int) == 0) = false := by
                  have : s.L ≠ [] := fun e => by unfold agB at hag; rw [e] at hag; cases hag
                  have h3 : 0 < s.out.length := by unfold Sd.out; rw [List.length_map]; exact List.length_pos_iff.2 this
                  rw [beq_eq_false_iff_ne]
                  omega
                rw [hag, hal] at C6
                clear hag hal
                go_wp2_with fail
                refine C6.out.mono ?_
                rintro e W6 ⟨r6, rfl, hc6, F6, hp6, hF6, h6⟩
                obtain ⟨a6, c6, rfl⟩ := h6.form
                have X6 := Lib.hid (X5.out.next hc6 hp6 hF6)
                have C7 := Lib.hid (dc.out hp6)
                clear hc6 hp6 hF6 h6 C6
                go_wp2_with fail
                refine C7.out.mono ?_
                rintro e W7 ⟨r7, rfl, hc7, F7, hp7, hF7, h7⟩
                obtain ⟨a7, c7, rfl⟩ := h7.form
                rw [HAG.out]
                have X7 := Lib.hid (X6.out.next hc7 hp7 hF7)
                clear hc7 hp7 hF7 h7 C7 hne
                go_wp2_with fail
                go_roundw
                case rel => exact ⟨k + 1, F7, _, by omega, by go_num, X7.out⟩
                case measure => simp [intOf]; omega
            · have h2' : (c == 2) = false := by simpa using h2
              have C5 := Lib.hid (dc.out XV.out.ps)
              clear h0 h1 h2
              go_wp2_with fail
              refine C5.out.mono ?_
              rintro e W5 ⟨r5, rfl, hc5, F5, hp5, hF5, h5⟩
              obtain ⟨a5, c5, rfl⟩ := h5.form
              have X5 := Lib.hid (XV.out.next hc5 hp5 hF5)
              have NF5 : Hid (¬ F5 g0) := fun h => (hF5 g0 h).elim HNF.out (fun g => by have := HGV.out; omega)
              have HG5 : Hid (g0 < W5.heap.size) := Nat.lt_of_lt_of_le HGV.out hc5.size
              have v13 := (hc5.cell (j := 13) HGV.out HNF.out).trans u13
              have v14 := (hc5.cell (j := 14) HGV.out HNF.out).trans u14
              have v15 := (hc5.cell (j := 15) HGV.out HNF.out).trans u15
              have v16 := (hc5.cell (j := 16) HGV.out HNF.out).trans u16
              have VV := Lib.hid (And.intro v13 (And.intro v14 (And.intro v15 v16)))
              have C6 := Lib.hid (dc.got a hp5)
              clear hc5 hp5 hF5 h5 C5 u0 u1 u2 u3 u4 u5 u6 u7 u8 u9 u10 u11 u12 u13 u14 u15 u16
              go_wp2_with fail
              refine C6.out.mono ?_
              rintro e W6 ⟨rfl, hc6, F6, hp6, hF6⟩
              have X6 := Lib.hid (X5.out.next hc6 hp6 hF6)
              have NF6 : Hid (¬ F6 g0) := fun h => (hF6 g0 h).elim NF5.out (fun g => by have := HG5.out; omega)
              have HG6 : Hid (g0 < W6.heap.size) := Nat.lt_of_lt_of_le HG5.out hc6.size
              have VV6 := Lib.hid (And.intro ((hc6.cell (j := 13) HG5.out NF5.out).trans VV.out.1) (And.intro ((hc6.cell (j := 14) HG5.out NF5.out).trans VV.out.2.1) (And.intro ((hc6.cell (j := 15) HG5.out NF5.out).trans VV.out.2.2.1) ((hc6.cell (j := 16) HG5.out NF5.out).trans VV.out.2.2.2))))
              have C7 := Lib.hid (dc.out hp6)
              have HW : Hid (IntKind.i64.wrap ((s.out.length : Int) - (gtN s a : Int)) = ((gtS s a).out.length : Int)) := by
                show _ = _
                have h1 := got_len s a
                have h2 := out_le (dc.ok XV.out.ps)
                have h3 := (dc.ok XV.out.ps).win
                have e1 : s.out.length = s.L.length := List.length_map _
                have e2 : (gtS s a).out.length = (gtS s a).L.length := List.length_map _
                rw [IntKind.wrap_i64]
                omega
              clear hc6 hp6 hF6 C6 v13 v14 v15 v16
              go_wp2_with fail
              refine C7.out.mono ?_
              rintro e W7 ⟨r7, rfl, hc7, F7, hp7, hF7, h7⟩
              obtain ⟨a7, c7, rfl⟩ := h7.form
              have X7 := Lib.hid (X6.out.next hc7 hp7 hF7)
              have v13 := (hc7.cell (j := 13) HG6.out NF6.out).trans VV6.out.1
              have v14 := (hc7.cell (j := 14) HG6.out NF6.out).trans VV6.out.2.1
              have v15 := (hc7.cell (j := 15) HG6.out NF6.out).trans VV6.out.2.2.1
              have v16 := (hc7.cell (j := 16) HG6.out NF6.out).trans VV6.out.2.2.2
              have C8 := Lib.hid (dc.got a hp7)
              rw [got_twice] at C8
              have hw := HW.out
              have hn0 : ¬ (gtN s a : Int) < 0 := by omega
              clear hc7 hp7 hF7 h7 C7
              go_wp2_with fail
              refine C8.out.mono ?_
              rintro e W8 ⟨rfl, hc8, F8, hp8, hF8⟩
              have X8 := Lib.hid (X7.out.next hc8 hp8 hF8)
              clear hc8 hp8 hF8 C8 v13 v14 v15 v16 hw hn0
              go_wp2_with fail
              go_roundw
              case rel => exact ⟨k + 1, F8, _, by omega, by go_num, X8.out⟩
              case measure => simp [intOf]; omega
      · obtain rfl : k = z2.length := by omega
        go_wp2_with fail
        refine (awake14 dc wr).mono ?_
        rintro e W5 ⟨rfl, hb5⟩
        have X5 := Lib.hid (X.out.below dc hb5)
        have C6 := Lib.hid (dc.wait X5.out.ps)
        have hwl : (s.W.length : Int) ≤ 1024 := by have := (dc.ok X5.out.ps).wl; omega
        clear hb5
        go_wp2_with fail
        refine C6.out.mono ?_
        rintro e W6 ⟨r6, rfl, hc6, F6, hp6, hF6, h6⟩
        obtain ⟨a6, c6, rfl⟩ := h6.form
        have HB6 := Lib.hid (X5.out.next hc6 hp6 hF6).bel
        clear hc6 hp6 hF6 h6 C6
        go_wp2_with fail
        go_ret
        exact ⟨rfl, HB6.out⟩
theorem walk {PS : World → (Nat → Prop) → Nat → Sd → Prop} (dc : Dc PS) (a0 : Int) (w0 : I64 a0) (a1 : Int) (w1 : I64 a1) (a2 : Option Addr) (cap2 : Nat) (z2 : List Opn) (w : World) (r2 : Sc w (.slice a2 z2.length cap2) z2) :
    Calls Try.prog 8 #[.int .i64 a0, .int .i64 a1, .slice a2 z2.length cap2] w fun e w' => e = .returned (.bool true) ∧ Below w.heap.size w w' := walk0 dc a0 a1 a2 cap2 z2 w r2

set_option maxRecDepth 100000 in
theorem lifted (os : _root_.Go.Os) (started : os.Started) (H : Type) (enc : TypeId × Value → H) :
    ReturnsInHanded {} Try.checked os 8 .any (Rows.senderOnceSpec.pre6 enc Try.prog Try.f8 Rows.senderOnceRow.domain false) (Rows.senderOnceSpec.post enc Try.prog Try.f8 false true false false) := by
  refine returnsInHanded_of_change (C := Try.checked) own started (by kernel_rfl) Try.func8
    (ChangeSpec.witness6 (enc := enc) (C := Try.checked) false ⟨#[], #[.int .i64 0, .int .i64 0, .slice none 0 0], []⟩ 16 (by kernel_rfl) (by kernel_rfl) (by kernel_rfl) (by kernel_rfl)) ?_
  intro W base args ds gs before hval0 hW hcnd _
  have hval : ∀ (j : Nat) t v, Try.f8.params[j]? = some t → args[j]? = some v → Value.okWide Try.prog W .any base t v := hval0
  have hW' := hW
  obtain ⟨p, q, hA0, hV, rfl, hfz, hnd⟩ := hW
  have hA : DataW.TrodAll enc Try.prog W 0 (fun _ => true) true Try.f8.params.toList args.toList ds p := hA0
  rw [Try.params8] at hA hval
  obtain ⟨v0, vs0, e0, ds0, p0, q0, hargs, rfl, rfl, h0, x0⟩ := trodAll_cons hA
  obtain ⟨v1, vs1, e1, ds1, p1, q1, rfl, rfl, rfl, h1, x1⟩ := trodAll_cons x0
  obtain ⟨v2, vs2, e2, ds2, p2, q2, rfl, rfl, rfl, h2, x2⟩ := trodAll_cons x1
  obtain ⟨rfl, rfl, rfl⟩ := trodAll_nil x2
  obtain rfl : args = #[v0, v1, v2] := by cases args; simp_all
  obtain ⟨rfl, rfl⟩ := trodVars_none hV
  have k0 := h0
  have lt0 : ∀ x ∈ p0, x.block < W.heap.size := by obtain ⟨m, hm⟩ := k0; exact DataW.trod_lt m _ _ _ hm
  obtain ⟨a0, rfl, _, _, w0⟩ := open_int Try.underlying3 (hval 0 3 v0 rfl rfl) h0
  have k1 := h1
  have lt1 : ∀ x ∈ p1, x.block < W.heap.size := by obtain ⟨m, hm⟩ := k1; exact DataW.trod_lt m _ _ _ hm
  obtain ⟨a1, rfl, _, _, w1⟩ := open_int Try.underlying3 (hval 1 3 v1 rfl rfl) h1
  have k2 := h2
  have lt2 : ∀ x ∈ p2, x.block < W.heap.size := by obtain ⟨m, hm⟩ := k2; exact DataW.trod_lt m _ _ _ hm
  obtain ⟨a2, len2, cap2, rfl⟩ := okWide_slice underOPS (hval 2 22 v2 rfl rfl)
  obtain ⟨z2, hz2, w2⟩ := sc_form h2
  subst hz2
  clear hA0 hval0
  refine (walk dc a0 (i64_wf w0) a1 (i64_wf w1) a2 cap2 z2 W w2).mono fun e W' ⟨he, bel⟩ => ?_
  subst he
  exact ⟨_, rfl, _, _, _, [], _, [], hW', trodAll_mk1 (shut_bool Try.underlying4 _), (trodAll_cons_mk (Below.trod laidOut (by kernel_rfl) (of_decide_eq_true (by kernel_rfl)) k0 bel lt0) (trodAll_cons_mk (Below.trod laidOut (by kernel_rfl) (of_decide_eq_true (by kernel_rfl)) k1 bel lt1) (trodAll_cons_mk (Below.trod laidOut (by kernel_rfl) (of_decide_eq_true (by kernel_rfl)) k2 bel lt2) trodAll_mk0))), rfl, bel.frame _, fun h => by cases h⟩

theorem over : Rows.senderOnceRow.holds Try.pinned (OpenSpec.ofChange Rows.senderOnceSpec) :=
  OpenClaim.holds_of_wide 8 Try.f8 rfl rfl rfl rfl rfl rfl rfl ⟨rfl, rfl, rfl, rfl, rfl⟩ rfl rfl rfl rfl rfl (by kernel_rfl) Try.func8 (by kernel_rfl)
    (of_decide_eq_true (by kernel_rfl)) (by unfold Func.isWrapper; first | (rw [if_pos (by decide +kernel)]; kernel_rfl) | (rw [if_neg (by decide +kernel)]; exact ⟨rfl, rfl⟩))
    (fun os started H enc _ => lifted os started H enc)

theorem proved : Rows.SenderOnceSaid := over
#print axioms proved
end Go.Proofs.Yticjeknadddhoaa.senderOnce
