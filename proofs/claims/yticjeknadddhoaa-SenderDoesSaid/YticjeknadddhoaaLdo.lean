/- thalweglaw14.SenderDoes: for any numbers, any number of objects pushed ahead and any script the law answers true; no condition. -/
import Derived.Test.YticjeknadddhoaaXm
import Derived.Test.YticjeknadddhoaaPn
import Derived.WalkLawsBesides
import Derived.WalkKit
import Derived.ProofKit
import Derived.OpenShut
import Derived.ShutString
import Derived.ChangeOld
import Derived.Below
namespace Go.Proofs.Yticjeknadddhoaa.senderDoes
open Go.ChangeShapes Go.WideShapes Go.ChangeAt Go.RowKit
open Go.ChangeMaps (open_string shut_string)
set_option linter.unusedVariables false
set_option maxRecDepth 100000

theorem own : ownKnob Try.prog.godebug = none := by kernel_rfl
theorem laidOut : laidOutB Try.prog = true := by kernel_rfl
/-- A block of one's own that is none of theirs. -/
structure BoxB (w : World) (F K : Nat → Prop) (g : Nat) (y : Ob) : Prop where
  hp : w.heap[g]? = some (.cells #[.int .i64 y.k, .int .i64 y.x, .bool y.n, .int .i64 y.t, .int .i64 y.o, .int .i64 y.r, .int .i64 y.d, .int .i64 y.i, .int .i64 y.p, .int .i64 y.q, .int .i64 y.s, .int .i64 y.m] 39)
  nf : ¬ F g
  nk : ¬ K g
theorem BoxB.p {w w' : World} {F F' K : Nat → Prop} {g : Nat} {y : Ob} (h : BoxB w F K g y) (hc : Chg F w w') (hF : ∀ k, F' k → F k ∨ w.heap.size ≤ k) : BoxB w' F' K g y :=
  ⟨(hc.block g (some_lt h.hp) h.nf).trans h.hp, fun hf => (hF g hf).elim h.nf (fun e => by have := some_lt h.hp; omega), h.nk⟩
theorem BoxB.x {w w' : World} {F K K' : Nat → Prop} {g : Nat} {y : Ob} (h : BoxB w F K g y) (hc : Chg K w w') (hK : ∀ k, K' k → K k ∨ w.heap.size ≤ k) : BoxB w' F K' g y :=
  ⟨(hc.block g (some_lt h.hp) h.nk).trans h.hp, h.nf, fun hk => (hK g hk).elim h.nk (fun e => by have := some_lt h.hp; omega)⟩
theorem ps_again {w : World} {F : Nat → Prop} {b : Nat} {s : Sd} (h : PS w F b s) : Calls Try.prog 16 #[.pointer (some ⟨b, 0, none⟩)] w fun e w' => ∃ r, e = .returned (.tuple #[r, .bool (agB s)]) ∧ Chg F w w' ∧ PS w' F b (agS s) ∧ BtsO w' (fun k => k < w.heap.size) r (agL s) := by
  obtain ⟨h0, Z, vW, vO, h⟩ := h
  refine (pagain_any h h0).mono ?_
  rintro e w' ⟨r, h1, h2, ⟨Z', h3⟩, h4⟩
  exact ⟨r, h1, h2, ⟨sdok_again h0, Z', vW, vO, h3⟩, rowb_btso h4 (fun k hk => hk)⟩
theorem agl_small {s : Sd} (h : SdOk s) : (agL s).length ≤ 3000 ∧ ∀ p ∈ agL s, p.2.length ≤ 3000 := by
  obtain ⟨_, h2, h3, _⟩ := sdok_small h
  unfold agL
  split
  · exact ⟨h2, h3⟩
  · exact ⟨Nat.zero_le _, fun p hp => absurd hp List.not_mem_nil⟩
theorem BoxB.dr {w : World} {F K : Nat → Prop} {g : Nat} {y : Ob} (h : BoxB w F K g y) : BoxB w.drew F K g y := ⟨h.hp, h.nf, h.nk⟩
theorem BoxB.ob {w : World} {F K : Nat → Prop} {g : Nat} {y : Ob} (h : BoxB w F K g y) : w.cell? ⟨g, 0, none⟩ = some (.int .i64 y.k) ∧ w.cell? ⟨g, 1, none⟩ = some (.int .i64 y.x) ∧ w.cell? ⟨g, 2, none⟩ = some (.bool y.n) ∧ w.cell? ⟨g, 3, none⟩ = some (.int .i64 y.t) ∧ w.cell? ⟨g, 4, none⟩ = some (.int .i64 y.o) ∧ w.cell? ⟨g, 5, none⟩ = some (.int .i64 y.r) ∧ w.cell? ⟨g, 6, none⟩ = some (.int .i64 y.d) ∧ w.cell? ⟨g, 7, none⟩ = some (.int .i64 y.i) ∧ w.cell? ⟨g, 8, none⟩ = some (.int .i64 y.p) ∧ w.cell? ⟨g, 9, none⟩ = some (.int .i64 y.q) ∧ w.cell? ⟨g, 10, none⟩ = some (.int .i64 y.s) ∧ w.cell? ⟨g, 11, none⟩ = some (.int .i64 y.m) := by
  have h' := h.hp
  refine ⟨?_, ?_, ?_, ?_, ?_, ?_, ?_, ?_, ?_, ?_, ?_, ?_⟩ <;> simp [World.cell?, h']
set_option maxHeartbeats 32000000 in
theorem walk0 (a0 : Int) (a1 : Int) (a2 : Int) (a3 : Option Addr) (cap3 : Nat) (z3 : List Opn) (w : World) (r3 : Sc w (.slice a3 z3.length cap3) z3) :
    Calls Try.prog 3 #[.int .i64 a0, .int .i64 a1, .int .i64 a2, .slice a3 z3.length cap3] w fun e w' => e = .returned (.bool true) ∧ Below w.heap.size w w' := by
  have r3 := Lib.hid r3
  go_enter Try.func3, Try.ntmps3
  go_upto_region 1 with (fail)
  go_cut [39] from 21 to 38 (fun q wx => ∃ t : Bool, q = .bool t ∧ (t = false → z3.length ≤ 100 ∧ 0 ≤ a2 ∧ a2 ≤ 1030) ∧ w = wx)
  case first =>
    by_cases n1 : (100 : Int) < (z3.length : Int)
    · skip
      go_wp2_with fail
      go_meet
      case rel => exact ⟨true, rfl, (fun h => by cases h), rfl⟩
    by_cases n2 : a2 < 0
    · skip
      go_wp2_with fail
      go_meet
      case rel => exact ⟨true, rfl, (fun h => by cases h), rfl⟩
    by_cases n3 : (100 : Int) < a2
    · by_cases n4 : a2 < 1020
      · skip
        go_wp2_with fail
        go_meet
        case rel => exact ⟨true, rfl, (fun h => by cases h), rfl⟩
      by_cases n5 : (1030 : Int) < a2
      · skip
        go_wp2_with fail
        go_meet
        case rel => exact ⟨true, rfl, (fun h => by cases h), rfl⟩
      have hf : z3.length ≤ 100 ∧ 0 ≤ a2 ∧ a2 ≤ 1030 := by omega
      have HF := Lib.hid hf
      clear hf
      go_wp2_with fail
      go_meet
      case rel => exact ⟨false, rfl, (fun _ => HF.out), rfl⟩
    have n5 : ¬ (1030 : Int) < a2 := by omega
    have hf : z3.length ≤ 100 ∧ 0 ≤ a2 ∧ a2 ≤ 1030 := by omega
    have HF := Lib.hid hf
    clear hf
    go_wp2_with fail
    go_meet
    case rel => exact ⟨false, rfl, (fun _ => HF.out), rfl⟩
  case rest =>
    obtain ⟨t, rfl, ht, rfl⟩ := hcut
    cases t with
    | true =>
      clear ht
      go_wp2_with fail
      go_ret
      exact ⟨rfl, Below.refl _ _⟩
    | false =>
      have HB := Lib.hid (ht rfl)
      clear ht
      have C1 := Lib.hid (dc.new a0 a1 w)
      go_wp2_with fail
      refine C1.out.mono ?_
      rintro e W1 ⟨hb1, h1⟩
      have HB1 := Lib.hid hb1
      rcases h1 with ⟨hn, rfl⟩ | ⟨hn, b, F1, rfl, hp1, hF1⟩
      · have hq : a0 < 1 ∨ (16 : Int) < a0 ∨ a1 < 1 ∨ (100 : Int) < a1 := by unfold nwOk at hn; omega
        clear hn hb1 C1
        by_cases n1 : a0 < 1
        · clear hq
          go_wp2_with fail
          refine (awake14 dc _).mono ?_
          rintro e W9 ⟨rfl, hb9⟩
          have HB9 := Lib.hid (HB1.out.trans (hb9.mono HB1.out.size))
          clear hb9
          go_wp2_with fail
          go_ret
          exact ⟨rfl, HB9.out⟩
        by_cases n2 : (16 : Int) < a0
        · clear hq
          go_wp2_with fail
          refine (awake14 dc _).mono ?_
          rintro e W9 ⟨rfl, hb9⟩
          have HB9 := Lib.hid (HB1.out.trans (hb9.mono HB1.out.size))
          clear hb9
          go_wp2_with fail
          go_ret
          exact ⟨rfl, HB9.out⟩
        by_cases n3 : a1 < 1
        · clear hq
          go_wp2_with fail
          refine (awake14 dc _).mono ?_
          rintro e W9 ⟨rfl, hb9⟩
          have HB9 := Lib.hid (HB1.out.trans (hb9.mono HB1.out.size))
          clear hb9
          go_wp2_with fail
          go_ret
          exact ⟨rfl, HB9.out⟩
        have n4 : (100 : Int) < a1 := by omega
        clear hq
        go_wp2_with fail
        refine (awake14 dc _).mono ?_
        rintro e W9 ⟨rfl, hb9⟩
        have HB9 := Lib.hid (HB1.out.trans (hb9.mono HB1.out.size))
        clear hb9
        go_wp2_with fail
        go_ret
        exact ⟨rfl, HB9.out⟩
      · obtain ⟨n1, n2, n3, n4⟩ : ¬ a0 < 1 ∧ ¬ (16 : Int) < a0 ∧ ¬ a1 < 1 ∧ ¬ (100 : Int) < a1 := by unfold nwOk at hn; omega
        obtain ⟨W2, hW2⟩ : ∃ W2, W1.alloc (.cells #[.int .i64 a0, .int .i64 a1, .slice none 0 0, .slice none 0 0, .slice none 0 0, .int .i64 0] 33) = W2 := ⟨_, rfl⟩
        have hb2 : Below W1.heap.size W1 W2 := hW2 ▸ (Below.refl _ W1).alloc (Nat.le_refl _) _
        obtain ⟨bx, hbx⟩ : ∃ bx, W1.heap.size = bx := ⟨_, rfl⟩
        have hx2 : XS W2 (fun k => k = bx) bx (sd0 a0 a1) := by rw [← hW2, ← hbx]; exact xs_new a0 a1 hn W1
        have hT : TwoS w W2 F1 (fun k => k = bx) b bx (sd0 a0 a1) (sd0 a0 a1) := ⟨dc.keep hp1 (G := fun _ => False) (chg0 hb2) (fun _ _ g => g), hx2, fun k hk e => by have := dc.lt hp1 k hk; omega, hF1, fun k e => by have := hb1.size; omega, hb1.trans (hb2.mono hb1.size)⟩
        have HT := Lib.hid hT
        have HW2 := Lib.hid hW2
        have HBX := Lib.hid hbx
        clear hn hb1 hp1 hF1 C1 hW2 hb2 hbx hx2 hT
        go_upto_region 9 with (fail)
        rw [HW2.out]
        try simp only [HBX.out]
        clear n1 n2 n3 n4
        obtain ⟨hz3, ha0, ha1⟩ := HB.out
        go_wp2_with fail
        go_loopw [12] (fun iv wr => ∃ (k : Nat) (F K : Nat → Prop) (s : Sd), (k : Int) ≤ a2 ∧ iv = .int .i64 k ∧ Hid (TwoS w wr F K b bx s s)) (fun i _ => a2.toNat - (intOf i).toNat)
        case atStart => exact ⟨0, F1, _, _, ha0, rfl, HT.out⟩
        case round =>
          obtain ⟨k, F, K, s, hk, rfl, X⟩ := hrel
          by_cases hlt : (k : Int) < a2
          · as_aux_lemma =>
              obtain ⟨y, hy⟩ : ∃ y : Ob, (⟨1, (k : Int) % 64, false, 0, 0, 0, 0, 0, 0, 0, 0, 0⟩ : Ob) = y := ⟨_, rfl⟩
              obtain ⟨g0, hg0⟩ : ∃ g0, wr.heap.size = g0 := ⟨_, rfl⟩
              obtain ⟨V, hV⟩ : ∃ V, wr.alloc (.cells #[.int .i64 1, .int .i64 ((k : Int) % 64), .bool false, .int .i64 0, .int .i64 0, .int .i64 0, .int .i64 0, .int .i64 0, .int .i64 0, .int .i64 0, .int .i64 0, .int .i64 0] 39) = V := ⟨_, rfl⟩
              have hbv : Below wr.heap.size wr V := hV ▸ (Below.refl _ wr).alloc (Nat.le_refl _) _
              have hbox : BoxB V F K g0 y := by
                refine ⟨?_, fun h => by have := dc.lt X.out.ps g0 h; omega, fun h => by have := X.out.xs.lt g0 h; omega⟩
                rw [← hV, ← hg0, ← hy]
                exact heap_alloc_new wr _
              have XV := Lib.hid (X.out.below dc hbv)
              have BV := Lib.hid hbox
              have HV := Lib.hid hV
              have HG := Lib.hid hg0
              have htm : (k : Int).tmod 64 = (k : Int) % 64 := Int.tmod_eq_emod_of_nonneg (by omega)
              have hm0 : 0 ≤ (k : Int) % 64 ∧ (k : Int) % 64 < 64 := by omega
              clear hV hg0 hbv hbox hy
              go_upto_region 13 with (fail)
              rw [HV.out]
              simp only [HG.out]
              have C1 := Lib.hid (dc.push y XV.out.dr.ps)
              obtain ⟨v1, v2, v3, v4, v5, v6, v7, v8, v9, v10, v11, v12⟩ := BV.out.ob
              clear htm hm0
              go_region_held (fun w' => w'.cell? ⟨g0, 0, none⟩ = some (.int .i64 y.k) ∧ w'.cell? ⟨g0, 1, none⟩ = some (.int .i64 y.x) ∧ w'.cell? ⟨g0, 2, none⟩ = some (.bool y.n) ∧ w'.cell? ⟨g0, 3, none⟩ = some (.int .i64 y.t) ∧ w'.cell? ⟨g0, 4, none⟩ = some (.int .i64 y.o) ∧ w'.cell? ⟨g0, 5, none⟩ = some (.int .i64 y.r) ∧ w'.cell? ⟨g0, 6, none⟩ = some (.int .i64 y.d) ∧ w'.cell? ⟨g0, 7, none⟩ = some (.int .i64 y.i) ∧ w'.cell? ⟨g0, 8, none⟩ = some (.int .i64 y.p) ∧ w'.cell? ⟨g0, 9, none⟩ = some (.int .i64 y.q) ∧ w'.cell? ⟨g0, 10, none⟩ = some (.int .i64 y.s) ∧ w'.cell? ⟨g0, 11, none⟩ = some (.int .i64 y.m)) (first | exact ⟨v1, v2, v3, v4, v5, v6, v7, v8, v9, v10, v11, v12⟩ | go_keep) (first
                | (go_at_call 11; refine C1.out.mono ?_; rintro e W5 ⟨rfl, hc5, F5, hp5, hF5⟩; have T5 := Lib.hid (XV.out.dr.p hc5 hp5 hF5); have B5 := Lib.hid (BV.out.dr.p hc5 hF5); have C2 := Lib.hid (xs_push y T5.out.xs); clear hc5 hp5 hF5 v1 v2 v3 v4 v5 v6 v7 v8 v9 v10 v11 v12; obtain ⟨v1, v2, v3, v4, v5, v6, v7, v8, v9, v10, v11, v12⟩ := B5.out.ob)
                | (go_at_call 12; refine C2.out.mono ?_; rintro e W6 ⟨rfl, hc6, K6, hx6, hK6⟩; have T6 := Lib.hid (T5.out.x hc6 hx6 hK6); have B6 := Lib.hid (B5.out.x hc6 hK6); clear hc6 hx6 hK6 v1 v2 v3 v4 v5 v6 v7 v8 v9 v10 v11 v12; obtain ⟨v1, v2, v3, v4, v5, v6, v7, v8, v9, v10, v11, v12⟩ := B6.out.ob))
              all_goals
                clear v1 v2 v3 v4 v5 v6 v7 v8 v9 v10 v11 v12
                go_wp2_with fail
                go_roundw
                case rel => exact ⟨k + 1, F5, K6, _, by omega, by go_num, T6.out⟩
                case measure => simp [intOf]; omega
          · have hke : (k : Int) = a2 := by omega
            obtain ⟨wq, hwq⟩ : ∃ wq, wq = wr := ⟨_, rfl⟩
            subst hwq
            clear hke
            go_wp2_with fail
            go_loopw [14] (fun iv wr => ∃ (k : Nat) (F K : Nat → Prop) (s : Sd), k ≤ z3.length ∧ iv = .int .i64 k ∧ Hid (TwoS w wr F K b bx s s)) (fun i _ => z3.length - (intOf i).toNat)
            case atStart => exact ⟨0, F, K, s, Nat.zero_le _, rfl, X.out⟩
            case round =>
              clear X
              obtain ⟨k, F, K, s, hk, rfl, X⟩ := hrel
              by_cases hlt : k < z3.length
              · obtain ⟨wo, hwo⟩ : ∃ wo, wo = wr := ⟨_, rfl⟩
                subst hwo
                skip
                obtain ⟨bs, offs, hbs, hlts, hcs⟩ := Sc.at (h := r3.out.below X.out.bel) hlt
                obtain ⟨⟨c, y, a⟩, hel⟩ : ∃ o : Opn, z3.getD k (0, z12, (0, 0, 0, 0)) = o := ⟨_, rfl⟩
                rw [hel] at hcs
                have q0 := hcs 0 (by decide)
                have q1 := hcs 1 (by decide)
                have q2 := hcs 2 (by decide)
                have q3 := hcs 3 (by decide)
                have q4 := hcs 4 (by decide)
                have q5 := hcs 5 (by decide)
                have q6 := hcs 6 (by decide)
                have q7 := hcs 7 (by decide)
                have q8 := hcs 8 (by decide)
                have q9 := hcs 9 (by decide)
                have q10 := hcs 10 (by decide)
                have q11 := hcs 11 (by decide)
                have q12 := hcs 12 (by decide)
                have q13 := hcs 13 (by decide)
                have q14 := hcs 14 (by decide)
                have q15 := hcs 15 (by decide)
                have q16 := hcs 16 (by decide)
                simp only [opc, Ob.cl, akc, List.cons_append, List.nil_append, List.getElem?_cons_zero, List.getElem?_cons_succ, Nat.add_zero] at q0 q1 q2 q3 q4 q5 q6 q7 q8 q9 q10 q11 q12 q13 q14 q15 q16
                subst hbs
                have hltz : (k : Int) < (z3.length : Int) := by omega
                have hq0 : (0 : Int) ≤ (k : Int) := by omega
                have hqn : ((k : Int)).toNat = k := Int.toNat_natCast k
                obtain ⟨V, hV⟩ : ∃ V, wo.alloc (.cells #[.int .i64 c, .int .i64 y.k, .int .i64 y.x, .bool y.n, .int .i64 y.t, .int .i64 y.o, .int .i64 y.r, .int .i64 y.d, .int .i64 y.i, .int .i64 y.p, .int .i64 y.q, .int .i64 y.s, .int .i64 y.m, .int .i64 a.1, .int .i64 a.2.1, .int .i64 a.2.2.1, .int .i64 a.2.2.2] 44) = V := ⟨_, rfl⟩
                have hbv : Below wo.heap.size wo V := hV ▸ (Below.refl _ wo).alloc (Nat.le_refl _) _
                obtain ⟨g0, hg0⟩ : ∃ g0, wo.heap.size = g0 := ⟨_, rfl⟩
                have HGV : Hid (g0 < V.heap.size) := by show _ < _; rw [← hg0, ← hV]; simp
                have hvc : V.cell? ⟨g0, 0, none⟩ = some (.int .i64 c) ∧ V.cell? ⟨g0, 1, none⟩ = some (.int .i64 y.k) ∧ V.cell? ⟨g0, 2, none⟩ = some (.int .i64 y.x) ∧ V.cell? ⟨g0, 3, none⟩ = some (.bool y.n) ∧ V.cell? ⟨g0, 4, none⟩ = some (.int .i64 y.t) ∧ V.cell? ⟨g0, 5, none⟩ = some (.int .i64 y.o) ∧ V.cell? ⟨g0, 6, none⟩ = some (.int .i64 y.r) ∧ V.cell? ⟨g0, 7, none⟩ = some (.int .i64 y.d) ∧ V.cell? ⟨g0, 8, none⟩ = some (.int .i64 y.i) ∧ V.cell? ⟨g0, 9, none⟩ = some (.int .i64 y.p) ∧ V.cell? ⟨g0, 10, none⟩ = some (.int .i64 y.q) ∧ V.cell? ⟨g0, 11, none⟩ = some (.int .i64 y.s) ∧ V.cell? ⟨g0, 12, none⟩ = some (.int .i64 y.m) ∧ V.cell? ⟨g0, 13, none⟩ = some (.int .i64 a.1) ∧ V.cell? ⟨g0, 14, none⟩ = some (.int .i64 a.2.1) ∧ V.cell? ⟨g0, 15, none⟩ = some (.int .i64 a.2.2.1) ∧ V.cell? ⟨g0, 16, none⟩ = some (.int .i64 a.2.2.2) := by
                  rw [← hV, ← hg0]
                  refine ⟨?_, ?_, ?_, ?_, ?_, ?_, ?_, ?_, ?_, ?_, ?_, ?_, ?_, ?_, ?_, ?_, ?_⟩ <;> simp
                have HVC := Lib.hid hvc
                have XV := Lib.hid (X.out.below dc hbv)
                have HV := Lib.hid hV
                have HBV := Lib.hid hbv
                have HG := Lib.hid hg0
                have HEL := Lib.hid hel
                have HNF : Hid (¬ F g0) := fun h => by have := dc.lt X.out.ps g0 h; omega
                clear hV hbv hg0 hel hcs hvc hlts
                go_upto_block 4 with fail
                rw [HV.out]
                simp only [HG.out]
                clear q0 q1 q2 q3 q4 q5 q6 q7 q8 q9 q10 q11 q12 q13 q14 q15 q16 hltz hq0 hqn
                obtain ⟨u0, u1, u2, u3, u4, u5, u6, u7, u8, u9, u10, u11, u12, u13, u14, u15, u16⟩ := HVC.out
                have hop : OpB V F K g0 c y a := ⟨by rw [← HV.out, ← HG.out]; exact heap_alloc_new wo _, HNF.out, fun h => by have := X.out.xs.lt g0 h; have := HG.out; omega⟩
                have OB := Lib.hid hop
                have hKV : ∀ x, K x → x < V.heap.size := fun x hx => XV.out.xs.lt x hx
                have HKV := Lib.hid hKV
                clear hop hKV
                go_cut [16, 17, 18, 19, 20] from 106 to 152 (fun ok _ _ _ _ wx => ok = .bool true ∧ ∃ (F' K' : Nat → Prop) (s' : Sd), Hid (TwoS w wx F' K' b bx s' s'))
                case first =>
                  by_cases h0 : c = 0
                  · as_aux_lemma =>
                      subst h0
                      have C1 := Lib.hid (dc.push y XV.out.dr.ps)
                      clear u0 u1 u2 u3 u4 u5 u6 u7 u8 u9 u10 u11 u12 u13 u14 u15 u16
                      obtain ⟨v1, v2, v3, v4, v5, v6, v7, v8, v9, v10, v11, v12⟩ := OB.out.ob
                      go_wp2_with fail
                      go_region_held (fun w' => w'.cell? ⟨g0, 1, none⟩ = some (.int .i64 y.k) ∧ w'.cell? ⟨g0, 2, none⟩ = some (.int .i64 y.x) ∧ w'.cell? ⟨g0, 3, none⟩ = some (.bool y.n) ∧ w'.cell? ⟨g0, 4, none⟩ = some (.int .i64 y.t) ∧ w'.cell? ⟨g0, 5, none⟩ = some (.int .i64 y.o) ∧ w'.cell? ⟨g0, 6, none⟩ = some (.int .i64 y.r) ∧ w'.cell? ⟨g0, 7, none⟩ = some (.int .i64 y.d) ∧ w'.cell? ⟨g0, 8, none⟩ = some (.int .i64 y.i) ∧ w'.cell? ⟨g0, 9, none⟩ = some (.int .i64 y.p) ∧ w'.cell? ⟨g0, 10, none⟩ = some (.int .i64 y.q) ∧ w'.cell? ⟨g0, 11, none⟩ = some (.int .i64 y.s) ∧ w'.cell? ⟨g0, 12, none⟩ = some (.int .i64 y.m)) (first | exact ⟨v1, v2, v3, v4, v5, v6, v7, v8, v9, v10, v11, v12⟩ | go_keep) (first
                        | (go_at_call 11; refine C1.out.mono ?_; rintro e W5 ⟨rfl, hc5, F5, hp5, hF5⟩; have T5 := Lib.hid (XV.out.dr.p hc5 hp5 hF5); have B5 := Lib.hid (OB.out.dr.p hc5 hF5); have C2 := Lib.hid (xs_push y T5.out.xs); clear hc5 hp5 hF5 v1 v2 v3 v4 v5 v6 v7 v8 v9 v10 v11 v12; obtain ⟨v1, v2, v3, v4, v5, v6, v7, v8, v9, v10, v11, v12⟩ := B5.out.ob)
                        | (go_at_call 12; refine C2.out.mono ?_; rintro e W6 ⟨rfl, hc6, K6, hx6, hK6⟩; have T6 := Lib.hid (T5.out.x hc6 hx6 hK6); have B6 := Lib.hid (B5.out.x hc6 hK6); clear hc6 hx6 hK6 v1 v2 v3 v4 v5 v6 v7 v8 v9 v10 v11 v12; obtain ⟨v1, v2, v3, v4, v5, v6, v7, v8, v9, v10, v11, v12⟩ := B6.out.ob))
                      all_goals
                        clear v1 v2 v3 v4 v5 v6 v7 v8 v9 v10 v11 v12
                        go_wp2_with fail
                        go_meet
                        case rel => exact ⟨rfl, F5, K6, _, T6.out⟩
                  · have h0' : (c == 0) = false := by simpa using h0
                    by_cases h1 : c = 1
                    · as_aux_lemma =>
                        subst h1
                        have C1 := Lib.hid (dc.send XV.out.ps)
                        clear h0 h0' u0 u1 u2 u3 u4 u5 u6 u7 u8 u9 u10 u11 u12 u13 u14 u15 u16
                        go_wp2_with fail
                        refine C1.out.mono ?_
                        rintro e W5 ⟨r5, rfl, hc5, F5, hp5, hF5, h5⟩
                        have h5' := h5.mono (F := K) (fun x hx => .inr (HKV.out x hx))
                        have T5 := Lib.hid (XV.out.p hc5 hp5 hF5)
                        have C2 := Lib.hid (xs_send T5.out.xs)
                        obtain ⟨a5, c5, rfl⟩ := h5.form
                        have H5 := Lib.hid h5'
                        clear hc5 hp5 hF5 h5 h5' C1
                        go_wp2_with fail
                        refine C2.out.mono ?_
                        rintro e W6 ⟨r6, rfl, hb6, hc6, K6, hx6, hK6⟩
                        have T6 := Lib.hid (T5.out.x hc6 hx6 hK6)
                        obtain ⟨_, _, _, hs1, hs2⟩ := sdok_small (dc.ok XV.out.ps)
                        have C3 := Lib.hid (bsame_yes _ _ (sdT s) W6 (H5.out.chg hc6).bts hb6 hs1 hs2)
                        obtain ⟨a6, c6, rfl⟩ := hb6.form
                        clear hc6 hx6 hK6 hb6 hs1 hs2 C2
                        go_wp2_with fail
                        refine C3.out.mono ?_
                        rintro e W7 ⟨rfl, hb7⟩
                        have T7 := Lib.hid (T6.out.below dc hb7)
                        clear hb7 C3
                        go_wp2_with fail
                        go_meet
                        case rel => exact ⟨rfl, F5, K6, _, T7.out⟩
                    · have h1' : (c == 1) = false := by simpa using h1
                      by_cases h2 : c = 2
                      · as_aux_lemma =>
                          subst h2
                          have C1 := Lib.hid (ps_again XV.out.ps)
                          clear h0 h0' h1 h1' u0 u1 u2 u3 u4 u5 u6 u7 u8 u9 u10 u11 u12 u13 u14 u15 u16
                          go_wp2_with fail
                          refine C1.out.mono ?_
                          rintro e W5 ⟨r5, rfl, hc5, hp5, h5⟩
                          have h5' := h5.mono (F := K) HKV.out
                          have T5 := Lib.hid (XV.out.p hc5 hp5 (fun x hx => .inl hx))
                          have C2 := Lib.hid (xs_again T5.out.xs)
                          obtain ⟨a5, c5, rfl⟩ := h5.form
                          have H5 := Lib.hid h5'
                          clear hc5 hp5 h5 h5' C1
                          go_wp2_with fail
                          refine C2.out.mono ?_
                          rintro e W6 ⟨r6, rfl, hb6, hc6, K6, hx6, hK6⟩
                          have T6 := Lib.hid (T5.out.x hc6 hx6 hK6)
                          obtain ⟨hs1, hs2⟩ := agl_small (dc.ok XV.out.ps)
                          have C3 := Lib.hid (bsame_yes _ _ (agL s) W6 (H5.out.chg hc6).bts hb6 hs1 hs2)
                          obtain ⟨a6, c6, rfl⟩ := hb6.form
                          clear hc6 hx6 hK6 hb6 hs1 hs2 C2
                          go_wp2_with fail
                          refine C3.out.mono ?_
                          rintro e W7 ⟨rfl, hb7⟩
                          have T7 := Lib.hid (T6.out.below dc hb7)
                          clear hb7 C3
                          go_wp2_with fail
                          go_meet
                          case rel => exact ⟨by simp, F, K6, _, T7.out⟩
                      · as_aux_lemma =>
                          have h2' : (c == 2) = false := by simpa using h2
                          have C1 := Lib.hid (dc.got a XV.out.dr.ps)
                          clear h0 h1 h2 u0 u1 u2 u3 u4 u5 u6 u7 u8 u9 u10 u11 u12 u13 u14 u15 u16
                          obtain ⟨v1, v2, v3, v4⟩ := OB.out.ak
                          go_wp2_with fail
                          go_region_held (fun w' => w'.cell? ⟨g0, 13, none⟩ = some (.int .i64 a.1) ∧ w'.cell? ⟨g0, 14, none⟩ = some (.int .i64 a.2.1) ∧ w'.cell? ⟨g0, 15, none⟩ = some (.int .i64 a.2.2.1) ∧ w'.cell? ⟨g0, 16, none⟩ = some (.int .i64 a.2.2.2)) (first | exact ⟨v1, v2, v3, v4⟩ | go_keep) (first
                            | (go_at_call 18; refine C1.out.mono ?_; rintro e W5 ⟨rfl, hc5, F5, hp5, hF5⟩; have T5 := Lib.hid (XV.out.dr.p hc5 hp5 hF5); have B5 := Lib.hid (OB.out.dr.p hc5 hF5); have C2 := Lib.hid (xs_got a T5.out.xs); clear hc5 hp5 hF5 v1 v2 v3 v4; obtain ⟨v1, v2, v3, v4⟩ := B5.out.ak)
                            | (go_at_call 19; refine C2.out.mono ?_; rintro e W6 ⟨rfl, hc6, K6, hx6, hK6⟩; have T6 := Lib.hid (T5.out.x hc6 hx6 hK6); have B6 := Lib.hid (B5.out.x hc6 hK6); clear hc6 hx6 hK6 v1 v2 v3 v4; obtain ⟨v1, v2, v3, v4⟩ := B6.out.ak))
                          all_goals
                            clear v1 v2 v3 v4
                            go_wp2_with fail
                            go_meet
                            case rel => exact ⟨rfl, F5, K6, _, T6.out⟩
                case rest =>
                  as_aux_lemma =>
                    obtain ⟨rfl, F2, K2, s2, T2⟩ := hcut
                    obtain ⟨aW, cW, aO, nO, cO, e2, e3, eW, eO, hbl⟩ := T2.out.xs.reads
                    obtain ⟨hs0, hs1, hs2, _⟩ := sdok_small T2.out.xs.1
                    have HS := Lib.hid (And.intro hs0 (And.intro hs1 hs2))
                    have HEW := Lib.hid eW
                    have HEO := Lib.hid eO
                    obtain ⟨wz, hwz⟩ : ∃ wz, wz = wc := ⟨_, rfl⟩
                    subst hwz
                    have kc : ∀ w', Below wz.heap.size wz w' → w'.cell? ⟨bx, 2, none⟩ = some (.slice aW s2.W.length cW) ∧ w'.cell? ⟨bx, 3, none⟩ = some (.slice aO nO cO) := fun w' h => ⟨(h.cell (p := ⟨bx, 2, none⟩) hbl).trans e2, (h.cell (p := ⟨bx, 3, none⟩) hbl).trans e3⟩
                    clear e2 e3 eW eO hbl hs0 hs1 hs2 u0 u1 u2 u3 u4 u5 u6 u7 u8 u9 u10 u11 u12 u13 u14 u15 u16
                    go_upto_region 30 with (fail)
                    refine wp_region_typed (C := fun w' => Below wz.heap.size wz w') (X := fun w w' => Below w.heap.size w w') (n := 176) (by kernel_rfl) (by kernel_rfl) rfl (fun w => Below.refl _ w) (Below.refl _ _).drew ?_
                    refine w_is (fun w => Below.refl _ w) _ (.inl rfl) (fun ρ w hC hc hfn hf => by have e16 : ρ (.tmp 16) = _ := hf 16 (by decide); (conv => lhs; simp [execOp, go_sem, hc, e16])) ?_
                    refine w_is (fun w => Below.refl _ w) _ (.inl rfl) (fun ρ w hC hc hfn hf => by have e153 : ρ (.tmp 153) = _ := hf 153 (by decide); (conv => lhs; simp [execOp, go_sem, hc, e153])) ?_
                    refine w_is (fun w => Below.refl _ w) _ (.inl rfl) (fun ρ w hC hc hfn hf => by have e154 : ρ (.tmp 154) = _ := hf 154 (by decide); (conv => lhs; simp [execOp, go_sem, hc, e154])) ?_
                    refine w_is (fun w => Below.refl _ w) _ (.inr ⟨2, 155, false, rfl, rfl, known_is rfl⟩) (fun ρ w hC hc hfn hf => by have e9 : ρ (.tmp 9) = _ := hf 9 (by decide); (conv => lhs; simp [execOp, go_sem, hc, e9])) ?_
                    refine w_call (TOs s2.W) (TOs.keeps s2.W) 21 (.inr ⟨2, 155, false, rfl, rfl, known_is rfl⟩) (fun ρ w hC hc hfn hf => by have e156 : ρ (.tmp 156) = _ := hf 156 (by decide); exact ⟨_, by (conv => lhs; simp [execOp, resolve, invoke, go_sem, hc, hfn, e156]), (ps_wait (T2.out.below dc hC).ps).mono fun e w' h => by obtain ⟨⟨a, c, h1, h2⟩, h3⟩ := h; exact ⟨_, h1, hC.trans (h3.mono hC.size), h3, h2⟩⟩) ?_
                    refine w_is (fun w => Below.refl _ w) _ (.inr ⟨2, 155, false, rfl, rfl, known_is rfl⟩) (fun ρ w hC hc hfn hf => by have e11 : ρ (.tmp 11) = _ := hf 11 (by decide); (conv => lhs; simp [execOp, go_sem, hc, e11])) ?_
                    refine w_is (fun w => Below.refl _ w) _ (.inr ⟨2, 155, false, rfl, rfl, known_is rfl⟩) (fun ρ w hC hc hfn hf => by have e158 : ρ (.tmp 158) = _ := hf 158 (by decide); (conv => lhs; simp [execOp, go_sem, hc, e158])) ?_
                    refine w_is (fun w => Below.refl _ w) _ (.inr ⟨2, 155, false, rfl, rfl, known_is rfl⟩) (fun ρ w hC hc hfn hf => by have e159 : ρ (.tmp 159) = _ := hf 159 (by decide); (conv => lhs; simp [execOp, go_sem, hc, e159])) ?_
                    refine w_is (fun w => Below.refl _ w) _ (.inr ⟨2, 155, false, rfl, rfl, known_is rfl⟩) (fun ρ w hC hc hfn hf => by have e160 : ρ (.tmp 160) = _ := hf 160 (by decide); (conv => lhs; simp [execOp, go_sem, hc, e160, kc w hC])) ?_
                    refine w_call (Is _) (fun _ _ _ h _ => h) 20 (.inr ⟨2, 155, false, rfl, rfl, known_is rfl⟩) (fun ρ w hC hc hfn hf => by have e157 := hf 157 (by decide); have e161 : ρ (.tmp 161) = _ := hf 161 (by decide); exact ⟨_, by (conv => lhs; simp [execOp, resolve, invoke, go_sem, hc, hfn, e161]), tc_below hC (osame_yes _ _ s2.W w e157 (HEW.out.below hC) HS.out.1)⟩) ?_
                    refine w_is (fun w => Below.refl _ w) _ (.inr ⟨2, 155, false, rfl, rfl, known_is rfl⟩) (fun ρ w hC hc hfn hf => by have e162 : ρ (.tmp 162) = _ := hf 162 (by decide); (conv => lhs; simp [execOp, go_sem, hc, e162])) ?_
                    refine w_is (fun w => Below.refl _ w) _ (.inl rfl) (fun ρ w hC hc hfn hf => by have e155 : ρ (.tmp 155) = _ := hf 155 (by decide); have e163 : ρ (.tmp 163) = _ := hf 163 (by decide); (conv => lhs; simp [execOp, go_sem, hc, e155, e163])) ?_
                    refine w_is (fun w => Below.refl _ w) _ (.inl rfl) (fun ρ w hC hc hfn hf => by have e164 : ρ (.tmp 164) = _ := hf 164 (by decide); (conv => lhs; simp [execOp, go_sem, hc, e164])) ?_
                    refine w_is (fun w => Below.refl _ w) _ (.inr ⟨12, 165, false, rfl, rfl, known_is rfl⟩) (fun ρ w hC hc hfn hf => by have e9 : ρ (.tmp 9) = _ := hf 9 (by decide); (conv => lhs; simp [execOp, go_sem, hc, e9])) ?_
                    refine w_call (TBs s2.out) (TBs.keeps s2.out) 22 (.inr ⟨12, 165, false, rfl, rfl, known_is rfl⟩) (fun ρ w hC hc hfn hf => by have e166 : ρ (.tmp 166) = _ := hf 166 (by decide); exact ⟨_, by (conv => lhs; simp [execOp, resolve, invoke, go_sem, hc, hfn, e166]), (ps_out (T2.out.below dc hC).ps).mono fun e w' h => by obtain ⟨⟨a, c, h1, h2⟩, h3⟩ := h; exact ⟨_, h1, hC.trans (h3.mono hC.size), h3, h2⟩⟩) ?_
                    refine w_is (fun w => Below.refl _ w) _ (.inr ⟨12, 165, false, rfl, rfl, known_is rfl⟩) (fun ρ w hC hc hfn hf => by have e11 : ρ (.tmp 11) = _ := hf 11 (by decide); (conv => lhs; simp [execOp, go_sem, hc, e11])) ?_
                    refine w_is (fun w => Below.refl _ w) _ (.inr ⟨12, 165, false, rfl, rfl, known_is rfl⟩) (fun ρ w hC hc hfn hf => by have e168 : ρ (.tmp 168) = _ := hf 168 (by decide); (conv => lhs; simp [execOp, go_sem, hc, e168])) ?_
                    refine w_is (fun w => Below.refl _ w) _ (.inr ⟨12, 165, false, rfl, rfl, known_is rfl⟩) (fun ρ w hC hc hfn hf => by have e169 : ρ (.tmp 169) = _ := hf 169 (by decide); (conv => lhs; simp [execOp, go_sem, hc, e169])) ?_
                    refine w_is (fun w => Below.refl _ w) _ (.inr ⟨12, 165, false, rfl, rfl, known_is rfl⟩) (fun ρ w hC hc hfn hf => by have e170 : ρ (.tmp 170) = _ := hf 170 (by decide); (conv => lhs; simp [execOp, go_sem, hc, e170, kc w hC])) ?_
                    refine w_call (Is _) (fun _ _ _ h _ => h) 13 (.inr ⟨12, 165, false, rfl, rfl, known_is rfl⟩) (fun ρ w hC hc hfn hf => by have e167 := hf 167 (by decide); have e171 : ρ (.tmp 171) = _ := hf 171 (by decide); exact ⟨_, by (conv => lhs; simp [execOp, resolve, invoke, go_sem, hc, hfn, e171]), tc_below hC (bsame_yes _ _ s2.out w e167 (bts_below HEO.out hC) HS.out.2.1 HS.out.2.2)⟩) ?_
                    refine w_is (fun w => Below.refl _ w) _ (.inr ⟨12, 165, false, rfl, rfl, known_is rfl⟩) (fun ρ w hC hc hfn hf => by have e172 : ρ (.tmp 172) = _ := hf 172 (by decide); (conv => lhs; simp [execOp, go_sem, hc, e172])) ?_
                    refine w_is (fun w => Below.refl _ w) _ (.inl rfl) (fun ρ w hC hc hfn hf => by have e165 : ρ (.tmp 165) = _ := hf 165 (by decide); have e173 : ρ (.tmp 173) = _ := hf 173 (by decide); (conv => lhs; simp [execOp, go_sem, hc, e165, e173])) ?_
                    intro A W4 hC hn hd hf
                    have y0 : A.eval (.tmp 0) = _ := Eq.trans (hf 0) (by conv => lhs; simp [go_sem])
                    have y1 : A.eval (.tmp 1) = _ := Eq.trans (hf 1) (by conv => lhs; simp [go_sem])
                    have y2 : A.eval (.tmp 2) = _ := Eq.trans (hf 2) (by conv => lhs; simp [go_sem])
                    have y3 : A.eval (.tmp 3) = _ := Eq.trans (hf 3) (by conv => lhs; simp [go_sem])
                    have y4 : A.eval (.tmp 4) = _ := Eq.trans (hf 4) (by conv => lhs; simp [go_sem])
                    have y5 : A.eval (.tmp 5) = _ := Eq.trans (hf 5) (by conv => lhs; simp [go_sem])
                    have y6 : A.eval (.tmp 6) = _ := Eq.trans (hf 6) (by conv => lhs; simp [go_sem])
                    have y7 : A.eval (.tmp 7) = _ := Eq.trans (hf 7) (by conv => lhs; simp [go_sem])
                    have y8 : A.eval (.tmp 8) = _ := Eq.trans (hf 8) (by conv => lhs; simp [go_sem])
                    have y9 : A.eval (.tmp 9) = _ := Eq.trans (hf 9) (by conv => lhs; simp [go_sem])
                    have y10 : A.eval (.tmp 10) = _ := Eq.trans (hf 10) (by conv => lhs; simp [go_sem])
                    have y11 : A.eval (.tmp 11) = _ := Eq.trans (hf 11) (by conv => lhs; simp [go_sem])
                    have y12 : A.eval (.tmp 12) = _ := Eq.trans (hf 12) (by conv => lhs; simp [go_sem])
                    have y13 : A.eval (.tmp 13) = _ := Eq.trans (hf 13) (by conv => lhs; simp [go_sem])
                    have y14 : A.eval (.tmp 14) = _ := Eq.trans (hf 14) (by conv => lhs; simp [go_sem])
                    have y15 : A.eval (.tmp 15) = _ := Eq.trans (hf 15) (by conv => lhs; simp [go_sem])
                    have y16 : A.eval (.tmp 16) = _ := Eq.trans (hf 16) (by conv => lhs; simp [go_sem])
                    have y17 : A.eval (.tmp 17) = _ := Eq.trans (hf 17) (by conv => lhs; simp [go_sem])
                    have y18 : A.eval (.tmp 18) = _ := Eq.trans (hf 18) (by conv => lhs; simp [go_sem])
                    have y19 : A.eval (.tmp 19) = _ := Eq.trans (hf 19) (by conv => lhs; simp [go_sem])
                    have y20 : A.eval (.tmp 20) = _ := Eq.trans (hf 20) (by conv => lhs; simp [go_sem])
                    have y21 : A.eval (.tmp 21) = _ := Eq.trans (hf 21) (by conv => lhs; simp [go_sem])
                    have y22 : A.eval (.tmp 22) = _ := Eq.trans (hf 22) (by conv => lhs; simp [go_sem])
                    have y23 : A.eval (.tmp 23) = _ := Eq.trans (hf 23) (by conv => lhs; simp [go_sem])
                    have y24 : A.eval (.tmp 24) = _ := Eq.trans (hf 24) (by conv => lhs; simp [go_sem])
                    have y25 : A.eval (.tmp 25) = _ := Eq.trans (hf 25) (by conv => lhs; simp [go_sem])
                    have y26 : A.eval (.tmp 26) = _ := Eq.trans (hf 26) (by conv => lhs; simp [go_sem])
                    have y27 : A.eval (.tmp 27) = _ := Eq.trans (hf 27) (by conv => lhs; simp [go_sem])
                    have y28 : A.eval (.tmp 28) = _ := Eq.trans (hf 28) (by conv => lhs; simp [go_sem])
                    have y29 : A.eval (.tmp 29) = _ := Eq.trans (hf 29) (by conv => lhs; simp [go_sem])
                    have y30 : A.eval (.tmp 30) = _ := Eq.trans (hf 30) (by conv => lhs; simp [go_sem])
                    have y31 : A.eval (.tmp 31) = _ := Eq.trans (hf 31) (by conv => lhs; simp [go_sem])
                    have y32 : A.eval (.tmp 32) = _ := Eq.trans (hf 32) (by conv => lhs; simp [go_sem])
                    have y33 : A.eval (.tmp 33) = _ := Eq.trans (hf 33) (by conv => lhs; simp [go_sem])
                    have y34 : A.eval (.tmp 34) = _ := Eq.trans (hf 34) (by conv => lhs; simp [go_sem])
                    have y35 : A.eval (.tmp 35) = _ := Eq.trans (hf 35) (by conv => lhs; simp [go_sem])
                    have y36 : A.eval (.tmp 36) = _ := Eq.trans (hf 36) (by conv => lhs; simp [go_sem])
                    have y37 : A.eval (.tmp 37) = _ := Eq.trans (hf 37) (by conv => lhs; simp [go_sem])
                    have y38 : A.eval (.tmp 38) = _ := Eq.trans (hf 38) (by conv => lhs; simp [go_sem])
                    have y39 : A.eval (.tmp 39) = _ := Eq.trans (hf 39) (by conv => lhs; simp [go_sem])
                    have y40 : A.eval (.tmp 40) = _ := Eq.trans (hf 40) (by conv => lhs; simp [go_sem])
                    have y41 : A.eval (.tmp 41) = _ := Eq.trans (hf 41) (by conv => lhs; simp [go_sem])
                    have y42 : A.eval (.tmp 42) = _ := Eq.trans (hf 42) (by conv => lhs; simp [go_sem])
                    have y43 : A.eval (.tmp 43) = _ := Eq.trans (hf 43) (by conv => lhs; simp [go_sem])
                    have y44 : A.eval (.tmp 44) = _ := Eq.trans (hf 44) (by conv => lhs; simp [go_sem])
                    have y45 : A.eval (.tmp 45) = _ := Eq.trans (hf 45) (by conv => lhs; simp [go_sem])
                    have y46 : A.eval (.tmp 46) = _ := Eq.trans (hf 46) (by conv => lhs; simp [go_sem])
                    have y47 : A.eval (.tmp 47) = _ := Eq.trans (hf 47) (by conv => lhs; simp [go_sem])
                    have y48 : A.eval (.tmp 48) = _ := Eq.trans (hf 48) (by conv => lhs; simp [go_sem])
                    have y49 : A.eval (.tmp 49) = _ := Eq.trans (hf 49) (by conv => lhs; simp [go_sem])
                    have y50 : A.eval (.tmp 50) = _ := Eq.trans (hf 50) (by conv => lhs; simp [go_sem])
                    have y51 : A.eval (.tmp 51) = _ := Eq.trans (hf 51) (by conv => lhs; simp [go_sem])
                    have y52 : A.eval (.tmp 52) = _ := Eq.trans (hf 52) (by conv => lhs; simp [go_sem])
                    have y53 : A.eval (.tmp 53) = _ := Eq.trans (hf 53) (by conv => lhs; simp [go_sem])
                    have y54 : A.eval (.tmp 54) = _ := Eq.trans (hf 54) (by conv => lhs; simp [go_sem])
                    have y55 : A.eval (.tmp 55) = _ := Eq.trans (hf 55) (by conv => lhs; simp [go_sem])
                    have y56 : A.eval (.tmp 56) = _ := Eq.trans (hf 56) (by conv => lhs; simp [go_sem])
                    have y57 : A.eval (.tmp 57) = _ := Eq.trans (hf 57) (by conv => lhs; simp [go_sem])
                    have y58 : A.eval (.tmp 58) = _ := Eq.trans (hf 58) (by conv => lhs; simp [go_sem])
                    have y59 : A.eval (.tmp 59) = _ := Eq.trans (hf 59) (by conv => lhs; simp [go_sem])
                    have y60 : A.eval (.tmp 60) = _ := Eq.trans (hf 60) (by conv => lhs; simp [go_sem])
                    have y61 : A.eval (.tmp 61) = _ := Eq.trans (hf 61) (by conv => lhs; simp [go_sem])
                    have y62 : A.eval (.tmp 62) = _ := Eq.trans (hf 62) (by conv => lhs; simp [go_sem])
                    have y63 : A.eval (.tmp 63) = _ := Eq.trans (hf 63) (by conv => lhs; simp [go_sem])
                    have y64 : A.eval (.tmp 64) = _ := Eq.trans (hf 64) (by conv => lhs; simp [go_sem])
                    have y65 : A.eval (.tmp 65) = _ := Eq.trans (hf 65) (by conv => lhs; simp [go_sem])
                    have y66 : A.eval (.tmp 66) = _ := Eq.trans (hf 66) (by conv => lhs; simp [go_sem])
                    have y67 : A.eval (.tmp 67) = _ := Eq.trans (hf 67) (by conv => lhs; simp [go_sem])
                    have y68 : A.eval (.tmp 68) = _ := Eq.trans (hf 68) (by conv => lhs; simp [go_sem])
                    have y69 : A.eval (.tmp 69) = _ := Eq.trans (hf 69) (by conv => lhs; simp [go_sem])
                    have y70 : A.eval (.tmp 70) = _ := Eq.trans (hf 70) (by conv => lhs; simp [go_sem])
                    have y71 : A.eval (.tmp 71) = _ := Eq.trans (hf 71) (by conv => lhs; simp [go_sem])
                    have y72 : A.eval (.tmp 72) = _ := Eq.trans (hf 72) (by conv => lhs; simp [go_sem])
                    have y73 : A.eval (.tmp 73) = _ := Eq.trans (hf 73) (by conv => lhs; simp [go_sem])
                    have y74 : A.eval (.tmp 74) = _ := Eq.trans (hf 74) (by conv => lhs; simp [go_sem])
                    have y75 : A.eval (.tmp 75) = _ := Eq.trans (hf 75) (by conv => lhs; simp [go_sem])
                    have y76 : A.eval (.tmp 76) = _ := Eq.trans (hf 76) (by conv => lhs; simp [go_sem])
                    have y77 : A.eval (.tmp 77) = _ := Eq.trans (hf 77) (by conv => lhs; simp [go_sem])
                    have y78 : A.eval (.tmp 78) = _ := Eq.trans (hf 78) (by conv => lhs; simp [go_sem])
                    have y79 : A.eval (.tmp 79) = _ := Eq.trans (hf 79) (by conv => lhs; simp [go_sem])
                    have y80 : A.eval (.tmp 80) = _ := Eq.trans (hf 80) (by conv => lhs; simp [go_sem])
                    have y81 : A.eval (.tmp 81) = _ := Eq.trans (hf 81) (by conv => lhs; simp [go_sem])
                    have y82 : A.eval (.tmp 82) = _ := Eq.trans (hf 82) (by conv => lhs; simp [go_sem])
                    have y83 : A.eval (.tmp 83) = _ := Eq.trans (hf 83) (by conv => lhs; simp [go_sem])
                    have y84 : A.eval (.tmp 84) = _ := Eq.trans (hf 84) (by conv => lhs; simp [go_sem])
                    have y85 : A.eval (.tmp 85) = _ := Eq.trans (hf 85) (by conv => lhs; simp [go_sem])
                    have y86 : A.eval (.tmp 86) = _ := Eq.trans (hf 86) (by conv => lhs; simp [go_sem])
                    have y87 : A.eval (.tmp 87) = _ := Eq.trans (hf 87) (by conv => lhs; simp [go_sem])
                    have y88 : A.eval (.tmp 88) = _ := Eq.trans (hf 88) (by conv => lhs; simp [go_sem])
                    have y89 : A.eval (.tmp 89) = _ := Eq.trans (hf 89) (by conv => lhs; simp [go_sem])
                    have y90 : A.eval (.tmp 90) = _ := Eq.trans (hf 90) (by conv => lhs; simp [go_sem])
                    have y91 : A.eval (.tmp 91) = _ := Eq.trans (hf 91) (by conv => lhs; simp [go_sem])
                    have y92 : A.eval (.tmp 92) = _ := Eq.trans (hf 92) (by conv => lhs; simp [go_sem])
                    have y93 : A.eval (.tmp 93) = _ := Eq.trans (hf 93) (by conv => lhs; simp [go_sem])
                    have y94 : A.eval (.tmp 94) = _ := Eq.trans (hf 94) (by conv => lhs; simp [go_sem])
                    have y95 : A.eval (.tmp 95) = _ := Eq.trans (hf 95) (by conv => lhs; simp [go_sem])
                    have y96 : A.eval (.tmp 96) = _ := Eq.trans (hf 96) (by conv => lhs; simp [go_sem])
                    have y97 : A.eval (.tmp 97) = _ := Eq.trans (hf 97) (by conv => lhs; simp [go_sem])
                    have y98 : A.eval (.tmp 98) = _ := Eq.trans (hf 98) (by conv => lhs; simp [go_sem])
                    have y99 : A.eval (.tmp 99) = _ := Eq.trans (hf 99) (by conv => lhs; simp [go_sem])
                    have y100 : A.eval (.tmp 100) = _ := Eq.trans (hf 100) (by conv => lhs; simp [go_sem])
                    have y101 : A.eval (.tmp 101) = _ := Eq.trans (hf 101) (by conv => lhs; simp [go_sem])
                    have y102 : A.eval (.tmp 102) = _ := Eq.trans (hf 102) (by conv => lhs; simp [go_sem])
                    have y103 : A.eval (.tmp 103) = _ := Eq.trans (hf 103) (by conv => lhs; simp [go_sem])
                    have y104 : A.eval (.tmp 104) = _ := Eq.trans (hf 104) (by conv => lhs; simp [go_sem])
                    have y105 : A.eval (.tmp 105) = _ := Eq.trans (hf 105) (by conv => lhs; simp [go_sem])
                    have y106 : A.eval (.tmp 106) = _ := Eq.trans (hf 106) (by conv => lhs; simp [go_sem])
                    have y107 : A.eval (.tmp 107) = _ := Eq.trans (hf 107) (by conv => lhs; simp [go_sem])
                    have y108 : A.eval (.tmp 108) = _ := Eq.trans (hf 108) (by conv => lhs; simp [go_sem])
                    have y109 : A.eval (.tmp 109) = _ := Eq.trans (hf 109) (by conv => lhs; simp [go_sem])
                    have y110 : A.eval (.tmp 110) = _ := Eq.trans (hf 110) (by conv => lhs; simp [go_sem])
                    have y111 : A.eval (.tmp 111) = _ := Eq.trans (hf 111) (by conv => lhs; simp [go_sem])
                    have y112 : A.eval (.tmp 112) = _ := Eq.trans (hf 112) (by conv => lhs; simp [go_sem])
                    have y113 : A.eval (.tmp 113) = _ := Eq.trans (hf 113) (by conv => lhs; simp [go_sem])
                    have y114 : A.eval (.tmp 114) = _ := Eq.trans (hf 114) (by conv => lhs; simp [go_sem])
                    have y115 : A.eval (.tmp 115) = _ := Eq.trans (hf 115) (by conv => lhs; simp [go_sem])
                    have y116 : A.eval (.tmp 116) = _ := Eq.trans (hf 116) (by conv => lhs; simp [go_sem])
                    have y117 : A.eval (.tmp 117) = _ := Eq.trans (hf 117) (by conv => lhs; simp [go_sem])
                    have y118 : A.eval (.tmp 118) = _ := Eq.trans (hf 118) (by conv => lhs; simp [go_sem])
                    have y119 : A.eval (.tmp 119) = _ := Eq.trans (hf 119) (by conv => lhs; simp [go_sem])
                    have y120 : A.eval (.tmp 120) = _ := Eq.trans (hf 120) (by conv => lhs; simp [go_sem])
                    have y121 : A.eval (.tmp 121) = _ := Eq.trans (hf 121) (by conv => lhs; simp [go_sem])
                    have y122 : A.eval (.tmp 122) = _ := Eq.trans (hf 122) (by conv => lhs; simp [go_sem])
                    have y123 : A.eval (.tmp 123) = _ := Eq.trans (hf 123) (by conv => lhs; simp [go_sem])
                    have y124 : A.eval (.tmp 124) = _ := Eq.trans (hf 124) (by conv => lhs; simp [go_sem])
                    have y125 : A.eval (.tmp 125) = _ := Eq.trans (hf 125) (by conv => lhs; simp [go_sem])
                    have y126 : A.eval (.tmp 126) = _ := Eq.trans (hf 126) (by conv => lhs; simp [go_sem])
                    have y127 : A.eval (.tmp 127) = _ := Eq.trans (hf 127) (by conv => lhs; simp [go_sem])
                    have y128 : A.eval (.tmp 128) = _ := Eq.trans (hf 128) (by conv => lhs; simp [go_sem])
                    have y129 : A.eval (.tmp 129) = _ := Eq.trans (hf 129) (by conv => lhs; simp [go_sem])
                    have y130 : A.eval (.tmp 130) = _ := Eq.trans (hf 130) (by conv => lhs; simp [go_sem])
                    have y131 : A.eval (.tmp 131) = _ := Eq.trans (hf 131) (by conv => lhs; simp [go_sem])
                    have y132 : A.eval (.tmp 132) = _ := Eq.trans (hf 132) (by conv => lhs; simp [go_sem])
                    have y133 : A.eval (.tmp 133) = _ := Eq.trans (hf 133) (by conv => lhs; simp [go_sem])
                    have y134 : A.eval (.tmp 134) = _ := Eq.trans (hf 134) (by conv => lhs; simp [go_sem])
                    have y135 : A.eval (.tmp 135) = _ := Eq.trans (hf 135) (by conv => lhs; simp [go_sem])
                    have y136 : A.eval (.tmp 136) = _ := Eq.trans (hf 136) (by conv => lhs; simp [go_sem])
                    have y137 : A.eval (.tmp 137) = _ := Eq.trans (hf 137) (by conv => lhs; simp [go_sem])
                    have y138 : A.eval (.tmp 138) = _ := Eq.trans (hf 138) (by conv => lhs; simp [go_sem])
                    have y139 : A.eval (.tmp 139) = _ := Eq.trans (hf 139) (by conv => lhs; simp [go_sem])
                    have y140 : A.eval (.tmp 140) = _ := Eq.trans (hf 140) (by conv => lhs; simp [go_sem])
                    have y141 : A.eval (.tmp 141) = _ := Eq.trans (hf 141) (by conv => lhs; simp [go_sem])
                    have y142 : A.eval (.tmp 142) = _ := Eq.trans (hf 142) (by conv => lhs; simp [go_sem])
                    have y143 : A.eval (.tmp 143) = _ := Eq.trans (hf 143) (by conv => lhs; simp [go_sem])
                    have y144 : A.eval (.tmp 144) = _ := Eq.trans (hf 144) (by conv => lhs; simp [go_sem])
                    have y145 : A.eval (.tmp 145) = _ := Eq.trans (hf 145) (by conv => lhs; simp [go_sem])
                    have y146 : A.eval (.tmp 146) = _ := Eq.trans (hf 146) (by conv => lhs; simp [go_sem])
                    have y147 : A.eval (.tmp 147) = _ := Eq.trans (hf 147) (by conv => lhs; simp [go_sem])
                    have y148 : A.eval (.tmp 148) = _ := Eq.trans (hf 148) (by conv => lhs; simp [go_sem])
                    have y149 : A.eval (.tmp 149) = _ := Eq.trans (hf 149) (by conv => lhs; simp [go_sem])
                    have y150 : A.eval (.tmp 150) = _ := Eq.trans (hf 150) (by conv => lhs; simp [go_sem])
                    have y151 : A.eval (.tmp 151) = _ := Eq.trans (hf 151) (by conv => lhs; simp [go_sem])
                    have y152 : A.eval (.tmp 152) = _ := Eq.trans (hf 152) (by conv => lhs; simp [go_sem])
                    have y153 : A.eval (.tmp 153) = _ := hf 153
                    have y154 : A.eval (.tmp 154) = _ := hf 154
                    have y155 : A.eval (.tmp 155) = _ := hf 155
                    have y156 : A.eval (.tmp 156) = _ := hf 156
                    have y157 := hf 157
                    have y158 : A.eval (.tmp 158) = _ := hf 158
                    have y159 : A.eval (.tmp 159) = _ := hf 159
                    have y160 : A.eval (.tmp 160) = _ := hf 160
                    have y161 : A.eval (.tmp 161) = _ := hf 161
                    have y162 : A.eval (.tmp 162) = _ := hf 162
                    have y163 : A.eval (.tmp 163) = _ := hf 163
                    have y164 : A.eval (.tmp 164) = _ := hf 164
                    have y165 : A.eval (.tmp 165) = _ := hf 165
                    have y166 : A.eval (.tmp 166) = _ := hf 166
                    have y167 := hf 167
                    have y168 : A.eval (.tmp 168) = _ := hf 168
                    have y169 : A.eval (.tmp 169) = _ := hf 169
                    have y170 : A.eval (.tmp 170) = _ := hf 170
                    have y171 : A.eval (.tmp 171) = _ := hf 171
                    have y172 : A.eval (.tmp 172) = _ := hf 172
                    have y173 : A.eval (.tmp 173) = _ := hf 173
                    have y174 : A.eval (.tmp 174) = _ := hf 174
                    have y175 : A.eval (.tmp 175) = _ := Eq.trans (hf 175) (by conv => lhs; simp [go_sem])
                    clear hf
                    have hA := frame_eq hn
                    rw [show List.range 176 = [0, 1, 2, 3, 4, 5, 6, 7, 8, 9, 10, 11, 12, 13, 14, 15, 16, 17, 18, 19, 20, 21, 22, 23, 24, 25, 26, 27, 28, 29, 30, 31, 32, 33, 34, 35, 36, 37, 38, 39, 40, 41, 42, 43, 44, 45, 46, 47, 48, 49, 50, 51, 52, 53, 54, 55, 56, 57, 58, 59, 60, 61, 62, 63, 64, 65, 66, 67, 68, 69, 70, 71, 72, 73, 74, 75, 76, 77, 78, 79, 80, 81, 82, 83, 84, 85, 86, 87, 88, 89, 90, 91, 92, 93, 94, 95, 96, 97, 98, 99, 100, 101, 102, 103, 104, 105, 106, 107, 108, 109, 110, 111, 112, 113, 114, 115, 116, 117, 118, 119, 120, 121, 122, 123, 124, 125, 126, 127, 128, 129, 130, 131, 132, 133, 134, 135, 136, 137, 138, 139, 140, 141, 142, 143, 144, 145, 146, 147, 148, 149, 150, 151, 152, 153, 154, 155, 156, 157, 158, 159, 160, 161, 162, 163, 164, 165, 166, 167, 168, 169, 170, 171, 172, 173, 174, 175] from rfl, hd] at hA
                    simp only [List.map_cons, List.map_nil, y0, y1, y2, y3, y4, y5, y6, y7, y8, y9, y10, y11, y12, y13, y14, y15, y16, y17, y18, y19, y20, y21, y22, y23, y24, y25, y26, y27, y28, y29, y30, y31, y32, y33, y34, y35, y36, y37, y38, y39, y40, y41, y42, y43, y44, y45, y46, y47, y48, y49, y50, y51, y52, y53, y54, y55, y56, y57, y58, y59, y60, y61, y62, y63, y64, y65, y66, y67, y68, y69, y70, y71, y72, y73, y74, y75, y76, y77, y78, y79, y80, y81, y82, y83, y84, y85, y86, y87, y88, y89, y90, y91, y92, y93, y94, y95, y96, y97, y98, y99, y100, y101, y102, y103, y104, y105, y106, y107, y108, y109, y110, y111, y112, y113, y114, y115, y116, y117, y118, y119, y120, y121, y122, y123, y124, y125, y126, y127, y128, y129, y130, y131, y132, y133, y134, y135, y136, y137, y138, y139, y140, y141, y142, y143, y144, y145, y146, y147, y148, y149, y150, y151, y152, y153, y154, y155, y156, y158, y159, y160, y161, y162, y163, y164, y165, y166, y168, y169, y170, y171, y172, y173, y174, y175] at hA
                    change (TOs s2.W) (A.eval (.tmp 157)) W4 at y157
                    change (TBs s2.out) (A.eval (.tmp 167)) W4 at y167
                    clear y0 y1 y2 y3 y4 y5 y6 y7 y8 y9 y10 y11 y12 y13 y14 y15 y16 y17 y18 y19 y20 y21 y22 y23 y24 y25 y26 y27 y28 y29 y30 y31 y32 y33 y34 y35 y36 y37 y38 y39 y40 y41 y42 y43 y44 y45 y46 y47 y48 y49 y50 y51 y52 y53 y54 y55 y56 y57 y58 y59 y60 y61 y62 y63 y64 y65 y66 y67 y68 y69 y70 y71 y72 y73 y74 y75 y76 y77 y78 y79 y80 y81 y82 y83 y84 y85 y86 y87 y88 y89 y90 y91 y92 y93 y94 y95 y96 y97 y98 y99 y100 y101 y102 y103 y104 y105 y106 y107 y108 y109 y110 y111 y112 y113 y114 y115 y116 y117 y118 y119 y120 y121 y122 y123 y124 y125 y126 y127 y128 y129 y130 y131 y132 y133 y134 y135 y136 y137 y138 y139 y140 y141 y142 y143 y144 y145 y146 y147 y148 y149 y150 y151 y152 y153 y154 y155 y156 y158 y159 y160 y161 y162 y163 y164 y165 y166 y168 y169 y170 y171 y172 y173 y174 y175
                    generalize A.eval (.tmp 157) = v157 at *
                    generalize A.eval (.tmp 167) = v167 at *
                    clear hn hd
                    subst hA
                    have T4 := Lib.hid (T2.out.below dc hC)
                    clear kc hC
                    go_wp2_with fail
                    go_roundw
                    case rel => exact ⟨k + 1, F2, K2, s2, by omega, by go_num, T4.out⟩
                    case measure => simp [intOf]; omega
              · obtain rfl : k = z3.length := by omega
                go_wp2_with fail
                refine (awake14 dc wr).mono ?_
                rintro e W5 ⟨rfl, hb5⟩
                have HB5 := Lib.hid (X.out.bel.trans (hb5.mono X.out.bel.size))
                clear hb5
                go_wp2_with fail
                go_ret
                exact ⟨rfl, HB5.out⟩
theorem walk (a0 : Int) (w0 : I64 a0) (a1 : Int) (w1 : I64 a1) (a2 : Int) (w2 : I64 a2) (a3 : Option Addr) (cap3 : Nat) (z3 : List Opn) (w : World) (r3 : Sc w (.slice a3 z3.length cap3) z3) :
    Calls Try.prog 3 #[.int .i64 a0, .int .i64 a1, .int .i64 a2, .slice a3 z3.length cap3] w fun e w' => e = .returned (.bool true) ∧ Below w.heap.size w w' := walk0 a0 a1 a2 a3 cap3 z3 w r3

set_option maxRecDepth 100000 in
theorem lifted (os : _root_.Go.Os) (started : os.Started) (H : Type) (enc : TypeId × Value → H) :
    ReturnsInHanded {} Try.checked os 3 .any (Rows.senderDoesSpec.pre6 enc Try.prog Try.f3 Rows.senderDoesRow.domain false) (Rows.senderDoesSpec.post enc Try.prog Try.f3 false true false false) := by
  refine returnsInHanded_of_change (C := Try.checked) own started (by kernel_rfl) Try.func3
    (ChangeSpec.witness6 (enc := enc) (C := Try.checked) false ⟨#[], #[.int .i64 0, .int .i64 0, .int .i64 0, .slice none 0 0], []⟩ 16 (by kernel_rfl) (by kernel_rfl) (by kernel_rfl) (by kernel_rfl)) ?_
  intro W base args ds gs before hval0 hW hcnd _
  have hval : ∀ (j : Nat) t v, Try.f3.params[j]? = some t → args[j]? = some v → Value.okWide Try.prog W .any base t v := hval0
  have hW' := hW
  obtain ⟨p, q, hA0, hV, rfl, hfz, hnd⟩ := hW
  have hA : DataW.TrodAll enc Try.prog W 0 (fun _ => true) true Try.f3.params.toList args.toList ds p := hA0
  rw [Try.params3] at hA hval
  obtain ⟨v0, vs0, e0, ds0, p0, q0, hargs, rfl, rfl, h0, x0⟩ := trodAll_cons hA
  obtain ⟨v1, vs1, e1, ds1, p1, q1, rfl, rfl, rfl, h1, x1⟩ := trodAll_cons x0
  obtain ⟨v2, vs2, e2, ds2, p2, q2, rfl, rfl, rfl, h2, x2⟩ := trodAll_cons x1
  obtain ⟨v3, vs3, e3, ds3, p3, q3, rfl, rfl, rfl, h3, x3⟩ := trodAll_cons x2
  obtain ⟨rfl, rfl, rfl⟩ := trodAll_nil x3
  obtain rfl : args = #[v0, v1, v2, v3] := by cases args; simp_all
  obtain ⟨rfl, rfl⟩ := trodVars_none hV
  have k0 := h0
  have lt0 : ∀ x ∈ p0, x.block < W.heap.size := by obtain ⟨m, hm⟩ := k0; exact DataW.trod_lt m _ _ _ hm
  obtain ⟨a0, rfl, _, _, w0⟩ := open_int Try.underlying3 (hval 0 3 v0 rfl rfl) h0
  have k1 := h1
  have lt1 : ∀ x ∈ p1, x.block < W.heap.size := by obtain ⟨m, hm⟩ := k1; exact DataW.trod_lt m _ _ _ hm
  obtain ⟨a1, rfl, _, _, w1⟩ := open_int Try.underlying3 (hval 1 3 v1 rfl rfl) h1
  have k2 := h2
  have lt2 : ∀ x ∈ p2, x.block < W.heap.size := by obtain ⟨m, hm⟩ := k2; exact DataW.trod_lt m _ _ _ hm
  obtain ⟨a2, rfl, _, _, w2⟩ := open_int Try.underlying3 (hval 2 3 v2 rfl rfl) h2
  have k3 := h3
  have lt3 : ∀ x ∈ p3, x.block < W.heap.size := by obtain ⟨m, hm⟩ := k3; exact DataW.trod_lt m _ _ _ hm
  obtain ⟨a3, len3, cap3, rfl⟩ := okWide_slice underOPS (hval 3 22 v3 rfl rfl)
  obtain ⟨z3, hz3, w3⟩ := sc_form h3
  subst hz3
  clear hA0 hval0
  refine (walk a0 (i64_wf w0) a1 (i64_wf w1) a2 (i64_wf w2) a3 cap3 z3 W w3).mono fun e W' ⟨he, bel⟩ => ?_
  subst he
  exact ⟨_, rfl, _, _, _, [], _, [], hW', trodAll_mk1 (shut_bool Try.underlying4 _), (trodAll_cons_mk (Below.trod laidOut (by kernel_rfl) (of_decide_eq_true (by kernel_rfl)) k0 bel lt0) (trodAll_cons_mk (Below.trod laidOut (by kernel_rfl) (of_decide_eq_true (by kernel_rfl)) k1 bel lt1) (trodAll_cons_mk (Below.trod laidOut (by kernel_rfl) (of_decide_eq_true (by kernel_rfl)) k2 bel lt2) (trodAll_cons_mk (Below.trod laidOut (by kernel_rfl) (of_decide_eq_true (by kernel_rfl)) k3 bel lt3) trodAll_mk0)))), rfl, bel.frame _, fun h => by cases h⟩

theorem over : Rows.senderDoesRow.holds Try.pinned (OpenSpec.ofChange Rows.senderDoesSpec) :=
  OpenClaim.holds_of_wide 3 Try.f3 rfl rfl rfl rfl rfl rfl rfl ⟨rfl, rfl, rfl, rfl, rfl⟩ rfl rfl rfl rfl rfl (by kernel_rfl) Try.func3 (by kernel_rfl)
    (of_decide_eq_true (by kernel_rfl)) (by unfold Func.isWrapper; first | (rw [if_pos (by decide +kernel)]; kernel_rfl) | (rw [if_neg (by decide +kernel)]; exact ⟨rfl, rfl⟩))
    (fun os started H enc _ => lifted os started H enc)

theorem proved : Rows.SenderDoesSaid := over
#print axioms proved
end Go.Proofs.Yticjeknadddhoaa.senderDoes
