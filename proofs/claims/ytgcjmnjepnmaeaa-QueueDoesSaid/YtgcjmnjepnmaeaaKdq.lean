/- thalweglaw10.QueueDoes: for any number and script of calls the law answers true; no condition. -/
import Derived.Test.YtgcjmnjepnmaeaaQaw
import Derived.Test.YtgcjmnjepnmaeaaQpg
import Derived.Deep.RegionWith
import Derived.Deep.CutBlock
import Derived.WalkLawsBesides
import Derived.WalkKit
import Derived.ProofKit
import Derived.OpenShut
import Derived.ShutString
import Derived.ChangeOld
import Derived.Below
namespace Go.Proofs.Ytgcjmnjepnmaeaa.queueDoes
open Go.ChangeShapes Go.WideShapes Go.ChangeAt Go.RowKit
open Go.ChangeMaps (open_string shut_string)
set_option linter.unusedVariables false
set_option maxRecDepth 100000

theorem own : ownKnob Try.prog.godebug = none := by kernel_rfl
theorem laidOut : laidOutB Try.prog = true := by kernel_rfl

/-- A variable of a call of the script. -/
def OwnO (w : World) (b : Nat) (y : OpT) : Prop := C7 w b 0 y
theorem owno_alloc (w : World) (y : OpT) : OwnO (w.alloc (.cells #[.int .i64 y.1, .int .i64 y.2.1.1, .int .i64 y.2.1.2.1, .int .i64 y.2.1.2.2.1, .int .i64 y.2.1.2.2.2.1, .string y.2.1.2.2.2.2, .int .i64 y.2.2] 36)) w.heap.size y := ⟨by simp, by simp, by simp, by simp, by simp, by simp, by simp⟩
theorem OwnO.lt {w : World} {b : Nat} {y : OpT} (h : OwnO w b y) : b < w.heap.size := World.block_lt_of_cell? w _ h.1
theorem OwnO.chg {F : Nat → Prop} {w w' : World} {b : Nat} {y : OpT} (h : OwnO w b y) (hc : Chg F w w') (hn : ¬ F b) : OwnO w' b y :=
  ⟨(hc.cell h.lt hn).trans h.1, (hc.cell h.lt hn).trans h.2.1, (hc.cell h.lt hn).trans h.2.2.1, (hc.cell h.lt hn).trans h.2.2.2.1, (hc.cell h.lt hn).trans h.2.2.2.2.1, (hc.cell h.lt hn).trans h.2.2.2.2.2.1, (hc.cell h.lt hn).trans h.2.2.2.2.2.2⟩
/-- The program's queue and the reference's, both hold L; beside them a variable of a call. -/
structure Two (QSt : World → (Nat → Prop) → Nat → Int → List Pk → Prop) (w0 w : World) (b bx g : Nat) (m : Int) (v : Value) (y : OpT) (L L' : List Pk) : Prop where
  q : QS QSt w0 w (fun k => QF bx v k ∨ k = g) b m L
  x : RQ w bx m v L'
  o : OwnO w g y
  bx0 : w0.heap.size ≤ bx
  ng : ¬ QF bx v g
  g0 : w0.heap.size ≤ g
theorem Two.dn {QSt : World → (Nat → Prop) → Nat → Int → List Pk → Prop} (hc : Qc QSt) {w0 w : World} {b bx g : Nat} {m : Int} {v : Value} {y : OpT} {L L' : List Pk} (h : Two QSt w0 w b bx g m v y L L') (n : Nat) : Two QSt w0 (w.drewN n) b bx g m v y L L' := ⟨h.q.dn hc n, h.x.dn n, h.o, h.bx0, h.ng, h.g0⟩
theorem Two.drew {QSt : World → (Nat → Prop) → Nat → Int → List Pk → Prop} (hc : Qc QSt) {w0 w : World} {b bx g : Nat} {m : Int} {v : Value} {y : OpT} {L L' : List Pk} (h : Two QSt w0 w b bx g m v y L L') : Two QSt w0 w.drew b bx g m v y L L' := h.dn hc 1
/-- A call on the program's queue. -/
theorem Two.qstep {QSt : World → (Nat → Prop) → Nat → Int → List Pk → Prop} {w0 w w' : World} {b bx g : Nat} {m : Int} {v : Value} {y : OpT} {L L' L2 : List Pk} (h : Two QSt w0 w b bx g m v y L L') (hq : QS QSt w0 w' (fun k => QF bx v k ∨ k = g) b m L2) (hch : Chg (Off w0 (fun k => QF bx v k ∨ k = g)) w w') : Two QSt w0 w' b bx g m v y L2 L' :=
  ⟨hq, h.x.chg hch (fun k hk => off_no (.inl hk)), h.o.chg hch (off_no (.inr rfl)), h.bx0, h.ng, h.g0⟩
/-- A call on the reference's. -/
theorem Two.xstep {QSt : World → (Nat → Prop) → Nat → Int → List Pk → Prop} (hc : Qc QSt) {w0 w w' : World} {b bx g : Nat} {m : Int} {v v' : Value} {y : OpT} {L L' L2 : List Pk} (h : Two QSt w0 w b bx g m v y L L') (hch : Chg (QF bx v) w w') (hx : RQ w' bx m v' L2) (hv : ∀ k, v'.ownBlock = some k → v.ownBlock = some k ∨ w.heap.size ≤ k) : Two QSt w0 w' b bx g m v' y L L2 := by
  have hno : ∀ k, QF bx v' k → QF bx v k ∨ w.heap.size ≤ k := fun k hk => by
    rcases hk with rfl | hk
    · exact .inl (.inl rfl)
    · exact (hv k hk).imp (fun h => .inr h) (fun h => h)
  have ho := h.o.chg hch h.ng
  refine ⟨h.q.keep hc hch (fun k hk => .inl hk) (fun k hk => ?_) (fun k hk => ?_) (fun k hk => ?_), hx, ho, h.bx0, fun hk => ?_, h.g0⟩
  · rcases hk with hk | rfl
    · exact Nat.le_trans h.bx0 (h.x.fr hk).1
    · exact h.g0
  · rcases hk with hk | rfl
    · exact (hno k hk).imp (fun h => .inl h) (fun h => h)
    · exact .inl (.inr rfl)
  · rcases hk with hk | rfl
    · exact (hx.fr hk).2
    · exact ho.lt
  · rcases hno g hk with h1 | h1
    · exact h.ng h1
    · have := h.o.lt
      omega
theorem Two.bel {QSt : World → (Nat → Prop) → Nat → Int → List Pk → Prop} {w0 w : World} {b bx g : Nat} {m : Int} {v : Value} {y : OpT} {L L' : List Pk} (h : Two QSt w0 w b bx g m v y L L') : Below w0.heap.size w0 w := h.q.bel
theorem Two.under {QSt : World → (Nat → Prop) → Nat → Int → List Pk → Prop} (hc : Qc QSt) {w0 w w' : World} {b bx g : Nat} {m : Int} {v : Value} {y : OpT} {L L' : List Pk} (h : Two QSt w0 w b bx g m v y L L') (hb : Below w.heap.size w w') : Two QSt w0 w' b bx g m v y L L' :=
  ⟨h.q.under hc hb, h.x.below hb, h.o.chg (F := fun _ => False) (chg0 hb) (fun h => h), h.bx0, h.ng, h.g0⟩
set_option maxHeartbeats 32000000 in
theorem walk {QSt : World → (Nat → Prop) → Nat → Int → List Pk → Prop} (hc : Qc QSt) (a0 : Int) (w0 : I64 a0) (a1 : Option Addr) (cap1 : Nat) (z1 : List OpT) (w : World) (w1 : Sc w (.slice a1 z1.length cap1) z1):
    Calls Try.prog 3 #[.int .i64 a0, .slice a1 z1.length cap1] w fun e w' => e = .returned (.bool true) ∧ Below w.heap.size w w' := by
  have HSC := Lib.hid w1
  obtain ⟨q, hqf⟩ : ∃ q : Bool, q = true ↔ FewO z1 := by
    by_cases h : FewO z1
    · exact ⟨true, ⟨fun _ => h, fun _ => rfl⟩⟩
    · exact ⟨false, ⟨(fun h => by cases h), fun h2 => absurd h2 h⟩⟩
  have CF := Lib.hid (few_any _ z1 w w1)
  clear w1
  go_enter Try.func3, Try.ntmps3
  go_wp2_with fail
  refine CF.out.mono ?_
  rintro e W0 ⟨⟨q', rfl, hq'⟩, rfl⟩
  obtain rfl : q' = q := by
    cases q <;> cases q' <;> simp_all
  clear CF
  cases q' with
  | false =>
    go_wp2_with fail
    go_ret
    exact ⟨rfl, Below.refl _ _⟩
  | true =>
    have HFW : Hid (FewO z1) := hqf.1 rfl
    clear hqf hq'
    by_cases hm : 1 ≤ a0 ∧ a0 ≤ 64
    · have C1 := Lib.hid (hc.news hm w)
      have hm1 : decide (a0 < 1) = false := decide_eq_false (by omega)
      have hm2 : decide (64 < a0) = false := decide_eq_false (by omega)
      have HM := Lib.hid hm
      clear hm
      go_wp2_with fail
      refine C1.out.mono ?_
      rintro e W1 ⟨b, rfl, hq⟩
      have HQ := Lib.hid hq
      clear hq C1
      have hl150 : z1.length ≤ 150 := HFW.out.1
      go_upto_region 9 with (fail)
      obtain ⟨W2, hW2⟩ : ∃ W2, W1.alloc (.cells #[.int .i64 a0, .slice none 0 0] 32) = W2 := ⟨_, rfl⟩
      have hb2 : Below W1.heap.size W1 W2 := hW2 ▸ (Below.refl _ W1).alloc (Nat.le_refl _) _
      have hx2 : RQ W2 W1.heap.size a0 (.slice none 0 0) [] := ⟨by rw [← hW2]; exact heap_alloc_new W1 _, OwK_nil _ _⟩
      have hq2 : QS QSt w W2 (QF W1.heap.size (.slice none 0 0)) b a0 [] := by
        have h := HQ.out.alloc hc (.cells #[.int .i64 a0, .slice none 0 0] 32)
        rw [hW2] at h
        exact h.less (fun k hk => Or.elim (show k = W1.heap.size ∨ (Value.slice none 0 0).ownBlock = some k from hk) (fun h => .inr h) (fun h => by cases h))
      have HQ2 := Lib.hid hq2
      have HX2 := Lib.hid hx2
      have HBX : Hid (w.heap.size ≤ W1.heap.size) := HQ.out.bel.size
      obtain ⟨bx, hbx⟩ : ∃ bx, W1.heap.size = bx := ⟨_, rfl⟩
      simp only [hW2]
      rw [hbx] at HQ2 HX2 HBX ⊢
      clear hb2 hx2 hq2 hW2 hbx hm1 hm2 HQ
      go_wp2_with fail
      go_loopw [8] (fun i wr => ∃ (k : Nat) (L : List Pk) (av : Option Addr) (nv cv : Nat), k ≤ z1.length ∧ i = .int .i64 k ∧ QS QSt w wr (QF bx (.slice av nv cv)) b a0 L ∧ RQ wr bx a0 (.slice av nv cv) L) (fun i _ => z1.length - (intOf i).toNat)
      case atStart => exact ⟨0, [], _, _, _, Nat.zero_le _, rfl, HQ2.out, HX2.out⟩
      case round =>
        obtain ⟨k, L, av, nv, cv, hk, rfl, hq, hx⟩ := hrel
        have HQR := Lib.hid hq
        have HXR := Lib.hid hx
        clear hq hx
        by_cases hlt : k < z1.length
        · obtain ⟨b2, off, rfl, hB, p0, p1, p2, p3, p4, p5, p6⟩ := (HSC.out.below (HQR.out.bel.mono (Nat.le_refl _))).at hlt
          obtain ⟨y, hy⟩ : ∃ y, z1.getD k zOp = y := ⟨_, rfl⟩
          rw [hy] at p0 p1 p2 p3 p4 p5 p6
          clear hy
          have hL9 : L.length ≤ 64 := by have := HQR.out.len hc; omega
          have HLL := Lib.hid hL9
          have HLL2 : Hid (L.length ≤ 2000) := Nat.le_trans hL9 (by decide)
          clear hL9
          obtain ⟨W4, hW4⟩ : ∃ W4, wr.alloc (.cells #[.int .i64 y.1, .int .i64 y.2.1.1, .int .i64 y.2.1.2.1, .int .i64 y.2.1.2.2.1, .int .i64 y.2.1.2.2.2.1, .string y.2.1.2.2.2.2, .int .i64 y.2.2] 36) = W4 := ⟨_, rfl⟩
          have HT4 : Hid (Two QSt w W4 b bx wr.heap.size a0 (.slice av nv cv) y L L) := by
            have hq4 := HQR.out.alloc hc (.cells #[.int .i64 y.1, .int .i64 y.2.1.1, .int .i64 y.2.1.2.1, .int .i64 y.2.1.2.2.1, .int .i64 y.2.1.2.2.2.1, .string y.2.1.2.2.2.2, .int .i64 y.2.2] 36)
            have ho4 := owno_alloc wr y
            rw [hW4] at hq4 ho4
            have hb4 : Below wr.heap.size wr W4 := hW4 ▸ (Below.refl _ wr).alloc (Nat.le_refl _) _
            exact ⟨hq4, HXR.out.below hb4, ho4, HBX.out, fun h => by have := (HXR.out.fr h).2; omega, HQR.out.bel.size⟩
          go_upto_region 14 with (fail)
          obtain ⟨g9, hg9⟩ : ∃ g9, wr.heap.size = g9 := ⟨_, rfl⟩
          rw [hg9] at HT4 ⊢
          clear hW4 p0 p1 p2 p3 p4 p5 p6 hB HXR HQR
          obtain ⟨o0, o1, o2, o3, o4, o5, o6⟩ := HT4.out.o
          simp only [Nat.zero_add] at o0 o1 o2 o3 o4 o5 o6
          go_upto_block 2 with fail
          go_cut [10, 11, 12, 13, 14, 15, 16, 17, 18] from 51 to 149 (fun ok _ _ _ _ _ _ _ _ wx => ok = .bool true ∧ ∃ (L2 : List Pk) (a2 : Option Addr) (n2 c2 : Nat), Two QSt w wx b bx g9 a0 (.slice a2 n2 c2) y L2 L2)
          case first =>
            by_cases t0 : y.1 = 0
            · have tq : (y.1 == 0) = true := by simpa using t0
              clear t0
              have C1 := Lib.hid (hc.puts (HT4.out.drew hc).q y.2.1)
              go_wp2_with fail
              go_region_with (first
                | (go_at_call 11; refine C1.out.mono ?_; rintro e W5 ⟨rfl, hq, hch⟩; have HT5 := Lib.hid ((HT4.out.drew hc).qstep hq hch); have C2 := Lib.hid (rqput_any bx a0 _ L y.2.1 W5 HT5.out.x HLL2.out); clear hq hch o0 o1 o2 o3 o4 o5 o6; obtain ⟨o0, o1, o2, o3, o4, o5, o6⟩ := HT5.out.o; simp only [Nat.zero_add] at o0 o1 o2 o3 o4 o5 o6)
                | (go_at_call 12; refine C2.out.mono ?_; rintro e W6 ⟨rfl, hch, v9, hx, hv⟩; obtain ⟨av9, cv9, rfl⟩ := hx.own.form; have HT6 := Lib.hid (HT5.out.xstep hc hch hx hv); clear hch hx hv; clear o0 o1 o2 o3 o4 o5 o6))
              all_goals
                go_wp2_with fail
                go_meet
                case rel => exact ⟨rfl, _, _, _, _, HT6.out⟩
            · have tn : (y.1 == 0) = false := by simpa using t0
              by_cases t1 : y.1 = 1
              · have tq : (y.1 == 1) = true := by simpa using t1
                clear t0 t1
                obtain ⟨pv, hpv⟩ : ∃ pv, takeV L y.2.2 = pv := ⟨_, rfl⟩
                obtain ⟨ev, hev⟩ : ∃ ev, takeE L y.2.2 = ev := ⟨_, rfl⟩
                have HPV := Lib.hid hpv
                have HEV := Lib.hid hev
                clear hpv hev
                have C1 := Lib.hid (hc.takes HT4.out.q y.2.2)
                go_wp2_with fail
                refine C1.out.mono ?_
                rintro e W5 ⟨rfl, hq, hch⟩
                have HT5 := Lib.hid (HT4.out.qstep hq hch)
                rw [HPV.out, HEV.out]
                clear hq hch C1 o0 o1 o2 o3 o4 o5 o6
                obtain ⟨W6, hW6⟩ : ∃ W6, W5.alloc (.cells #[.int .i64 pv.1, .int .i64 pv.2.1, .int .i64 pv.2.2.1, .int .i64 pv.2.2.2.1, .string pv.2.2.2.2] 34) = W6 := ⟨_, rfl⟩
                have hb6 : Below W5.heap.size W5 W6 := hW6 ▸ (Below.refl _ W5).alloc (Nat.le_refl _) _
                have HV6 : Hid (OwnP W6 W5.heap.size pv.1 pv.2.1 pv.2.2.1 pv.2.2.2.1 pv.2.2.2.2) := hW6 ▸ ownp_alloc W5 _ _ _ _ _ 34 W5.heap.size rfl
                have HT6 := Lib.hid (HT5.out.under hc hb6)
                have HN6 : Hid (¬ QF bx (.slice av nv cv) W5.heap.size) := fun h => by have := (HT5.out.x.fr h).2; omega
                obtain ⟨g1, hg1⟩ : ∃ g1, W5.heap.size = g1 := ⟨_, rfl⟩
                clear hb6
                have C2 := Lib.hid (rqtake_any bx a0 _ L y.2.2 W6 HT6.out.x HLL2.out)
                obtain ⟨o0, o1, o2, o3, o4, o5, o6⟩ := HT6.out.o
                simp only [Nat.zero_add] at o0 o1 o2 o3 o4 o5 o6
                go_wp2_with fail
                refine C2.out.mono ?_
                rintro e W7 ⟨rfl, hch, v9, hx, hv⟩
                have HV7 := Lib.hid (HV6.out.chg hch HN6.out)
                obtain ⟨av9, cv9, rfl⟩ := hx.own.form; have HT7 := Lib.hid (HT6.out.xstep hc hch hx hv); clear hx hv
                rw [HPV.out, HEV.out]
                rw [hg1] at HV7
                clear hch hW6 o0 o1 o2 o3 o4 o5 o6 HV6 HN6 C2
                obtain ⟨W8, hW8⟩ : ∃ W8, W7.alloc (.cells #[.int .i64 pv.1, .int .i64 pv.2.1, .int .i64 pv.2.2.1, .int .i64 pv.2.2.2.1, .string pv.2.2.2.2] 34) = W8 := ⟨_, rfl⟩
                have hb8 : Below W7.heap.size W7 W8 := hW8 ▸ (Below.refl _ W7).alloc (Nat.le_refl _) _
                have HX8 : Hid (OwnP W8 W7.heap.size pv.1 pv.2.1 pv.2.2.1 pv.2.2.2.1 pv.2.2.2.2) := hW8 ▸ ownp_alloc W7 _ _ _ _ _ 34 W7.heap.size rfl
                have HV8 := Lib.hid (HV7.out.below hb8)
                have HT8 := Lib.hid (HT7.out.under hc hb8)
                obtain ⟨⟨u0, u1, u2, u3, u4⟩, uf⟩ := HV8.out
                obtain ⟨⟨x0, x1, x2, x3, x4⟩, xf⟩ := HX8.out
                obtain ⟨y1, y2, y3, y4, y5⟩ := pv
                simp only at u0 u1 u2 u3 u4 x0 x1 x2 x3 x4
                have G1 := guardPK
                have G2 := eqlPK
                have G3 : eqK y1 y2 y3 y4 y5 y1 y2 y3 y4 y5 = true := eqK_iff.2 rfl
                clear hb8
                go_wp2_with fail
                go_meet
                case rel => exact ⟨rfl, _, _, _, _, HT8.out⟩
              · have tn1 : (y.1 == 1) = false := by simpa using t1
                by_cases t2 : y.1 = 2
                · have tq : (y.1 == 2) = true := by simpa using t2
                  clear t0 t1 t2
                  obtain ⟨pv, hpv⟩ : ∃ pv, firstV L = pv := ⟨_, rfl⟩
                  obtain ⟨ev, hev⟩ : ∃ ev, firstE L = ev := ⟨_, rfl⟩
                  have HPV := Lib.hid hpv
                  have HEV := Lib.hid hev
                  clear hpv hev
                  have C1 := Lib.hid (hc.firsts HT4.out.q)
                  go_wp2_with fail
                  refine C1.out.mono ?_
                  rintro e W5 ⟨rfl, hq, hch⟩
                  have HT5 := Lib.hid (HT4.out.qstep hq hch)
                  rw [HPV.out, HEV.out]
                  clear hq hch C1 o0 o1 o2 o3 o4 o5 o6
                  obtain ⟨W6, hW6⟩ : ∃ W6, W5.alloc (.cells #[.int .i64 pv.1, .int .i64 pv.2.1, .int .i64 pv.2.2.1, .int .i64 pv.2.2.2.1, .string pv.2.2.2.2] 34) = W6 := ⟨_, rfl⟩
                  have hb6 : Below W5.heap.size W5 W6 := hW6 ▸ (Below.refl _ W5).alloc (Nat.le_refl _) _
                  have HV6 : Hid (OwnP W6 W5.heap.size pv.1 pv.2.1 pv.2.2.1 pv.2.2.2.1 pv.2.2.2.2) := hW6 ▸ ownp_alloc W5 _ _ _ _ _ 34 W5.heap.size rfl
                  have HT6 := Lib.hid (HT5.out.under hc hb6)
                  have HN6 : Hid (¬ QF bx (.slice av nv cv) W5.heap.size) := fun h => by have := (HT5.out.x.fr h).2; omega
                  obtain ⟨g1, hg1⟩ : ∃ g1, W5.heap.size = g1 := ⟨_, rfl⟩
                  clear hb6
                  have C2 := Lib.hid (rqfirst_any bx a0 _ L W6 HT6.out.x HLL2.out)
                  obtain ⟨o0, o1, o2, o3, o4, o5, o6⟩ := HT6.out.o
                  simp only [Nat.zero_add] at o0 o1 o2 o3 o4 o5 o6
                  go_wp2_with fail
                  refine C2.out.mono ?_
                  rintro e W7 ⟨rfl, hbb⟩
                  have HV7 := Lib.hid (HV6.out.below hbb)
                  have hch : Chg (fun _ => False) W6 W7 := chg0 hbb; have HT7 := Lib.hid (HT6.out.under hc hbb); clear hbb
                  rw [HPV.out, HEV.out]
                  rw [hg1] at HV7
                  clear hch hW6 o0 o1 o2 o3 o4 o5 o6 HV6 HN6 C2
                  obtain ⟨W8, hW8⟩ : ∃ W8, W7.alloc (.cells #[.int .i64 pv.1, .int .i64 pv.2.1, .int .i64 pv.2.2.1, .int .i64 pv.2.2.2.1, .string pv.2.2.2.2] 34) = W8 := ⟨_, rfl⟩
                  have hb8 : Below W7.heap.size W7 W8 := hW8 ▸ (Below.refl _ W7).alloc (Nat.le_refl _) _
                  have HX8 : Hid (OwnP W8 W7.heap.size pv.1 pv.2.1 pv.2.2.1 pv.2.2.2.1 pv.2.2.2.2) := hW8 ▸ ownp_alloc W7 _ _ _ _ _ 34 W7.heap.size rfl
                  have HV8 := Lib.hid (HV7.out.below hb8)
                  have HT8 := Lib.hid (HT7.out.under hc hb8)
                  obtain ⟨⟨u0, u1, u2, u3, u4⟩, uf⟩ := HV8.out
                  obtain ⟨⟨x0, x1, x2, x3, x4⟩, xf⟩ := HX8.out
                  obtain ⟨y1, y2, y3, y4, y5⟩ := pv
                  simp only at u0 u1 u2 u3 u4 x0 x1 x2 x3 x4
                  have G1 := guardPK
                  have G2 := eqlPK
                  have G3 : eqK y1 y2 y3 y4 y5 y1 y2 y3 y4 y5 = true := eqK_iff.2 rfl
                  clear hb8
                  go_wp2_with fail
                  go_meet
                  case rel => exact ⟨rfl, _, _, _, _, HT8.out⟩
                · have tn2 : (y.1 == 2) = false := by simpa using t2
                  by_cases t3 : y.1 = 3
                  · have tq : (y.1 == 3) = true := by simpa using t3
                    clear t0 t1 t2 t3
                    have C1 := Lib.hid (hc.counts (HT4.out.drew hc).q y.2.2)
                    go_wp2_with fail
                    go_region_with (first
                      | (go_at_call 17; refine C1.out.mono ?_; rintro e W5 ⟨rfl, hq, hch⟩; have HT5 := Lib.hid ((HT4.out.drew hc).qstep hq hch); have C2 := Lib.hid (rqcnt_any bx a0 _ L y.2.2 W5 HT5.out.x HLL2.out); clear hq hch o0 o1 o2 o3 o4 o5 o6; obtain ⟨o0, o1, o2, o3, o4, o5, o6⟩ := HT5.out.o; simp only [Nat.zero_add] at o0 o1 o2 o3 o4 o5 o6)
                      | (go_at_call 18; refine C2.out.mono ?_; rintro e W6 ⟨rfl, rfl⟩; have HT6 := HT5; clear o0 o1 o2 o3 o4 o5 o6))
                    all_goals
                      go_wp2_with fail
                      go_meet
                      case rel => exact ⟨rfl, _, _, _, _, HT6.out⟩
                  · have tn3 : (y.1 == 3) = false := by simpa using t3
                    clear t0 t1 t2 t3
                    have C1 := Lib.hid (hc.clears (HT4.out.drew hc).q y.2.2)
                    go_wp2_with fail
                    go_region_with (first
                      | (go_at_call 19; refine C1.out.mono ?_; rintro e W5 ⟨rfl, hq, hch⟩; have HT5 := Lib.hid ((HT4.out.drew hc).qstep hq hch); have C2 := Lib.hid (rqclr_any bx a0 _ L y.2.2 W5 HT5.out.x HLL2.out); clear hq hch o0 o1 o2 o3 o4 o5 o6; obtain ⟨o0, o1, o2, o3, o4, o5, o6⟩ := HT5.out.o; simp only [Nat.zero_add] at o0 o1 o2 o3 o4 o5 o6)
                      | (go_at_call 20; refine C2.out.mono ?_; rintro e W6 ⟨rfl, hch, v9, hx, hv⟩; obtain ⟨av9, cv9, rfl⟩ := hx.own.form; have HT6 := Lib.hid (HT5.out.xstep hc hch hx hv); clear hch hx hv; clear o0 o1 o2 o3 o4 o5 o6))
                    all_goals
                      go_wp2_with fail
                      go_meet
                      case rel => exact ⟨rfl, _, _, _, _, HT6.out⟩
          case rest =>
            obtain ⟨rfl, L2, a2, n2, c2, ht⟩ := hcut
            have HT := Lib.hid ht
            clear ht
            obtain ⟨c0, c1, cf⟩ := HT.out.x.cells
            have C3 := Lib.hid (hc.alls (HT.out.drew hc).q)
            have HL2 : Hid ((L2).length ≤ 3000) := by show _ ≤ _; have := (HT.out.q.len hc); omega
            go_wp2_with fail
            try go_simp
            go_region_with (first
              | (go_at_call 22; refine C3.out.mono ?_; rintro e W8 ⟨⟨aa, ca, rfl, ho, hq⟩, hch⟩; have HX8 := Lib.hid ((HT.out.drew hc).x.chg hch (fun k hk => off_no (.inl hk))); have HO8 := Lib.hid ho; have HQ8 := Lib.hid (hq.less (K' := QF bx _) (fun k hk => .inl (.inl hk))); have C4 := Lib.hid (rsameK_any _ _ _ _ W8 ho.ks HX8.out.own.ks HL2.out); clear ho hq hch c0 c1 cf; obtain ⟨c0, c1, cf⟩ := HX8.out.cells)
              | (go_at_call 21; refine C4.out.mono ?_; rintro e Wf ⟨⟨qf, rfl, hqf⟩, hbf⟩; obtain rfl : qf = true := hqf.2 (by first | rfl | trivial); have HX9 := Lib.hid (HX8.out.below hbf); have HQ9 := Lib.hid (HQ8.out.under hc hbf); clear hbf hqf c0 c1 cf))
            all_goals
              go_wp2_with fail
              go_roundw
              case rel => exact ⟨k + 1, _, _, _, _, by omega, by go_num, HQ9.out, HX9.out⟩
              case measure => simp [intOf]; omega
        · obtain rfl : k = z1.length := by omega
          have C9 := Lib.hid (awake10 hc wr)
          go_wp2_with fail
          refine C9.out.mono ?_
          rintro e W9 ⟨rfl, hb⟩
          have HB9 := Lib.hid (HQR.out.bel.trans (hb.mono HQR.out.bel.size))
          clear hb C9
          go_wp2_with fail
          go_ret
          exact ⟨rfl, HB9.out⟩
    · have hmm : (a0 < 1) ∨ (64 < a0) := by omega
      have C1 := Lib.hid (hc.new_no hm w)
      go_wp2_with fail
      refine C1.out.mono ?_
      rintro e W1 ⟨rfl, hb⟩
      have HB := Lib.hid hb
      clear hb C1 hm
      by_cases h1 : a0 < 1
      · have hd1 : decide (a0 < 1) = true := decide_eq_true h1
        clear h1 hmm
        have C9 := Lib.hid (awake10 hc W1)
        go_wp2_with fail
        refine C9.out.mono ?_
        rintro e W9 ⟨rfl, hb⟩
        have HB9 := Lib.hid (HB.out.trans (hb.mono HB.out.size))
        clear hb C9
        go_wp2_with fail
        go_ret
        exact ⟨rfl, HB9.out⟩
      · have hd1 : decide (a0 < 1) = false := decide_eq_false h1
        have hd2 : decide (64 < a0) = true := decide_eq_true (by omega)
        clear h1 hmm
        have C9 := Lib.hid (awake10 hc W1)
        go_wp2_with fail
        refine C9.out.mono ?_
        rintro e W9 ⟨rfl, hb⟩
        have HB9 := Lib.hid (HB.out.trans (hb.mono HB.out.size))
        clear hb C9
        go_wp2_with fail
        go_ret
        exact ⟨rfl, HB9.out⟩

set_option maxRecDepth 100000 in
theorem lifted (os : _root_.Go.Os) (started : os.Started) (H : Type) (enc : TypeId × Value → H) :
    ReturnsInHanded {} Try.checked os 3 .any (Rows.queueDoesSpec.pre6 enc Try.prog Try.f3 Rows.queueDoesRow.domain false) (Rows.queueDoesSpec.post enc Try.prog Try.f3 false true false false) := by
  refine returnsInHanded_of_change (C := Try.checked) own started (by kernel_rfl) Try.func3
    (ChangeSpec.witness6 (enc := enc) (C := Try.checked) false ⟨#[], #[.int .i64 0, .slice none 0 0], []⟩ 16 (by kernel_rfl) (by kernel_rfl) (by kernel_rfl) (by kernel_rfl)) ?_
  intro W base args ds gs before hval0 hW hcnd _
  have hval : ∀ (j : Nat) t v, Try.f3.params[j]? = some t → args[j]? = some v → Value.okWide Try.prog W .any base t v := hval0
  have hW' := hW
  obtain ⟨p, q, hA0, hV, rfl, hfz, hnd⟩ := hW
  have hA : DataW.TrodAll enc Try.prog W 0 (fun _ => true) true Try.f3.params.toList args.toList ds p := hA0
  rw [Try.params3] at hA hval
  obtain ⟨v0, vs0, e0, ds0, p0, q0, hargs, rfl, rfl, h0, x0⟩ := trodAll_cons hA
  obtain ⟨v1, vs1, e1, ds1, p1, q1, rfl, rfl, rfl, h1, x1⟩ := trodAll_cons x0
  obtain ⟨rfl, rfl, rfl⟩ := trodAll_nil x1
  obtain rfl : args = #[v0, v1] := by cases args; simp_all
  obtain ⟨rfl, rfl⟩ := trodVars_none hV
  have k0 := h0
  have lt0 : ∀ x ∈ p0, x.block < W.heap.size := by obtain ⟨m, hm⟩ := k0; exact DataW.trod_lt m _ _ _ hm
  obtain ⟨a0, rfl, _, _, w0⟩ := open_int Try.underlying3 (hval 0 3 v0 rfl rfl) h0
  have k1 := h1
  have lt1 : ∀ x ∈ p1, x.block < W.heap.size := by obtain ⟨m, hm⟩ := k1; exact DataW.trod_lt m _ _ _ hm
  obtain ⟨a1, len1, cap1, rfl⟩ := okWide_slice underOPS (hval 1 22 v1 rfl rfl)
  obtain ⟨z1, hz1, w1⟩ := sc_form h1
  subst hz1
  clear hA0 hval0
  refine (walk qc a0 (i64_wf w0) a1 cap1 z1 W w1).mono fun e W' ⟨he, bel⟩ => ?_
  subst he
  exact ⟨_, rfl, _, _, _, [], _, [], hW', trodAll_mk1 (shut_bool Try.underlying4 _), (trodAll_cons_mk (Below.trod laidOut (by kernel_rfl) (of_decide_eq_true (by kernel_rfl)) k0 bel lt0) (trodAll_cons_mk (Below.trod laidOut (by kernel_rfl) (of_decide_eq_true (by kernel_rfl)) k1 bel lt1) trodAll_mk0)), rfl, bel.frame _, fun h => by cases h⟩

theorem over : Rows.queueDoesRow.holds Try.pinned (OpenSpec.ofChange Rows.queueDoesSpec) :=
  OpenClaim.holds_of_wide 3 Try.f3 rfl rfl rfl rfl rfl rfl rfl ⟨rfl, rfl, rfl, rfl, rfl⟩ rfl rfl rfl rfl rfl (by kernel_rfl) Try.func3 (by kernel_rfl)
    (of_decide_eq_true (by kernel_rfl)) (by unfold Func.isWrapper; first | (rw [if_pos (by decide +kernel)]; kernel_rfl) | (rw [if_neg (by decide +kernel)]; exact ⟨rfl, rfl⟩))
    (fun os started H enc _ => lifted os started H enc)

theorem proved : Rows.QueueDoesSaid := over
#print axioms proved
end Go.Proofs.Ytgcjmnjepnmaeaa.queueDoes
