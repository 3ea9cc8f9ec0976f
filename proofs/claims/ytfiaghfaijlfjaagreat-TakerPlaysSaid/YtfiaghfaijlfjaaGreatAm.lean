/- Variables of an ack; what came as an ack: the reference's Of. No conditions but on lengths. Mathematics of masks: which bits what came has; what an ack has. No conditions beyond those of the theorems. Bits by shifts, by '&', by '|': as quotients of powers of two. No conditions but bounds. The program's small functions: what is two bytes long, which acks are right, which bit tells of a number, which number is ahead. No conditions. What an ack has: the program's Has. No conditions but those stated. What came as an ack: the program's Of. No conditions but on lengths. -/
import Derived.Test.YtfiaghfaijlfjaaGreatAkp
import Derived.Test.YtfiaghfaijlfjaaGreatZin
import Derived.Test.YtfiaghfaijlfjaaGreatTyp4
import Derived.Test.YtfiaghfaijlfjaaGreatTyp2
import Derived.Laws.BitsLemmas
namespace Go.Proofs.YtfiaghfaijlfjaaGreat
set_option maxRecDepth 100000
open Go.RowKit

/-- A variable of an ack. -/
def OwnA (w : World) (b : Nat) (y : Int × Int × Int × Int) : Prop := (w.cell? ⟨b, 0, none⟩ = some (.int .i64 y.1) ∧ w.cell? ⟨b, 1, none⟩ = some (.int .i64 y.2.1) ∧ w.cell? ⟨b, 2, none⟩ = some (.int .i64 y.2.2.1) ∧ w.cell? ⟨b, 3, none⟩ = some (.int .i64 y.2.2.2)) ∧ ∀ j, w.frozen? ⟨b, j, none⟩ = false
theorem owna_alloc (w : World) (i p x m : Int) (T : TypeId) (g : Nat) (hg : g = w.heap.size) : OwnA (w.alloc (.cells #[.int .i64 i, .int .i64 p, .int .i64 x, .int .i64 m] T)) g (i, p, x, m) := by
  subst hg
  refine ⟨⟨by simp, by simp, by simp, by simp⟩, fun j => by simp⟩
theorem OwnA.lt {w : World} {b : Nat} {y : Int × Int × Int × Int} (h : OwnA w b y) : b < w.heap.size := World.block_lt_of_cell? w _ h.1.1
theorem OwnA.low {w w' : World} {b S : Nat} {y : Int × Int × Int × Int} (h : OwnA w b y) (hb : b < S) (hB : Below S w w') : OwnA w' b y :=
  ⟨⟨(hB.cell (p := ⟨b, 0, none⟩) hb).trans h.1.1, (hB.cell (p := ⟨b, 1, none⟩) hb).trans h.1.2.1, (hB.cell (p := ⟨b, 2, none⟩) hb).trans h.1.2.2.1, (hB.cell (p := ⟨b, 3, none⟩) hb).trans h.1.2.2.2⟩, fun j => (hB.frozen (p := ⟨b, j, none⟩) hb).trans (h.2 j)⟩
theorem OwnA.below {w w' : World} {b : Nat} {y : Int × Int × Int × Int} (h : OwnA w b y) (hb : Below w.heap.size w w') : OwnA w' b y := h.low h.lt hb
/-- Whether a number came that is k + 1 behind. -/
def hit (x : Int) (cs : List Int) (k : Nat) : Bool := cs.any fun c => far x c == (k : Int) + 1
/-- The mask of what came. -/
def mk (x : Int) (cs : List Int) : Nat → Int
  | 0 => 0
  | k + 1 => mk x cs k + if hit x cs k then pow2 k else 0
theorem mk_bd (x : Int) (cs : List Int) (k : Nat) : 0 ≤ mk x cs k ∧ mk x cs k < pow2 k := by
  induction k with
  | zero => exact ⟨Int.le_refl _, Int.zero_lt_one⟩
  | succ k ih =>
    have := pow2_pos k
    simp only [mk, pow2]
    split <;> omega
theorem OwnA.set3 {w : World} {b : Nat} {i p x m : Int} (h : OwnA w b (i, p, x, m)) (m' : Int) : OwnA (w.setCell ⟨b, 3, none⟩ (.int .i64 m')) b (i, p, x, m') := by
  obtain ⟨⟨h0, h1, h2, h3⟩, hf⟩ := h
  refine ⟨⟨?_, ?_, ?_, ?_⟩, fun j => ?_⟩ <;> simp [go_sem, hf, h0, h1, h2, h3]
theorem OwnA.apart {w : World} {b b' : Nat} {y : Int × Int × Int × Int} {u : Value} (h : OwnA w b y) (hb : b ≠ b') (j : Nat) : OwnA (w.setCell ⟨b', j, none⟩ u) b y := by
  have e : ∀ i, (w.setCell ⟨b', j, none⟩ u).cell? ⟨b, i, none⟩ = w.cell? ⟨b, i, none⟩ := fun i => World.cell?_of_block (Below.heap_setCell w ⟨b', j, none⟩ u b hb)
  have f : ∀ i, (w.setCell ⟨b', j, none⟩ u).frozen? ⟨b, i, none⟩ = w.frozen? ⟨b, i, none⟩ := fun i => World.frozen?_of_block (Below.heap_setCell w ⟨b', j, none⟩ u b hb)
  exact ⟨⟨(e 0).trans h.1.1, (e 1).trans h.1.2.1, (e 2).trans h.1.2.2.1, (e 3).trans h.1.2.2.2⟩, fun i => (f i).trans (h.2 i)⟩
/-- An ack laid into a variable. -/
def put4 (w : World) (b : Nat) (i p x m : Int) : World := (((w.setCell ⟨b, 0, none⟩ (.int .i64 i)).setCell ⟨b, 1, none⟩ (.int .i64 p)).setCell ⟨b, 2, none⟩ (.int .i64 x)).setCell ⟨b, 3, none⟩ (.int .i64 m)
theorem OwnA.set {w : World} {b : Nat} {y : Int × Int × Int × Int} (h : OwnA w b y) (i p x m : Int) : OwnA (put4 w b i p x m) b (i, p, x, m) := by
  obtain ⟨⟨h0, h1, h2, h3⟩, hf⟩ := h
  unfold put4
  refine ⟨⟨?_, ?_, ?_, ?_⟩, fun j => ?_⟩ <;> simp [go_sem, hf, h0, h1, h2, h3]
theorem bel_put4 {B : Nat} {u w : World} {b : Nat} (h : Below B u w) (hB : B ≤ b) (i p x m : Int) : Below B u (put4 w b i p x m) :=
  (((h.setCell (p := ⟨b, 0, none⟩) hB _).setCell (p := ⟨b, 1, none⟩) hB _).setCell (p := ⟨b, 2, none⟩) hB _).setCell (p := ⟨b, 3, none⟩) hB _
theorem hit_take {x : Int} {cs : List Int} {k j : Nat} (hj : j < cs.length) : (cs.take (j + 1)).any (fun c => far x c == (k : Int) + 1) = ((cs.take j).any (fun c => far x c == (k : Int) + 1) || far x (cs.getD j 0) == (k : Int) + 1) := by
  rw [List.take_succ_eq_append_getElem hj, List.any_append]
  simp [List.getD, hj]
set_option maxHeartbeats 32000000 in
theorem rof_ok (x : Int) (v : Value) (cs : List Int) (w : World) (hx : 0 ≤ x ∧ x ≤ 65535) (hv : Zs w v cs) (hl : cs.length ≤ 1000) :
    Calls Tryz.prog 32 #[.int .i64 x, v] w fun e w' => e = .returned (.tuple #[.agg #[.int .i64 0, .int .i64 0, .int .i64 x, .int .i64 (mk x cs 16)], .int .i64 0]) ∧ Below w.heap.size w w' := by
  have HV := Lib.hid hv
  obtain ⟨a, c, rfl, -, -, -⟩ := Zs_open hv
  clear hv
  have hx0 : decide (x < 0) = false := decide_eq_false (by omega)
  have hx1 : decide (x > 65535) = false := decide_eq_false (by omega)
  go_enter Tryz.func32, Tryz.ntmps32
  go_wp2_with fail
  obtain ⟨V, hVe⟩ : ∃ V, (w.alloc (.cells #[.int .i64 0, .int .i64 0, .int .i64 0, .int .i64 0] 37)).alloc (.cells #[.int .i64 0, .int .i64 0, .int .i64 x, .int .i64 0] 37) = V := ⟨_, rfl⟩
  have hs1 : (w.alloc (.cells #[.int .i64 0, .int .i64 0, .int .i64 0, .int .i64 0] 37)).heap.size = w.heap.size + 1 := by simp
  have hb1 : Below w.heap.size w (w.alloc (.cells #[.int .i64 0, .int .i64 0, .int .i64 0, .int .i64 0] 37)) := (Below.refl _ w).alloc (Nat.le_refl _) _
  have OA := owna_alloc (w.alloc (.cells #[.int .i64 0, .int .i64 0, .int .i64 0, .int .i64 0] 37)) 0 0 x 0 37 (w.heap.size + 1) hs1.symm
  have OR := (owna_alloc w 0 0 0 0 37 w.heap.size rfl).below ((Below.refl _ _).alloc (Nat.le_refl _) (.cells #[.int .i64 0, .int .i64 0, .int .i64 x, .int .i64 0] 37))
  have HB : Below w.heap.size w ((w.alloc (.cells #[.int .i64 0, .int .i64 0, .int .i64 0, .int .i64 0] 37)).alloc (.cells #[.int .i64 0, .int .i64 0, .int .i64 x, .int .i64 0] 37)) := hb1.alloc (by omega) _
  rw [hVe] at OA OR HB
  rw [hVe]
  clear hVe hs1 hb1 hx0 hx1
  have OA0 := Lib.hid OA
  have OR0 := Lib.hid OR
  have HB0 := Lib.hid HB
  clear OA OR HB
  go_loopw [7] (fun i wr => ∃ k : Nat, k ≤ 16 ∧ i = .int .i64 ((k : Int) + 1) ∧ OwnA wr (w.heap.size + 1) (0, 0, x, mk x cs k) ∧ OwnA wr w.heap.size (0, 0, 0, 0) ∧ Below w.heap.size w wr) (fun i _ => 17 - (intOf i).toNat)
  case atStart => exact ⟨0, Nat.zero_le _, rfl, OA0.out, OR0.out, HB0.out⟩
  case round =>
    obtain ⟨k, hk, rfl, oa, or, hbel⟩ := hrel
    have OA := Lib.hid oa
    have OR := Lib.hid or
    have HW := Lib.hid hbel
    clear oa or hbel OA0 OR0 HB0
    by_cases hlt : k < 16
    · have g : (k : Int) + 1 ≤ 16 := by omega
      have HZ := Lib.hid (Zs_below HV.out HW.out)
      go_wp2_with fail
      obtain ⟨wo, hwo⟩ : ∃ wo, wo = wr := ⟨_, rfl⟩
      subst hwo
      go_loop [8, 9] (fun d i => ∃ j : Nat, j ≤ cs.length ∧ i = .int .i64 j ∧ d = .bool ((cs.take j).any fun c => far x c == (k : Int) + 1)) (fun _ i => cs.length - (intOf i).toNat)
      case atStart => exact ⟨0, Nat.zero_le _, rfl, rfl⟩
      case round =>
        obtain ⟨j, hj, rfl, rfl⟩ := hrel
        by_cases hlj : j < cs.length
        · have HT := Lib.hid (hit_take (x := x) (k := k) hlj)
          obtain ⟨a', c', hv1, -, -, hcs⟩ := Zs_open HZ.out
          simp only [Value.slice.injEq] at hv1
          obtain ⟨rfl, -, rfl⟩ := hv1
          obtain ⟨b, off, rfl, p0⟩ := hcs j hlj
          clear hcs
          obtain ⟨y, hy⟩ : ∃ y, cs.getD j 0 = y := ⟨_, rfl⟩
          rw [hy] at p0
          have HT' : Hid ((cs.take (j + 1)).any (fun c => far x c == (k : Int) + 1) = ((cs.take j).any (fun c => far x c == (k : Int) + 1) || far x y == (k : Int) + 1)) := by rw [← hy]; exact HT.out
          clear HT hy
          have cF := fun W => rfar_any x y W
          generalize (cs.take j).any (fun c => far x c == (k : Int) + 1) = D at *
          generalize far x y = f at *
          cases D with
          | true =>
            go_wp2_with fail
            go_round
            case rel => exact ⟨j + 1, by omega, by go_num, by rw [HT'.out]; rfl⟩
            case measure => simp [intOf]; omega
          | false =>
            go_wp2_with fail
            refine (cF _).mono ?_
            rintro e w2 ⟨rfl, hw⟩
            subst hw
            go_wp2_with fail
            go_round
            case rel => exact ⟨j + 1, by omega, by go_num, by rw [HT'.out]; rfl⟩
            case measure => simp [intOf]; omega
        · obtain rfl : j = cs.length := by omega
          have hh : (cs.take cs.length).any (fun c => far x c == (k : Int) + 1) = hit x cs k := by rw [List.take_length]; rfl
          rw [hh]
          clear hh
          obtain ⟨h, hh⟩ : ∃ h, hit x cs k = h := ⟨_, rfl⟩
          rw [hh]
          have HM : Hid (mk x cs (k + 1) = mk x cs k + if h then pow2 k else 0) := by show mk x cs (k + 1) = _; rw [← hh]; rfl
          have hb0 := mk_bd x cs k
          have hb1 := mk_bd x cs (k + 1)
          have hb2 := pow2_small (n := k + 1) (by omega)
          clear hh
          cases h with
          | false =>
            go_wp2_with fail
            go_roundw
            case rel => exact ⟨k + 1, by omega, by go_num, by rw [HM.out]; simpa using OA.out, OR.out, HW.out⟩
            case measure => simp [intOf]; omega
          | true =>
            go_wp2_with fail
            have cP := fun w => rpow2_any k w (by omega)
            have hkw : IntKind.i64.wrap (k : Int) = k := by rw [IntKind.wrap_i64]; omega
            obtain ⟨P, hP⟩ : ∃ P, pow2 k = P := ⟨_, rfl⟩
            obtain ⟨m, hm⟩ : ∃ m, mk x cs k = m := ⟨_, rfl⟩
            rw [hP] at cP HM
            have HM1 := HM.out
            rw [if_pos trivial] at HM1
            rw [HM1] at hb1
            rw [hm] at HM1 OA hb0 hb1
            have hsw : IntKind.i64.wrap (m + P) = m + P := by rw [IntKind.wrap_i64]; omega
            have HM2 := Lib.hid HM1
            clear HM1 HM
            have kc : ∀ w', Below wo.heap.size wo w' → w'.cell? ⟨w.heap.size + 1, 3, none⟩ = some (.int .i64 m) := fun w' h => (OA.out.below h).1.2.2.2
            refine T3.wp_region_tail (C := fun w' => Below wo.heap.size wo w') (X := fun _ w w' => Below w.heap.size w w') (n := 49) 7 (by kernel_rfl) (by kernel_rfl) (by kernel_rfl) (by kernel_rfl) rfl (fun _ w => Below.refl _ w) (Below.refl _ _).drew ?_
            simp only [List.take_succ_cons, List.take_zero, List.drop_succ_cons, List.drop_zero]
            refine T3.w_is (fun _ w => Below.refl _ w) rfl _ (.inl rfl) (fun ρ w hC hc hfn hf => by have e6 : ρ (.tmp 6) = _ := hf 6 (by decide); (conv => lhs; simp [execOp, go_sem, hc, e6])) ?_
            refine T3.w_is (fun _ w => Below.refl _ w) rfl _ (.inl rfl) (fun ρ w hC hc hfn hf => by have e41 : ρ (.tmp 41) = _ := hf 41 (by decide); (conv => lhs; simp [execOp, go_sem, hc, e41, kc w hC])) ?_
            refine T3.w_is (fun _ w => Below.refl _ w) rfl _ (.inl rfl) (fun ρ w hC hc hfn hf => by have e7 : ρ (.tmp 7) = _ := hf 7 (by decide); (conv => lhs; simp [execOp, go_sem, hc, e7])) ?_
            refine T3.w_is (fun _ w => Below.refl _ w) rfl _ (.inl rfl) (fun ρ w hC hc hfn hf => by have e43 : ρ (.tmp 43) = _ := hf 43 (by decide); (conv => lhs; simp [execOp, go_sem, hc, e43, hkw])) ?_
            refine T3.w_call rfl (Is _) (fun _ _ _ _ _ h _ => h) 57 (.inl rfl) (fun ρ w hC hc hfn hf => by have e44 : ρ (.tmp 44) = _ := hf 44 (by decide); exact ⟨_, by (conv => lhs; simp [execOp, resolve, invoke, go_sem, hc, hfn, e44]), (cP w).mono fun e w' h => ⟨_, h.1, h.2 ▸ hC, h.2 ▸ Below.refl _ _, rfl⟩⟩) ?_
            refine T3.w_is (fun _ w => Below.refl _ w) rfl _ (.inl rfl) (fun ρ w hC hc hfn hf => by have e42 : ρ (.tmp 42) = _ := hf 42 (by decide); have e45 : ρ (.tmp 45) = _ := hf 45 (by decide); (conv => lhs; simp [execOp, go_sem, hc, e42, e45, hsw])) ?_
            refine T3.w_is (fun _ w => Below.refl _ w) rfl _ (.inl rfl) (fun ρ w hC hc hfn hf => by have e6 : ρ (.tmp 6) = _ := hf 6 (by decide); (conv => lhs; simp [execOp, go_sem, hc, e6])) ?_
            intro A V5 hC hn hd hf
            have y0 : A.eval (.tmp 0) = _ := Eq.trans (hf 0) (by conv => lhs; simp [go_sem])
            have y1 : A.eval (.tmp 1) = _ := Eq.trans (hf 1) (by conv => lhs; simp [go_sem])
            have y2 : A.eval (.tmp 2) = _ := Eq.trans (hf 2) (by conv => lhs; simp [go_sem])
            have y3 : A.eval (.tmp 3) = _ := Eq.trans (hf 3) (by conv => lhs; simp [go_sem])
            have y4 : A.eval (.tmp 4) = _ := Eq.trans (hf 4) (by conv => lhs; simp [go_sem])
            have y5 : A.eval (.tmp 5) = _ := Eq.trans (hf 5) (by conv => lhs; simp [go_sem])
            have y6 : A.eval (.tmp 6) = _ := Eq.trans (hf 6) (by conv => lhs; simp [go_sem])
            have y7 : A.eval (.tmp 7) = _ := Eq.trans (hf 7) (by conv => lhs; simp [go_sem])
            have y8 : A.eval (.tmp 8) = _ := Eq.trans (hf 8) (by conv => lhs; simp [go_sem])
            have y9 : A.eval (.tmp 9) = _ := Eq.trans (hf 9) (by conv => lhs; simp [go_sem])
            have y10 : A.eval (.tmp 10) = _ := Eq.trans (hf 10) (by conv => lhs; simp [go_sem])
            have y11 : A.eval (.tmp 11) = _ := Eq.trans (hf 11) (by conv => lhs; simp [go_sem])
            have y12 : A.eval (.tmp 12) = _ := Eq.trans (hf 12) (by conv => lhs; simp [go_sem])
            have y13 : A.eval (.tmp 13) = _ := Eq.trans (hf 13) (by conv => lhs; simp [go_sem])
            have y14 : A.eval (.tmp 14) = _ := Eq.trans (hf 14) (by conv => lhs; simp [go_sem])
            have y15 : A.eval (.tmp 15) = _ := Eq.trans (hf 15) (by conv => lhs; simp [go_sem])
            have y16 : A.eval (.tmp 16) = _ := Eq.trans (hf 16) (by conv => lhs; simp [go_sem])
            have y17 : A.eval (.tmp 17) = _ := Eq.trans (hf 17) (by conv => lhs; simp [go_sem])
            have y18 : A.eval (.tmp 18) = _ := Eq.trans (hf 18) (by conv => lhs; simp [go_sem])
            have y19 : A.eval (.tmp 19) = _ := Eq.trans (hf 19) (by conv => lhs; simp [go_sem])
            have y20 : A.eval (.tmp 20) = _ := Eq.trans (hf 20) (by conv => lhs; simp [go_sem])
            have y21 : A.eval (.tmp 21) = _ := Eq.trans (hf 21) (by conv => lhs; simp [go_sem])
            have y22 : A.eval (.tmp 22) = _ := Eq.trans (hf 22) (by conv => lhs; simp [go_sem])
            have y23 : A.eval (.tmp 23) = _ := Eq.trans (hf 23) (by conv => lhs; simp [go_sem])
            have y24 : A.eval (.tmp 24) = _ := Eq.trans (hf 24) (by conv => lhs; simp [go_sem])
            have y25 : A.eval (.tmp 25) = _ := Eq.trans (hf 25) (by conv => lhs; simp [go_sem])
            have y26 : A.eval (.tmp 26) = _ := Eq.trans (hf 26) (by conv => lhs; simp [go_sem])
            have y27 : A.eval (.tmp 27) = _ := Eq.trans (hf 27) (by conv => lhs; simp [go_sem])
            have y28 : A.eval (.tmp 28) = _ := Eq.trans (hf 28) (by conv => lhs; simp [go_sem])
            have y29 : A.eval (.tmp 29) = _ := Eq.trans (hf 29) (by conv => lhs; simp [go_sem])
            have y30 : A.eval (.tmp 30) = _ := Eq.trans (hf 30) (by conv => lhs; simp [go_sem])
            have y31 : A.eval (.tmp 31) = _ := Eq.trans (hf 31) (by conv => lhs; simp [go_sem])
            have y32 : A.eval (.tmp 32) = _ := Eq.trans (hf 32) (by conv => lhs; simp [go_sem])
            have y33 : A.eval (.tmp 33) = _ := Eq.trans (hf 33) (by conv => lhs; simp [go_sem])
            have y34 : A.eval (.tmp 34) = _ := Eq.trans (hf 34) (by conv => lhs; simp [go_sem])
            have y35 : A.eval (.tmp 35) = _ := Eq.trans (hf 35) (by conv => lhs; simp [go_sem])
            have y36 : A.eval (.tmp 36) = _ := Eq.trans (hf 36) (by conv => lhs; simp [go_sem])
            have y37 : A.eval (.tmp 37) = _ := Eq.trans (hf 37) (by conv => lhs; simp [go_sem])
            have y38 : A.eval (.tmp 38) = _ := Eq.trans (hf 38) (by conv => lhs; simp [go_sem])
            have y39 : A.eval (.tmp 39) = _ := Eq.trans (hf 39) (by conv => lhs; simp [go_sem])
            have y40 : A.eval (.tmp 40) = _ := Eq.trans (hf 40) (by conv => lhs; simp [go_sem])
            have y41 : A.eval (.tmp 41) = _ := hf 41
            have y42 : A.eval (.tmp 42) = _ := hf 42
            have y43 : A.eval (.tmp 43) = _ := hf 43
            have y44 : A.eval (.tmp 44) = _ := hf 44
            have y45 : A.eval (.tmp 45) = _ := hf 45
            have y46 : A.eval (.tmp 46) = _ := hf 46
            have y47 : A.eval (.tmp 47) = _ := hf 47
            have y48 : A.eval (.tmp 48) = _ := Eq.trans (hf 48) (by conv => lhs; simp [go_sem])
            clear hf
            have hA := frame_eq hn
            rw [show List.range 49 = [0, 1, 2, 3, 4, 5, 6, 7, 8, 9, 10, 11, 12, 13, 14, 15, 16, 17, 18, 19, 20, 21, 22, 23, 24, 25, 26, 27, 28, 29, 30, 31, 32, 33, 34, 35, 36, 37, 38, 39, 40, 41, 42, 43, 44, 45, 46, 47, 48] from rfl, hd] at hA
            simp only [List.map_cons, List.map_nil, y0, y1, y2, y3, y4, y5, y6, y7, y8, y9, y10, y11, y12, y13, y14, y15, y16, y17, y18, y19, y20, y21, y22, y23, y24, y25, y26, y27, y28, y29, y30, y31, y32, y33, y34, y35, y36, y37, y38, y39, y40, y41, y42, y43, y44, y45, y46, y47, y48] at hA
            clear y0 y1 y2 y3 y4 y5 y6 y7 y8 y9 y10 y11 y12 y13 y14 y15 y16 y17 y18 y19 y20 y21 y22 y23 y24 y25 y26 y27 y28 y29 y30 y31 y32 y33 y34 y35 y36 y37 y38 y39 y40 y41 y42 y43 y44 y45 y46 y47 y48
            clear hn hd
            subst hA
            have OA1 := Lib.hid (OA.out.below hC)
            have OR1 := Lib.hid (OR.out.below hC)
            have HW1 : Hid (Below w.heap.size w V5) := HW.out.trans (hC.mono HW.out.size)
            obtain ⟨⟨z0, z1, z2, z3⟩, zf⟩ := OA1.out
            go_wp2_with fail
            go_roundw
            case rel => exact ⟨k + 1, by omega, by go_num, by rw [HM2.out]; exact OA1.out.set3 _, OR1.out.apart (by omega) 3, HW1.out.setCell (p := ⟨_, _, _⟩) (by simp) _⟩
            case measure => simp [intOf]; omega
    · obtain rfl : k = 16 := by omega
      obtain ⟨⟨z0, z1, z2, z3⟩, zf⟩ := OR.out
      obtain ⟨⟨y0, y1, y2, y3⟩, yf⟩ := OA.out
      go_wp2_with fail
      have hs := (OR.out.set 0 0 x (mk x cs 16)).1
      have hbs := bel_put4 (b := w.heap.size) HW.out (Nat.le_refl _) 0 0 x (mk x cs 16)
      simp only [put4] at hs hbs
      generalize (((wr.setCell ⟨w.heap.size, 0, none⟩ (.int .i64 0)).setCell ⟨w.heap.size, 1, none⟩ (.int .i64 0)).setCell ⟨w.heap.size, 2, none⟩ (.int .i64 x)).setCell ⟨w.heap.size, 3, none⟩ (.int .i64 (mk x cs 16)) = W5 at *
      obtain ⟨s0_, s1_, s2_, s3_⟩ := hs
      exact bodyPost_ret (v := .tuple #[.agg #[.int .i64 0, .int .i64 0, .int .i64 x, .int .i64 (mk x cs 16)], .int .i64 0]) (by simp [results, Tryz.results32, go_sem, s0_, s1_, s2_, s3_]) rfl ⟨rfl, hbs⟩
theorem rof_no (x : Int) (v : Value) (w : World) (hx : ¬ (0 ≤ x ∧ x ≤ 65535)) :
    Calls Tryz.prog 32 #[.int .i64 x, v] w fun e w' => e = .returned (.tuple #[.agg #[.int .i64 0, .int .i64 0, .int .i64 0, .int .i64 0], .int .i64 1]) ∧ Below w.heap.size w w' := by
  have HB : Hid (Below w.heap.size w (w.alloc (.cells #[.int .i64 0, .int .i64 0, .int .i64 0, .int .i64 0] 37))) := (Below.refl _ w).alloc (Nat.le_refl _) _
  by_cases h0 : x < 0
  · go_enter Tryz.func32, Tryz.ntmps32
    go_wp2_with fail
    exact bodyPost_ret (v := .tuple #[.agg #[.int .i64 0, .int .i64 0, .int .i64 0, .int .i64 0], .int .i64 1]) (by simp [results, Tryz.results32, go_sem]) rfl ⟨rfl, HB.out⟩
  · have h1 : x > 65535 := by omega
    go_enter Tryz.func32, Tryz.ntmps32
    go_wp2_with fail
    exact bodyPost_ret (v := .tuple #[.agg #[.int .i64 0, .int .i64 0, .int .i64 0, .int .i64 0], .int .i64 1]) (by simp [results, Tryz.results32, go_sem]) rfl ⟨rfl, HB.out⟩
end Go.Proofs.YtfiaghfaijlfjaaGreat

namespace Go.Proofs.YtfiaghfaijlfjaaGreat
set_option maxRecDepth 100000

theorem pow2_split {j k : Nat} (h : j < k) : ∃ t : Int, pow2 k = pow2 j * (2 * t) := by
  induction k with
  | zero => omega
  | succ k ih =>
    rcases Nat.lt_or_ge j k with h' | h'
    · obtain ⟨t, ht⟩ := ih h'
      exact ⟨2 * t, by simp only [pow2]; rw [ht]; rw [← Int.mul_assoc 2, Int.mul_comm 2 (pow2 j), Int.mul_assoc]⟩
    · obtain rfl : j = k := by omega
      exact ⟨1, by simp only [pow2]; omega⟩
theorem bit_add {m p t : Int} (hp : 1 ≤ p) : (m + p * (2 * t)) / p % 2 = m / p % 2 := by
  rw [Int.add_mul_ediv_left _ _ (by omega)]
  omega
/-- The bits of a mask. -/
theorem mk_bit (x : Int) (cs : List Int) : ∀ (K j : Nat), j < K → (mk x cs K / pow2 j % 2 = 1 ↔ hit x cs j = true)
  | 0, j, h => by omega
  | K + 1, j, h => by
    have hp := pow2_pos j
    have hb := mk_bd x cs K
    rcases Nat.lt_or_ge j K with h' | h'
    · rw [← mk_bit x cs K j h', mk]
      obtain ⟨t, ht⟩ := pow2_split h'
      split
      · rw [ht, bit_add hp]
      · rw [Int.add_zero]
    · obtain rfl : j = K := by omega
      rw [mk]
      split
      · rename_i hh
        have e : (mk x cs j + pow2 j) / pow2 j = 1 := by
          have h1 := Int.add_mul_ediv_left (mk x cs j) 1 (show pow2 j ≠ 0 by omega)
          rw [Int.mul_one, Int.ediv_eq_zero_of_lt hb.1 hb.2] at h1
          omega
        rw [e]
        simp [hh]
      · rename_i hh
        rw [Int.add_zero, Int.ediv_eq_zero_of_lt hb.1 hb.2]
        simp [hh]
theorem hit_iff {x : Int} {cs : List Int} {k : Nat} : hit x cs k = true ↔ ∃ c, c ∈ cs ∧ far x c = (k : Int) + 1 := by
  unfold hit
  rw [List.any_eq_true]
  constructor
  · rintro ⟨c, h1, h2⟩
    exact ⟨c, h1, by simpa using h2⟩
  · rintro ⟨c, h1, h2⟩
    exact ⟨c, h1, by simpa using h2⟩
/-- What an ack of what came has. -/
theorem has_iff {x n : Int} {cs : List Int} : hasN x (mk x cs 16) n = true ↔ (1 ≤ far n x ∧ far n x ≤ 32768) ∨ ((1 ≤ far x n ∧ far x n ≤ 16) ∧ ∃ c, c ∈ cs ∧ far x c = far x n) := by
  unfold hasN hasE
  simp only [Bool.or_eq_true, Bool.and_eq_true, decide_eq_true_eq]
  constructor
  · rintro (h | ⟨⟨h1, h2⟩, h3⟩)
    · exact .inl h
    · refine .inr ⟨⟨h1, h2⟩, ?_⟩
      have h4 := (mk_bit x cs 16 (far x n - 1).toNat (by omega)).1 h3
      obtain ⟨c, hc, he⟩ := hit_iff.1 h4
      exact ⟨c, hc, by omega⟩
  · rintro (h | ⟨⟨h1, h2⟩, c, hc, he⟩)
    · exact .inl h
    · exact .inr ⟨⟨h1, h2⟩, (mk_bit x cs 16 (far x n - 1).toNat (by omega)).2 (hit_iff.2 ⟨c, hc, by omega⟩)⟩
theorem mk_16 (x : Int) (cs : List Int) : 0 ≤ mk x cs 16 ∧ mk x cs 16 ≤ 65535 := by
  have h := mk_bd x cs 16
  rw [pow2_16] at h
  omega
end Go.Proofs.YtfiaghfaijlfjaaGreat

namespace Go.Proofs.YtfiaghfaijlfjaaGreat
set_option maxRecDepth 100000
open Go.RowKit

theorem pow2_eq (n : Nat) : pow2 n = ((2 ^ n : Nat) : Int) := by
  induction n with
  | zero => rfl
  | succ n ih => rw [pow2, ih, Nat.pow_succ]; push_cast; omega
theorem pow2_eq' (n : Nat) : pow2 n = (2 : Int) ^ n := by rw [pow2_eq]; push_cast; rfl
theorem wr62 (n : Int) (h₀ : 0 ≤ n) (h₁ : n < 2 ^ 62) : IntKind.i64.wrap n = n := by rw [IntKind.wrap_i64]; omega
theorem and_pow (a j : Nat) : a &&& 2 ^ j = if a.testBit j then 2 ^ j else 0 := by
  apply Nat.eq_of_testBit_eq
  intro i
  rw [Nat.testBit_and, Nat.testBit_two_pow]
  by_cases h : j = i
  · subst h
    cases ha : a.testBit j <;> simp
  · split <;> simp [h]
theorem and_bit {m : Int} {j : Nat} (h0 : 0 ≤ m) (h1 : m ≤ 65535) (hj : j ≤ 16) : bits .and .i64 m (pow2 j) = if m / pow2 j % 2 = 1 then pow2 j else 0 := by
  obtain ⟨a, rfl⟩ := Int.eq_ofNat_of_zero_le h0
  have hp := pow2_small hj
  rw [pow2_eq] at hp ⊢
  have hb : 2 ^ j < 2 ^ 62 := by have : (2 : Nat) ^ 62 = 4611686018427387904 := by decide
                                 omega
  have ha : a < 2 ^ 62 := by have : (2 : Nat) ^ 62 = 4611686018427387904 := by decide
                             omega
  rw [(bits_nat .i64 62 (by decide) wr62 a (2 ^ j) ha hb).1, and_pow, Nat.testBit_eq_decide_div_mod_eq]
  by_cases h : a / 2 ^ j % 2 = 1
  · have h' : ((a : Int) / ((2 ^ j : Nat) : Int)) % 2 = 1 := by exact_mod_cast h
    rw [if_pos h']
    simp [h]
  · have h' : ¬ ((a : Int) / ((2 ^ j : Nat) : Int)) % 2 = 1 := fun e => h (by exact_mod_cast e)
    rw [if_neg h']
    simp [h]
end Go.Proofs.YtfiaghfaijlfjaaGreat

namespace Go.Proofs.YtfiaghfaijlfjaaGreat
set_option maxRecDepth 100000
open Go.RowKit

def shB (n : Int) : Bool := decide (0 ≤ n) && decide (n ≤ 65535)
theorem akshort_any (n : Int) (w : World) : Calls Tryz.prog 55 #[.int .i64 n] w fun e w' => e = .returned (.bool (shB n)) ∧ w = w' := by
  unfold shB
  by_cases h1 : 0 ≤ n
  · by_cases h2 : n ≤ 65535
    · go_enter Tryz.func55, Tryz.ntmps55
      go_wp2
      go_ret
      exact ⟨by simp [h1, h2], rfl⟩
    · have d2 : decide (n ≤ 65535) = false := decide_eq_false h2
      go_enter Tryz.func55, Tryz.ntmps55
      go_wp2
      go_ret
      exact ⟨by simp, rfl⟩
  · have d1 : decide (0 ≤ n) = false := decide_eq_false h1
    go_enter Tryz.func55, Tryz.ntmps55
    go_wp2
    go_ret
    exact ⟨by simp, rfl⟩
theorem shB_iff (n : Int) : shB n = true ↔ 0 ≤ n ∧ n ≤ 65535 := by simp [shB]
set_option maxHeartbeats 8000000 in
theorem akone_fix (i p n m : Int) (Q : Bool) (hQ : Q = true ↔ AkOne (i, p, n, m)) (w : World) :
    Calls Tryz.prog 76 #[.agg #[.int .i64 i, .int .i64 p, .int .i64 n, .int .i64 m]] w fun e w' => e = .returned (.bool Q) ∧ Below w.heap.size w w' := by
  unfold AkOne EpOk at hQ
  simp only at hQ
  rw [← shB_iff n, ← shB_iff m] at hQ
  have CN := Lib.hid (akshort_any n)
  have CM := Lib.hid (akshort_any m)
  have HB : Hid (Below w.heap.size w (w.alloc (.cells #[.int .i64 i, .int .i64 p, .int .i64 n, .int .i64 m] 37))) := (Below.refl _ w).alloc (Nat.le_refl _) _
  generalize shB n = qn at *
  generalize shB m = qm at *
  by_cases h0 : 0 ≤ i
  · skip
    by_cases h1 : i < 64
    · skip
      by_cases h2 : 0 ≤ p
      · skip
        by_cases h3 : p ≤ 4294967295
        · skip
          cases qn with
          | false =>
            have HQ : Hid (Q = false) := by
              cases Q with
              | false => rfl
              | true => have h9 := hQ.1 rfl; first | (exact absurd h9.2.2.1 (by decide)) | omega
            clear hQ
            go_enter Tryz.func76, Tryz.ntmps76
            go_wp2_with fail
            refine (CN.out _).mono ?_
            rintro e w' ⟨rfl, hw⟩
            subst hw
            go_wp2_with fail
            go_ret
            exact ⟨by rw [HQ.out]; rfl, HB.out⟩
          | true =>
            have HQ : Hid (Q = qm) := by
              show Q = qm
              rw [Bool.eq_iff_iff, hQ]
              exact ⟨fun h => h.2.2.2, fun h => ⟨⟨h0, h1⟩, ⟨h2, h3⟩, rfl, h⟩⟩
            clear hQ
            go_enter Tryz.func76, Tryz.ntmps76
            go_wp2_with fail
            refine (CN.out _).mono ?_
            rintro e w' ⟨rfl, hw⟩
            subst hw
            go_wp2_with fail
            refine (CM.out _).mono ?_
            rintro e w' ⟨rfl, hw⟩
            subst hw
            go_wp2_with fail
            go_ret
            exact ⟨by rw [HQ.out]; rfl, HB.out⟩
        · skip
          have d : decide (p ≤ 4294967295) = false := decide_eq_false h3
          have HQ : Hid (Q = false) := by
            cases Q with
            | false => rfl
            | true => have h9 := hQ.1 rfl; first | (exact absurd h9.1 (by decide)) | omega
          clear hQ
          go_enter Tryz.func76, Tryz.ntmps76
          go_wp2_with fail
          go_ret
          exact ⟨by rw [HQ.out]; rfl, HB.out⟩
      · skip
        have d : decide (0 ≤ p) = false := decide_eq_false h2
        have HQ : Hid (Q = false) := by
          cases Q with
          | false => rfl
          | true => have h9 := hQ.1 rfl; first | (exact absurd h9.1 (by decide)) | omega
        clear hQ
        go_enter Tryz.func76, Tryz.ntmps76
        go_wp2_with fail
        go_ret
        exact ⟨by rw [HQ.out]; rfl, HB.out⟩
    · skip
      have d : decide (i < 64) = false := decide_eq_false h1
      have HQ : Hid (Q = false) := by
        cases Q with
        | false => rfl
        | true => have h9 := hQ.1 rfl; first | (exact absurd h9.1 (by decide)) | omega
      clear hQ
      go_enter Tryz.func76, Tryz.ntmps76
      go_wp2_with fail
      go_ret
      exact ⟨by rw [HQ.out]; rfl, HB.out⟩
  · skip
    have d : decide (0 ≤ i) = false := decide_eq_false h0
    have HQ : Hid (Q = false) := by
      cases Q with
      | false => rfl
      | true => have h9 := hQ.1 rfl; first | (exact absurd h9.1 (by decide)) | omega
    clear hQ
    go_enter Tryz.func76, Tryz.ntmps76
    go_wp2_with fail
    go_ret
    exact ⟨by rw [HQ.out]; rfl, HB.out⟩
/-- The bit that tells of a number that is so far behind. -/
def bitF (k : Int) : Int := if 1 ≤ k ∧ k ≤ 16 then pow2 (k - 1).toNat else 0
theorem akbit_any (x n : Int) (w : World) : Calls Tryz.prog 56 #[.int .i64 x, .int .i64 n] w fun e w' => e = .returned (.int .i64 (bitF (far x n))) ∧ Below w.heap.size w w' := by
  have CF := Lib.hid (far_any x n w)
  generalize far x n = k at *
  by_cases h1 : 1 ≤ k
  · have d1 : decide (k < 1) = false := decide_eq_false (by omega)
    by_cases h2 : k ≤ 16
    · have d2 : decide (k > 16) = false := decide_eq_false (by omega)
      have hkw : IntKind.i64.wrap (k - 1) = k - 1 := by rw [IntKind.wrap_i64]; omega
      have hk0 : 0 ≤ k - 1 := by omega
      go_enter Tryz.func56, Tryz.ntmps56
      go_wp2_with fail
      refine CF.out.mono ?_
      rintro e w2 ⟨rfl, hb⟩
      have HB := Lib.hid hb
      clear hb
      go_wp2_with fail
      go_ret
      refine ⟨?_, HB.out⟩
      unfold bitF
      rw [if_pos ⟨h1, h2⟩]
      obtain ⟨j, hj⟩ : ∃ j : Nat, k - 1 = j := ⟨(k - 1).toNat, by omega⟩
      rw [hj]
      refine congrArg (fun z => Ending.returned (Value.int .i64 z)) ?_
      have hk : k.toNat - 1 = j := by omega
      have hp := pow2_small (n := j) (by omega)
      have hp0 := pow2_pos j
      rw [hk, Int.toNat_natCast, ← pow2_eq']
      unfold wrap64
      omega
    · have d2 : decide (k > 16) = true := decide_eq_true (by omega)
      go_enter Tryz.func56, Tryz.ntmps56
      go_wp2_with fail
      refine CF.out.mono ?_
      rintro e w2 ⟨rfl, hb⟩
      have HB := Lib.hid hb
      clear hb
      go_wp2_with fail
      go_ret
      exact ⟨by unfold bitF; rw [if_neg (by omega)]; rfl, HB.out⟩
  · have d1 : decide (k < 1) = true := decide_eq_true (by omega)
    go_enter Tryz.func56, Tryz.ntmps56
    go_wp2_with fail
    refine CF.out.mono ?_
    rintro e w2 ⟨rfl, hb⟩
    have HB := Lib.hid hb
    clear hb
    go_wp2_with fail
    go_ret
    exact ⟨by unfold bitF; rw [if_neg (by omega)]; rfl, HB.out⟩
def ahB (k : Int) : Bool := decide (1 ≤ k) && decide (k ≤ 32768)
theorem akahead_any (n x : Int) (w : World) : Calls Tryz.prog 77 #[.int .i64 n, .int .i64 x] w fun e w' => e = .returned (.bool (ahB (far n x))) ∧ Below w.heap.size w w' := by
  have CF := Lib.hid (far_any n x w)
  generalize far n x = k at *
  unfold ahB
  by_cases h1 : 1 ≤ k
  · by_cases h2 : k ≤ 32768
    · go_enter Tryz.func77, Tryz.ntmps77
      go_wp2_with fail
      refine CF.out.mono ?_
      rintro e w2 ⟨rfl, hb⟩
      have HB := Lib.hid hb
      clear hb
      go_wp2_with fail
      go_ret
      exact ⟨by simp [h1, h2], HB.out⟩
    · have d2 : decide (k ≤ 32768) = false := decide_eq_false h2
      go_enter Tryz.func77, Tryz.ntmps77
      go_wp2_with fail
      refine CF.out.mono ?_
      rintro e w2 ⟨rfl, hb⟩
      have HB := Lib.hid hb
      clear hb
      go_wp2_with fail
      go_ret
      exact ⟨by simp [d2], HB.out⟩
  · have d1 : decide (1 ≤ k) = false := decide_eq_false h1
    go_enter Tryz.func77, Tryz.ntmps77
    go_wp2_with fail
    refine CF.out.mono ?_
    rintro e w2 ⟨rfl, hb⟩
    have HB := Lib.hid hb
    clear hb
    go_wp2_with fail
    go_ret
    exact ⟨by simp [d1], HB.out⟩
end Go.Proofs.YtfiaghfaijlfjaaGreat

namespace Go.Proofs.YtfiaghfaijlfjaaGreat
set_option maxRecDepth 100000
open Go.RowKit

def Cells4a (w : World) (b o : Nat) (y : Int × Int × Int × Int) : Prop := w.cell? ⟨b, o, none⟩ = some (.int .i64 y.1) ∧ w.cell? ⟨b, o + 1, none⟩ = some (.int .i64 y.2.1) ∧ w.cell? ⟨b, o + 2, none⟩ = some (.int .i64 y.2.2.1) ∧ w.cell? ⟨b, o + 3, none⟩ = some (.int .i64 y.2.2.2)
theorem Cells4a.below {w w' : World} {b o : Nat} {y : Int × Int × Int × Int} (h : Cells4a w b o y) (hb : Below w.heap.size w w') : Cells4a w' b o y := by
  obtain ⟨h0, h1, h2, h3⟩ := h
  exact ⟨by rw [hb.cell (World.block_lt_of_cell? w _ h0)]; exact h0, by rw [hb.cell (World.block_lt_of_cell? w _ h1)]; exact h1, by rw [hb.cell (World.block_lt_of_cell? w _ h2)]; exact h2, by rw [hb.cell (World.block_lt_of_cell? w _ h3)]; exact h3⟩

theorem bitF_and {m k : Int} (h : 0 ≤ m ∧ m ≤ 65535) : (bits .and .i64 m (bitF k) != 0) = (decide (1 ≤ k) && decide (k ≤ 16) && decide (m / pow2 (k - 1).toNat % 2 = 1)) := by
  unfold bitF
  by_cases hk : 1 ≤ k ∧ k ≤ 16
  · rw [if_pos hk, and_bit h.1 h.2 (by omega)]
    have hp := pow2_pos (k - 1).toNat
    split
    · rename_i hd
      have h9 : pow2 (k - 1).toNat ≠ 0 := by omega
      rw [decide_eq_true hk.1, decide_eq_true hk.2, decide_eq_true hd]
      simpa using h9
    · rename_i hd
      rw [decide_eq_true hk.1, decide_eq_true hk.2, decide_eq_false hd]
      rfl
  · rw [if_neg hk]
    have h0 : bits .and .i64 m 0 = 0 := by
      obtain ⟨a, rfl⟩ := Int.eq_ofNat_of_zero_le h.1
      have := (bits_nat .i64 62 (by decide) wr62 a 0 (by have : (2 : Nat) ^ 62 = 4611686018427387904 := by decide
                                                         omega) (by decide)).1
      simpa using this
    rw [h0]
    by_cases h1 : 1 ≤ k
    · have : ¬ k ≤ 16 := fun h => hk ⟨h1, h⟩
      simp [this]
    · simp [h1]
set_option maxHeartbeats 16000000 in
theorem akhas_fix (i p x m n : Int) (q : Bool) (hq : q = true ↔ AkOne (i, p, x, m)) (w : World) :
    Calls Tryz.prog 48 #[.agg #[.int .i64 i, .int .i64 p, .int .i64 x, .int .i64 m], .int .i64 n] w fun e w' => e = .returned (.bool (q && hasN x m n)) ∧ Below w.heap.size w w' := by
  have CO := fun W => akone_fix i p x m q hq W
  have CA := fun W => akahead_any n x W
  have CB := fun W => akbit_any x n W
  have hm : q = true → 0 ≤ m ∧ m ≤ 65535 := fun h => (hq.1 h).2.2.2
  have HB : Hid (Below w.heap.size w (w.alloc (.cells #[.int .i64 i, .int .i64 p, .int .i64 x, .int .i64 m] 37))) := (Below.refl _ w).alloc (Nat.le_refl _) _
  have hE : hasN x m n = (ahB (far n x) || (decide (1 ≤ far x n) && decide (far x n ≤ 16) && decide (m / pow2 (far x n - 1).toNat % 2 = 1))) := rfl
  rw [hE]
  have hz := fun h => bitF_and (m := m) (k := far x n) (hm h)
  clear hE hq
  generalize ahB (far n x) = A at *
  generalize bitF (far x n) = B at *
  generalize (decide (1 ≤ far x n) && decide (far x n ≤ 16) && decide (m / pow2 (far x n - 1).toNat % 2 = 1)) = R at *
  have kv : Cells4a (w.alloc (.cells #[.int .i64 i, .int .i64 p, .int .i64 x, .int .i64 m] 37)) w.heap.size 0 (i, p, x, m) := by refine ⟨?_, ?_, ?_, ?_⟩ <;> simp
  go_enter Tryz.func48, Tryz.ntmps48
  go_wp2_with fail
  obtain ⟨V, hV⟩ : ∃ V, V = w.alloc (.cells #[.int .i64 i, .int .i64 p, .int .i64 x, .int .i64 m] 37) := ⟨_, rfl⟩
  rw [← hV] at kv HB ⊢
  clear hV
  have kc : ∀ w', Below V.heap.size V w' → Cells4a w' w.heap.size 0 (i, p, x, m) := fun w' h => kv.below h
  simp only [Cells4a, Nat.zero_add] at kc
  cases q with
  | false =>
    refine wp_region_typed (C := fun w' => Below V.heap.size V w') (X := fun w w' => Below w.heap.size w w') (n := 26) (by kernel_rfl) (by kernel_rfl) rfl (fun w => Below.refl _ w) (Below.refl _ _).drew ?_
    refine w_is (fun w => Below.refl _ w) _ (.inl rfl) (fun ρ w hC hc hfn hf => by have e2 : ρ (.tmp 2) = _ := hf 2 (by decide); (conv => lhs; simp [execOp, go_sem, hc, e2, kc w hC])) ?_
    refine w_call (Is _) (fun _ _ _ h _ => h) 76 (.inl rfl) (fun ρ w hC hc hfn hf => by have e9 : ρ (.tmp 9) = _ := hf 9 (by decide); exact ⟨_, by (conv => lhs; simp [execOp, resolve, invoke, go_sem, hc, hfn, e9]), tc_below hC (CO w)⟩) ?_
    refine w_is (fun w => Below.refl _ w) _ (.inl rfl) (fun ρ w hC hc hfn hf => by have e10 : ρ (.tmp 10) = _ := hf 10 (by decide); (conv => lhs; simp [execOp, go_sem, hc, e10])) ?_
    refine w_skip rfl rfl (known_is rfl) ?_
    refine w_skip rfl rfl (known_is rfl) ?_
    refine w_skip rfl rfl (known_is rfl) ?_
    refine w_skip rfl rfl (known_is rfl) ?_
    refine w_skip rfl rfl (known_is rfl) ?_
    refine w_skipU rfl rfl (known_is rfl) ?_
    refine w_skipU rfl rfl (known_is rfl) ?_
    refine w_skipU rfl rfl (known_is rfl) ?_
    refine w_skipU rfl rfl (known_is rfl) ?_
    refine w_skipU rfl rfl (known_is rfl) ?_
    refine w_skipU rfl rfl (known_is rfl) ?_
    refine w_skipU rfl rfl (known_is rfl) ?_
    refine w_skip rfl rfl (known_is rfl) ?_
    refine w_is (fun w => Below.refl _ w) _ (.inl rfl) (fun ρ w hC hc hfn hf => by have e11 : ρ (.tmp 11) = _ := hf 11 (by decide); have e24 : ρ (.tmp 24) = _ := hf 24 (by decide); (conv => lhs; simp [execOp, go_sem, hc, e11, e24])) ?_
    refine w_is (fun w => Below.refl _ w) _ (.inl rfl) (fun ρ w hC hc hfn hf => by have e25 : ρ (.tmp 25) = _ := hf 25 (by decide); (conv => lhs; simp [execOp, go_sem, hc, e25])) ?_
    intro A V5 hC hn hd hf
    have y0 : A.eval (.tmp 0) = _ := Eq.trans (hf 0) (by conv => lhs; simp [go_sem])
    have y1 : A.eval (.tmp 1) = _ := Eq.trans (hf 1) (by conv => lhs; simp [go_sem])
    have y2 : A.eval (.tmp 2) = _ := Eq.trans (hf 2) (by conv => lhs; simp [go_sem])
    have y3 : A.eval (.tmp 3) = _ := Eq.trans (hf 3) (by conv => lhs; simp [go_sem])
    have y4 : A.eval (.tmp 4) = _ := hf 4
    have y5 : A.eval (.tmp 5) = _ := Eq.trans (hf 5) (by conv => lhs; simp [go_sem])
    have y6 : A.eval (.tmp 6) = _ := Eq.trans (hf 6) (by conv => lhs; simp [go_sem])
    have y7 : A.eval (.tmp 7) = _ := Eq.trans (hf 7) (by conv => lhs; simp [go_sem])
    have y8 : A.eval (.tmp 8) = _ := Eq.trans (hf 8) (by conv => lhs; simp [go_sem])
    have y9 : A.eval (.tmp 9) = _ := hf 9
    have y10 : A.eval (.tmp 10) = _ := hf 10
    have y11 : A.eval (.tmp 11) = _ := hf 11
    have y12 : A.eval (.tmp 12) = _ := hf 12
    have y13 : A.eval (.tmp 13) = _ := hf 13
    have y14 : A.eval (.tmp 14) = _ := hf 14
    have y15 : A.eval (.tmp 15) = _ := hf 15
    have y16 : A.eval (.tmp 16) = _ := hf 16
    have y17 : A.eval (.tmp 17) = _ := hf 17
    have y18 : A.eval (.tmp 18) = _ := hf 18
    have y19 : A.eval (.tmp 19) = _ := hf 19
    have y20 : A.eval (.tmp 20) = _ := hf 20
    have y21 : A.eval (.tmp 21) = _ := hf 21
    have y22 : A.eval (.tmp 22) = _ := hf 22
    have y23 : A.eval (.tmp 23) = _ := hf 23
    have y24 : A.eval (.tmp 24) = _ := hf 24
    have y25 : A.eval (.tmp 25) = _ := hf 25
    clear hf
    have hA := frame_eq hn
    rw [show List.range 26 = [0, 1, 2, 3, 4, 5, 6, 7, 8, 9, 10, 11, 12, 13, 14, 15, 16, 17, 18, 19, 20, 21, 22, 23, 24, 25] from rfl, hd] at hA
    simp only [List.map_cons, List.map_nil, y0, y1, y2, y3, y4, y5, y6, y7, y8, y9, y10, y11, y12, y13, y14, y15, y16, y17, y18, y19, y20, y21, y22, y23, y24, y25] at hA
    clear y0 y1 y2 y3 y4 y5 y6 y7 y8 y9 y10 y11 y12 y13 y14 y15 y16 y17 y18 y19 y20 y21 y22 y23 y24 y25
    clear hn hd
    subst hA
    go_wp2_with fail
    go_ret
    exact ⟨ret_bool (by rfl), HB.out.trans (hC.mono HB.out.size)⟩

  | true =>
    cases A with
    | true =>
      refine wp_region_typed (C := fun w' => Below V.heap.size V w') (X := fun w w' => Below w.heap.size w w') (n := 26) (by kernel_rfl) (by kernel_rfl) rfl (fun w => Below.refl _ w) (Below.refl _ _).drew ?_
      refine w_is (fun w => Below.refl _ w) _ (.inl rfl) (fun ρ w hC hc hfn hf => by have e2 : ρ (.tmp 2) = _ := hf 2 (by decide); (conv => lhs; simp [execOp, go_sem, hc, e2, kc w hC])) ?_
      refine w_call (Is _) (fun _ _ _ h _ => h) 76 (.inl rfl) (fun ρ w hC hc hfn hf => by have e9 : ρ (.tmp 9) = _ := hf 9 (by decide); exact ⟨_, by (conv => lhs; simp [execOp, resolve, invoke, go_sem, hc, hfn, e9]), tc_below hC (CO w)⟩) ?_
      refine w_is (fun w => Below.refl _ w) _ (.inl rfl) (fun ρ w hC hc hfn hf => by have e10 : ρ (.tmp 10) = _ := hf 10 (by decide); (conv => lhs; simp [execOp, go_sem, hc, e10])) ?_
      refine w_is (fun w => Below.refl _ w) _ (.inr ⟨2, 11, true, rfl, rfl, known_is rfl⟩) (fun ρ w hC hc hfn hf => by have e1 : ρ (.tmp 1) = _ := hf 1 (by decide); (conv => lhs; simp [execOp, go_sem, hc, e1])) ?_
      refine w_is (fun w => Below.refl _ w) _ (.inr ⟨2, 11, true, rfl, rfl, known_is rfl⟩) (fun ρ w hC hc hfn hf => by have e2 : ρ (.tmp 2) = _ := hf 2 (by decide); (conv => lhs; simp [execOp, go_sem, hc, e2])) ?_
      refine w_is (fun w => Below.refl _ w) _ (.inr ⟨2, 11, true, rfl, rfl, known_is rfl⟩) (fun ρ w hC hc hfn hf => by have e13 : ρ (.tmp 13) = _ := hf 13 (by decide); (conv => lhs; simp [execOp, go_sem, hc, e13, kc w hC])) ?_
      refine w_call (Is _) (fun _ _ _ h _ => h) 77 (.inr ⟨2, 11, true, rfl, rfl, known_is rfl⟩) (fun ρ w hC hc hfn hf => by have e12 : ρ (.tmp 12) = _ := hf 12 (by decide); have e14 : ρ (.tmp 14) = _ := hf 14 (by decide); exact ⟨_, by (conv => lhs; simp [execOp, resolve, invoke, go_sem, hc, hfn, e12, e14]), tc_below hC (CA w)⟩) ?_
      refine w_is (fun w => Below.refl _ w) _ (.inr ⟨2, 11, true, rfl, rfl, known_is rfl⟩) (fun ρ w hC hc hfn hf => by have e15 : ρ (.tmp 15) = _ := hf 15 (by decide); (conv => lhs; simp [execOp, go_sem, hc, e15])) ?_
      refine w_skip rfl rfl (known_is rfl) ?_
      refine w_skip rfl rfl (known_is rfl) ?_
      refine w_skip rfl rfl (known_is rfl) ?_
      refine w_skip rfl rfl (known_is rfl) ?_
      refine w_skip rfl rfl (known_is rfl) ?_
      refine w_skip rfl rfl (known_is rfl) ?_
      refine w_skip rfl rfl (known_is rfl) ?_
      refine w_is (fun w => Below.refl _ w) _ (.inr ⟨2, 11, true, rfl, rfl, known_is rfl⟩) (fun ρ w hC hc hfn hf => by have e16 : ρ (.tmp 16) = _ := hf 16 (by decide); have e23 : ρ (.tmp 23) = _ := hf 23 (by decide); (conv => lhs; simp [execOp, go_sem, hc, e16, e23])) ?_
      refine w_is (fun w => Below.refl _ w) _ (.inl rfl) (fun ρ w hC hc hfn hf => by have e11 : ρ (.tmp 11) = _ := hf 11 (by decide); have e24 : ρ (.tmp 24) = _ := hf 24 (by decide); (conv => lhs; simp [execOp, go_sem, hc, e11, e24])) ?_
      refine w_is (fun w => Below.refl _ w) _ (.inl rfl) (fun ρ w hC hc hfn hf => by have e25 : ρ (.tmp 25) = _ := hf 25 (by decide); (conv => lhs; simp [execOp, go_sem, hc, e25])) ?_
      intro A V5 hC hn hd hf
      have y0 : A.eval (.tmp 0) = _ := Eq.trans (hf 0) (by conv => lhs; simp [go_sem])
      have y1 : A.eval (.tmp 1) = _ := Eq.trans (hf 1) (by conv => lhs; simp [go_sem])
      have y2 : A.eval (.tmp 2) = _ := Eq.trans (hf 2) (by conv => lhs; simp [go_sem])
      have y3 : A.eval (.tmp 3) = _ := Eq.trans (hf 3) (by conv => lhs; simp [go_sem])
      have y4 : A.eval (.tmp 4) = _ := hf 4
      have y5 : A.eval (.tmp 5) = _ := Eq.trans (hf 5) (by conv => lhs; simp [go_sem])
      have y6 : A.eval (.tmp 6) = _ := Eq.trans (hf 6) (by conv => lhs; simp [go_sem])
      have y7 : A.eval (.tmp 7) = _ := Eq.trans (hf 7) (by conv => lhs; simp [go_sem])
      have y8 : A.eval (.tmp 8) = _ := Eq.trans (hf 8) (by conv => lhs; simp [go_sem])
      have y9 : A.eval (.tmp 9) = _ := hf 9
      have y10 : A.eval (.tmp 10) = _ := hf 10
      have y11 : A.eval (.tmp 11) = _ := hf 11
      have y12 : A.eval (.tmp 12) = _ := hf 12
      have y13 : A.eval (.tmp 13) = _ := hf 13
      have y14 : A.eval (.tmp 14) = _ := hf 14
      have y15 : A.eval (.tmp 15) = _ := hf 15
      have y16 : A.eval (.tmp 16) = _ := hf 16
      have y17 : A.eval (.tmp 17) = _ := hf 17
      have y18 : A.eval (.tmp 18) = _ := hf 18
      have y19 : A.eval (.tmp 19) = _ := hf 19
      have y20 : A.eval (.tmp 20) = _ := hf 20
      have y21 : A.eval (.tmp 21) = _ := hf 21
      have y22 : A.eval (.tmp 22) = _ := hf 22
      have y23 : A.eval (.tmp 23) = _ := hf 23
      have y24 : A.eval (.tmp 24) = _ := hf 24
      have y25 : A.eval (.tmp 25) = _ := hf 25
      clear hf
      have hA := frame_eq hn
      rw [show List.range 26 = [0, 1, 2, 3, 4, 5, 6, 7, 8, 9, 10, 11, 12, 13, 14, 15, 16, 17, 18, 19, 20, 21, 22, 23, 24, 25] from rfl, hd] at hA
      simp only [List.map_cons, List.map_nil, y0, y1, y2, y3, y4, y5, y6, y7, y8, y9, y10, y11, y12, y13, y14, y15, y16, y17, y18, y19, y20, y21, y22, y23, y24, y25] at hA
      clear y0 y1 y2 y3 y4 y5 y6 y7 y8 y9 y10 y11 y12 y13 y14 y15 y16 y17 y18 y19 y20 y21 y22 y23 y24 y25
      clear hn hd
      subst hA
      go_wp2_with fail
      go_ret
      exact ⟨ret_bool (by rfl), HB.out.trans (hC.mono HB.out.size)⟩

    | false =>
      have hz' := hz rfl
      obtain ⟨Z, hZ⟩ : ∃ Z, bits .and .i64 m B = Z := ⟨_, rfl⟩
      rw [hZ] at hz'
      cases R with
      | true =>
        refine wp_region_typed (C := fun w' => Below V.heap.size V w') (X := fun w w' => Below w.heap.size w w') (n := 26) (by kernel_rfl) (by kernel_rfl) rfl (fun w => Below.refl _ w) (Below.refl _ _).drew ?_
        refine w_is (fun w => Below.refl _ w) _ (.inl rfl) (fun ρ w hC hc hfn hf => by have e2 : ρ (.tmp 2) = _ := hf 2 (by decide); (conv => lhs; simp [execOp, go_sem, hc, e2, kc w hC])) ?_
        refine w_call (Is _) (fun _ _ _ h _ => h) 76 (.inl rfl) (fun ρ w hC hc hfn hf => by have e9 : ρ (.tmp 9) = _ := hf 9 (by decide); exact ⟨_, by (conv => lhs; simp [execOp, resolve, invoke, go_sem, hc, hfn, e9]), tc_below hC (CO w)⟩) ?_
        refine w_is (fun w => Below.refl _ w) _ (.inl rfl) (fun ρ w hC hc hfn hf => by have e10 : ρ (.tmp 10) = _ := hf 10 (by decide); (conv => lhs; simp [execOp, go_sem, hc, e10])) ?_
        refine w_is (fun w => Below.refl _ w) _ (.inr ⟨2, 11, true, rfl, rfl, known_is rfl⟩) (fun ρ w hC hc hfn hf => by have e1 : ρ (.tmp 1) = _ := hf 1 (by decide); (conv => lhs; simp [execOp, go_sem, hc, e1])) ?_
        refine w_is (fun w => Below.refl _ w) _ (.inr ⟨2, 11, true, rfl, rfl, known_is rfl⟩) (fun ρ w hC hc hfn hf => by have e2 : ρ (.tmp 2) = _ := hf 2 (by decide); (conv => lhs; simp [execOp, go_sem, hc, e2])) ?_
        refine w_is (fun w => Below.refl _ w) _ (.inr ⟨2, 11, true, rfl, rfl, known_is rfl⟩) (fun ρ w hC hc hfn hf => by have e13 : ρ (.tmp 13) = _ := hf 13 (by decide); (conv => lhs; simp [execOp, go_sem, hc, e13, kc w hC])) ?_
        refine w_call (Is _) (fun _ _ _ h _ => h) 77 (.inr ⟨2, 11, true, rfl, rfl, known_is rfl⟩) (fun ρ w hC hc hfn hf => by have e12 : ρ (.tmp 12) = _ := hf 12 (by decide); have e14 : ρ (.tmp 14) = _ := hf 14 (by decide); exact ⟨_, by (conv => lhs; simp [execOp, resolve, invoke, go_sem, hc, hfn, e12, e14]), tc_below hC (CA w)⟩) ?_
        refine w_is (fun w => Below.refl _ w) _ (.inr ⟨2, 11, true, rfl, rfl, known_is rfl⟩) (fun ρ w hC hc hfn hf => by have e15 : ρ (.tmp 15) = _ := hf 15 (by decide); (conv => lhs; simp [execOp, go_sem, hc, e15])) ?_
        refine w_is (fun w => Below.refl _ w) _ (.inr ⟨7, 16, false, rfl, rfl, known_is rfl⟩) (fun ρ w hC hc hfn hf => by have e2 : ρ (.tmp 2) = _ := hf 2 (by decide); (conv => lhs; simp [execOp, go_sem, hc, e2])) ?_
        refine w_is (fun w => Below.refl _ w) _ (.inr ⟨7, 16, false, rfl, rfl, known_is rfl⟩) (fun ρ w hC hc hfn hf => by have e17 : ρ (.tmp 17) = _ := hf 17 (by decide); (conv => lhs; simp [execOp, go_sem, hc, e17, kc w hC])) ?_
        refine w_is (fun w => Below.refl _ w) _ (.inr ⟨7, 16, false, rfl, rfl, known_is rfl⟩) (fun ρ w hC hc hfn hf => by have e5 : ρ (.tmp 5) = _ := hf 5 (by decide); (conv => lhs; simp [execOp, go_sem, hc, e5])) ?_
        refine w_is (fun w => Below.refl _ w) _ (.inr ⟨7, 16, false, rfl, rfl, known_is rfl⟩) (fun ρ w hC hc hfn hf => by have e1 : ρ (.tmp 1) = _ := hf 1 (by decide); (conv => lhs; simp [execOp, go_sem, hc, e1])) ?_
        refine w_call (Is _) (fun _ _ _ h _ => h) 56 (.inr ⟨7, 16, false, rfl, rfl, known_is rfl⟩) (fun ρ w hC hc hfn hf => by have e19 : ρ (.tmp 19) = _ := hf 19 (by decide); have e20 : ρ (.tmp 20) = _ := hf 20 (by decide); exact ⟨_, by (conv => lhs; simp [execOp, resolve, invoke, go_sem, hc, hfn, e19, e20]), tc_below hC (CB w)⟩) ?_
        refine w_is (fun w => Below.refl _ w) _ (.inr ⟨7, 16, false, rfl, rfl, known_is rfl⟩) (fun ρ w hC hc hfn hf => by have e18 : ρ (.tmp 18) = _ := hf 18 (by decide); have e21 : ρ (.tmp 21) = _ := hf 21 (by decide); (conv => lhs; simp [execOp, go_sem, hc, e18, e21, hZ])) ?_
        refine w_is (fun w => Below.refl _ w) _ (.inr ⟨7, 16, false, rfl, rfl, known_is rfl⟩) (fun ρ w hC hc hfn hf => by have e22 : ρ (.tmp 22) = _ := hf 22 (by decide); (conv => lhs; simp [execOp, go_sem, hc, e22, hz'])) ?_
        refine w_is (fun w => Below.refl _ w) _ (.inr ⟨2, 11, true, rfl, rfl, known_is rfl⟩) (fun ρ w hC hc hfn hf => by have e16 : ρ (.tmp 16) = _ := hf 16 (by decide); have e23 : ρ (.tmp 23) = _ := hf 23 (by decide); (conv => lhs; simp [execOp, go_sem, hc, e16, e23])) ?_
        refine w_is (fun w => Below.refl _ w) _ (.inl rfl) (fun ρ w hC hc hfn hf => by have e11 : ρ (.tmp 11) = _ := hf 11 (by decide); have e24 : ρ (.tmp 24) = _ := hf 24 (by decide); (conv => lhs; simp [execOp, go_sem, hc, e11, e24])) ?_
        refine w_is (fun w => Below.refl _ w) _ (.inl rfl) (fun ρ w hC hc hfn hf => by have e25 : ρ (.tmp 25) = _ := hf 25 (by decide); (conv => lhs; simp [execOp, go_sem, hc, e25])) ?_
        intro A V5 hC hn hd hf
        have y0 : A.eval (.tmp 0) = _ := Eq.trans (hf 0) (by conv => lhs; simp [go_sem])
        have y1 : A.eval (.tmp 1) = _ := Eq.trans (hf 1) (by conv => lhs; simp [go_sem])
        have y2 : A.eval (.tmp 2) = _ := Eq.trans (hf 2) (by conv => lhs; simp [go_sem])
        have y3 : A.eval (.tmp 3) = _ := Eq.trans (hf 3) (by conv => lhs; simp [go_sem])
        have y4 : A.eval (.tmp 4) = _ := hf 4
        have y5 : A.eval (.tmp 5) = _ := Eq.trans (hf 5) (by conv => lhs; simp [go_sem])
        have y6 : A.eval (.tmp 6) = _ := Eq.trans (hf 6) (by conv => lhs; simp [go_sem])
        have y7 : A.eval (.tmp 7) = _ := Eq.trans (hf 7) (by conv => lhs; simp [go_sem])
        have y8 : A.eval (.tmp 8) = _ := Eq.trans (hf 8) (by conv => lhs; simp [go_sem])
        have y9 : A.eval (.tmp 9) = _ := hf 9
        have y10 : A.eval (.tmp 10) = _ := hf 10
        have y11 : A.eval (.tmp 11) = _ := hf 11
        have y12 : A.eval (.tmp 12) = _ := hf 12
        have y13 : A.eval (.tmp 13) = _ := hf 13
        have y14 : A.eval (.tmp 14) = _ := hf 14
        have y15 : A.eval (.tmp 15) = _ := hf 15
        have y16 : A.eval (.tmp 16) = _ := hf 16
        have y17 : A.eval (.tmp 17) = _ := hf 17
        have y18 : A.eval (.tmp 18) = _ := hf 18
        have y19 : A.eval (.tmp 19) = _ := hf 19
        have y20 : A.eval (.tmp 20) = _ := hf 20
        have y21 : A.eval (.tmp 21) = _ := hf 21
        have y22 : A.eval (.tmp 22) = _ := hf 22
        have y23 : A.eval (.tmp 23) = _ := hf 23
        have y24 : A.eval (.tmp 24) = _ := hf 24
        have y25 : A.eval (.tmp 25) = _ := hf 25
        clear hf
        have hA := frame_eq hn
        rw [show List.range 26 = [0, 1, 2, 3, 4, 5, 6, 7, 8, 9, 10, 11, 12, 13, 14, 15, 16, 17, 18, 19, 20, 21, 22, 23, 24, 25] from rfl, hd] at hA
        simp only [List.map_cons, List.map_nil, y0, y1, y2, y3, y4, y5, y6, y7, y8, y9, y10, y11, y12, y13, y14, y15, y16, y17, y18, y19, y20, y21, y22, y23, y24, y25] at hA
        clear y0 y1 y2 y3 y4 y5 y6 y7 y8 y9 y10 y11 y12 y13 y14 y15 y16 y17 y18 y19 y20 y21 y22 y23 y24 y25
        clear hn hd
        subst hA
        go_wp2_with fail
        go_ret
        exact ⟨ret_bool (by rfl), HB.out.trans (hC.mono HB.out.size)⟩

      | false =>
        refine wp_region_typed (C := fun w' => Below V.heap.size V w') (X := fun w w' => Below w.heap.size w w') (n := 26) (by kernel_rfl) (by kernel_rfl) rfl (fun w => Below.refl _ w) (Below.refl _ _).drew ?_
        refine w_is (fun w => Below.refl _ w) _ (.inl rfl) (fun ρ w hC hc hfn hf => by have e2 : ρ (.tmp 2) = _ := hf 2 (by decide); (conv => lhs; simp [execOp, go_sem, hc, e2, kc w hC])) ?_
        refine w_call (Is _) (fun _ _ _ h _ => h) 76 (.inl rfl) (fun ρ w hC hc hfn hf => by have e9 : ρ (.tmp 9) = _ := hf 9 (by decide); exact ⟨_, by (conv => lhs; simp [execOp, resolve, invoke, go_sem, hc, hfn, e9]), tc_below hC (CO w)⟩) ?_
        refine w_is (fun w => Below.refl _ w) _ (.inl rfl) (fun ρ w hC hc hfn hf => by have e10 : ρ (.tmp 10) = _ := hf 10 (by decide); (conv => lhs; simp [execOp, go_sem, hc, e10])) ?_
        refine w_is (fun w => Below.refl _ w) _ (.inr ⟨2, 11, true, rfl, rfl, known_is rfl⟩) (fun ρ w hC hc hfn hf => by have e1 : ρ (.tmp 1) = _ := hf 1 (by decide); (conv => lhs; simp [execOp, go_sem, hc, e1])) ?_
        refine w_is (fun w => Below.refl _ w) _ (.inr ⟨2, 11, true, rfl, rfl, known_is rfl⟩) (fun ρ w hC hc hfn hf => by have e2 : ρ (.tmp 2) = _ := hf 2 (by decide); (conv => lhs; simp [execOp, go_sem, hc, e2])) ?_
        refine w_is (fun w => Below.refl _ w) _ (.inr ⟨2, 11, true, rfl, rfl, known_is rfl⟩) (fun ρ w hC hc hfn hf => by have e13 : ρ (.tmp 13) = _ := hf 13 (by decide); (conv => lhs; simp [execOp, go_sem, hc, e13, kc w hC])) ?_
        refine w_call (Is _) (fun _ _ _ h _ => h) 77 (.inr ⟨2, 11, true, rfl, rfl, known_is rfl⟩) (fun ρ w hC hc hfn hf => by have e12 : ρ (.tmp 12) = _ := hf 12 (by decide); have e14 : ρ (.tmp 14) = _ := hf 14 (by decide); exact ⟨_, by (conv => lhs; simp [execOp, resolve, invoke, go_sem, hc, hfn, e12, e14]), tc_below hC (CA w)⟩) ?_
        refine w_is (fun w => Below.refl _ w) _ (.inr ⟨2, 11, true, rfl, rfl, known_is rfl⟩) (fun ρ w hC hc hfn hf => by have e15 : ρ (.tmp 15) = _ := hf 15 (by decide); (conv => lhs; simp [execOp, go_sem, hc, e15])) ?_
        refine w_is (fun w => Below.refl _ w) _ (.inr ⟨7, 16, false, rfl, rfl, known_is rfl⟩) (fun ρ w hC hc hfn hf => by have e2 : ρ (.tmp 2) = _ := hf 2 (by decide); (conv => lhs; simp [execOp, go_sem, hc, e2])) ?_
        refine w_is (fun w => Below.refl _ w) _ (.inr ⟨7, 16, false, rfl, rfl, known_is rfl⟩) (fun ρ w hC hc hfn hf => by have e17 : ρ (.tmp 17) = _ := hf 17 (by decide); (conv => lhs; simp [execOp, go_sem, hc, e17, kc w hC])) ?_
        refine w_is (fun w => Below.refl _ w) _ (.inr ⟨7, 16, false, rfl, rfl, known_is rfl⟩) (fun ρ w hC hc hfn hf => by have e5 : ρ (.tmp 5) = _ := hf 5 (by decide); (conv => lhs; simp [execOp, go_sem, hc, e5])) ?_
        refine w_is (fun w => Below.refl _ w) _ (.inr ⟨7, 16, false, rfl, rfl, known_is rfl⟩) (fun ρ w hC hc hfn hf => by have e1 : ρ (.tmp 1) = _ := hf 1 (by decide); (conv => lhs; simp [execOp, go_sem, hc, e1])) ?_
        refine w_call (Is _) (fun _ _ _ h _ => h) 56 (.inr ⟨7, 16, false, rfl, rfl, known_is rfl⟩) (fun ρ w hC hc hfn hf => by have e19 : ρ (.tmp 19) = _ := hf 19 (by decide); have e20 : ρ (.tmp 20) = _ := hf 20 (by decide); exact ⟨_, by (conv => lhs; simp [execOp, resolve, invoke, go_sem, hc, hfn, e19, e20]), tc_below hC (CB w)⟩) ?_
        refine w_is (fun w => Below.refl _ w) _ (.inr ⟨7, 16, false, rfl, rfl, known_is rfl⟩) (fun ρ w hC hc hfn hf => by have e18 : ρ (.tmp 18) = _ := hf 18 (by decide); have e21 : ρ (.tmp 21) = _ := hf 21 (by decide); (conv => lhs; simp [execOp, go_sem, hc, e18, e21, hZ])) ?_
        refine w_is (fun w => Below.refl _ w) _ (.inr ⟨7, 16, false, rfl, rfl, known_is rfl⟩) (fun ρ w hC hc hfn hf => by have e22 : ρ (.tmp 22) = _ := hf 22 (by decide); (conv => lhs; simp [execOp, go_sem, hc, e22, hz'])) ?_
        refine w_is (fun w => Below.refl _ w) _ (.inr ⟨2, 11, true, rfl, rfl, known_is rfl⟩) (fun ρ w hC hc hfn hf => by have e16 : ρ (.tmp 16) = _ := hf 16 (by decide); have e23 : ρ (.tmp 23) = _ := hf 23 (by decide); (conv => lhs; simp [execOp, go_sem, hc, e16, e23])) ?_
        refine w_is (fun w => Below.refl _ w) _ (.inl rfl) (fun ρ w hC hc hfn hf => by have e11 : ρ (.tmp 11) = _ := hf 11 (by decide); have e24 : ρ (.tmp 24) = _ := hf 24 (by decide); (conv => lhs; simp [execOp, go_sem, hc, e11, e24])) ?_
        refine w_is (fun w => Below.refl _ w) _ (.inl rfl) (fun ρ w hC hc hfn hf => by have e25 : ρ (.tmp 25) = _ := hf 25 (by decide); (conv => lhs; simp [execOp, go_sem, hc, e25])) ?_
        intro A V5 hC hn hd hf
        have y0 : A.eval (.tmp 0) = _ := Eq.trans (hf 0) (by conv => lhs; simp [go_sem])
        have y1 : A.eval (.tmp 1) = _ := Eq.trans (hf 1) (by conv => lhs; simp [go_sem])
        have y2 : A.eval (.tmp 2) = _ := Eq.trans (hf 2) (by conv => lhs; simp [go_sem])
        have y3 : A.eval (.tmp 3) = _ := Eq.trans (hf 3) (by conv => lhs; simp [go_sem])
        have y4 : A.eval (.tmp 4) = _ := hf 4
        have y5 : A.eval (.tmp 5) = _ := Eq.trans (hf 5) (by conv => lhs; simp [go_sem])
        have y6 : A.eval (.tmp 6) = _ := Eq.trans (hf 6) (by conv => lhs; simp [go_sem])
        have y7 : A.eval (.tmp 7) = _ := Eq.trans (hf 7) (by conv => lhs; simp [go_sem])
        have y8 : A.eval (.tmp 8) = _ := Eq.trans (hf 8) (by conv => lhs; simp [go_sem])
        have y9 : A.eval (.tmp 9) = _ := hf 9
        have y10 : A.eval (.tmp 10) = _ := hf 10
        have y11 : A.eval (.tmp 11) = _ := hf 11
        have y12 : A.eval (.tmp 12) = _ := hf 12
        have y13 : A.eval (.tmp 13) = _ := hf 13
        have y14 : A.eval (.tmp 14) = _ := hf 14
        have y15 : A.eval (.tmp 15) = _ := hf 15
        have y16 : A.eval (.tmp 16) = _ := hf 16
        have y17 : A.eval (.tmp 17) = _ := hf 17
        have y18 : A.eval (.tmp 18) = _ := hf 18
        have y19 : A.eval (.tmp 19) = _ := hf 19
        have y20 : A.eval (.tmp 20) = _ := hf 20
        have y21 : A.eval (.tmp 21) = _ := hf 21
        have y22 : A.eval (.tmp 22) = _ := hf 22
        have y23 : A.eval (.tmp 23) = _ := hf 23
        have y24 : A.eval (.tmp 24) = _ := hf 24
        have y25 : A.eval (.tmp 25) = _ := hf 25
        clear hf
        have hA := frame_eq hn
        rw [show List.range 26 = [0, 1, 2, 3, 4, 5, 6, 7, 8, 9, 10, 11, 12, 13, 14, 15, 16, 17, 18, 19, 20, 21, 22, 23, 24, 25] from rfl, hd] at hA
        simp only [List.map_cons, List.map_nil, y0, y1, y2, y3, y4, y5, y6, y7, y8, y9, y10, y11, y12, y13, y14, y15, y16, y17, y18, y19, y20, y21, y22, y23, y24, y25] at hA
        clear y0 y1 y2 y3 y4 y5 y6 y7 y8 y9 y10 y11 y12 y13 y14 y15 y16 y17 y18 y19 y20 y21 y22 y23 y24 y25
        clear hn hd
        subst hA
        go_wp2_with fail
        go_ret
        exact ⟨ret_bool (by rfl), HB.out.trans (hC.mono HB.out.size)⟩
end Go.Proofs.YtfiaghfaijlfjaaGreat

namespace Go.Proofs.YtfiaghfaijlfjaaGreat
set_option maxRecDepth 100000
open Go.RowKit

theorem mk_tb (x : Int) (cs : List Int) (i : Nat) : (mk x cs 16).toNat.testBit i = (decide (i < 16) && hit x cs i) := by
  have hb := mk_bd x cs 16
  rw [pow2_16] at hb
  rcases Nat.lt_or_ge i 16 with h | h
  · have h1 := mk_bit x cs 16 i h
    rw [pow2_eq] at h1
    obtain ⟨a, ha⟩ := Int.eq_ofNat_of_zero_le hb.1
    rw [ha] at h1 ⊢
    rw [Int.toNat_natCast, Nat.testBit_eq_decide_div_mod_eq, decide_eq_true h, Bool.true_and]
    have h2 : a / 2 ^ i % 2 = 1 ↔ hit x cs i = true := by rw [← h1]; exact ⟨fun e => by exact_mod_cast e, fun e => by exact_mod_cast e⟩
    cases hq : hit x cs i with
    | true => exact decide_eq_true (h2.2 hq)
    | false => exact decide_eq_false fun e => by rw [h2.1 e] at hq; cases hq
  · rw [decide_eq_false (by omega), Bool.false_and]
    refine Nat.testBit_lt_two_pow ?_
    have : (2 : Nat) ^ 16 ≤ 2 ^ i := Nat.pow_le_pow_right (by decide) h
    have h3 : (2 : Nat) ^ 16 = 65536 := by decide
    omega
theorem bitF_tb (k : Int) (i : Nat) : (bitF k).toNat.testBit i = (decide (i < 16) && decide (k = (i : Int) + 1)) := by
  unfold bitF
  split
  · rename_i h
    rw [pow2_eq, Int.toNat_natCast, Nat.testBit_two_pow]
    by_cases h1 : k = (i : Int) + 1
    · rw [decide_eq_true (show (k - 1).toNat = i by omega), decide_eq_true h1, decide_eq_true (show i < 16 by omega)]; rfl
    · rw [decide_eq_false (show ¬ (k - 1).toNat = i by omega), decide_eq_false h1, Bool.and_false]
  · rename_i h
    rw [Int.toNat_zero, Nat.zero_testBit]
    by_cases h1 : k = (i : Int) + 1
    · rw [decide_eq_false (show ¬ i < 16 by omega), Bool.false_and]
    · rw [decide_eq_false h1, Bool.and_false]
theorem bitF_bd (k : Int) : 0 ≤ bitF k ∧ bitF k ≤ 65536 := by
  unfold bitF
  split
  · have := pow2_pos (k - 1).toNat; have := pow2_small (n := (k - 1).toNat) (by omega); omega
  · omega
/-- One more that came. -/
theorem or_mk (x c : Int) (cs : List Int) : bits .or .i64 (mk x cs 16) (bitF (far x c)) = mk x (cs ++ [c]) 16 := by
  have h1 := mk_bd x cs 16
  have h2 := bitF_bd (far x c)
  have h3 := mk_bd x (cs ++ [c]) 16
  rw [pow2_16] at h1 h3
  have e1 : mk x cs 16 = ((mk x cs 16).toNat : Int) := by omega
  have e2 : bitF (far x c) = ((bitF (far x c)).toNat : Int) := by omega
  have h62 : (2 : Nat) ^ 62 = 4611686018427387904 := by decide
  rw [e1, e2, (bits_nat .i64 62 (by decide) wr62 _ _ (by omega) (by omega)).2]
  have e3 : mk x (cs ++ [c]) 16 = ((mk x (cs ++ [c]) 16).toNat : Int) := by omega
  rw [e3]
  congr 1
  apply Nat.eq_of_testBit_eq
  intro i
  rw [Nat.testBit_or, mk_tb, bitF_tb, mk_tb, ← Bool.and_or_distrib_left]
  congr 1
  unfold hit
  rw [List.any_append]
  congr 1
  rw [Bool.eq_iff_iff]; simp
set_option maxHeartbeats 32000000 in
theorem akof_ok (x : Int) (v : Value) (cs : List Int) (w : World) (hx : 0 ≤ x ∧ x ≤ 65535) (hv : Zs w v cs) (hl : cs.length ≤ 1000) :
    Calls Tryz.prog 31 #[.int .i64 x, v] w fun e w' => e = .returned (.tuple #[.agg #[.int .i64 0, .int .i64 0, .int .i64 x, .int .i64 (mk x cs 16)], .int .i64 0]) ∧ Below w.heap.size w w' := by
  have HV := Lib.hid hv
  obtain ⟨a, c, rfl, -, -, -⟩ := Zs_open hv
  clear hv
  have HS := Lib.hid ((shB_iff x).2 hx)
  go_enter Tryz.func31, Tryz.ntmps31
  go_wp2_with fail
  refine (akshort_any x _).mono ?_
  rintro e w1 ⟨rfl, hw⟩
  subst hw
  rw [HS.out]
  go_wp2_with fail
  obtain ⟨V, hVe⟩ : ∃ V, (w.alloc (.cells #[.int .i64 0, .int .i64 0, .int .i64 0, .int .i64 0] 37)).alloc (.cells #[.int .i64 0, .int .i64 0, .int .i64 x, .int .i64 0] 37) = V := ⟨_, rfl⟩
  have hs1 : (w.alloc (.cells #[.int .i64 0, .int .i64 0, .int .i64 0, .int .i64 0] 37)).heap.size = w.heap.size + 1 := by simp
  have hb1 : Below w.heap.size w (w.alloc (.cells #[.int .i64 0, .int .i64 0, .int .i64 0, .int .i64 0] 37)) := (Below.refl _ w).alloc (Nat.le_refl _) _
  have OA := owna_alloc (w.alloc (.cells #[.int .i64 0, .int .i64 0, .int .i64 0, .int .i64 0] 37)) 0 0 x 0 37 (w.heap.size + 1) hs1.symm
  have OR := (owna_alloc w 0 0 0 0 37 w.heap.size rfl).below ((Below.refl _ _).alloc (Nat.le_refl _) (.cells #[.int .i64 0, .int .i64 0, .int .i64 x, .int .i64 0] 37))
  have HB : Below w.heap.size w ((w.alloc (.cells #[.int .i64 0, .int .i64 0, .int .i64 0, .int .i64 0] 37)).alloc (.cells #[.int .i64 0, .int .i64 0, .int .i64 x, .int .i64 0] 37)) := hb1.alloc (by omega) _
  rw [hVe] at OA OR HB
  rw [hVe]
  clear hVe hs1 hb1
  have OA0 := Lib.hid OA
  have OR0 := Lib.hid OR
  have HB0 := Lib.hid HB
  clear OA OR HB
  go_loopw [20] (fun i wr => ∃ j : Nat, j ≤ cs.length ∧ i = .int .i64 (j : Int) ∧ OwnA wr (w.heap.size + 1) (0, 0, x, mk x (cs.take j) 16) ∧ OwnA wr w.heap.size (0, 0, 0, 0) ∧ Below w.heap.size w wr) (fun i _ => cs.length - (intOf i).toNat)
  case atStart => exact ⟨0, Nat.zero_le _, rfl, OA0.out, OR0.out, HB0.out⟩
  case round =>
    obtain ⟨j, hj, rfl, oa, or, hbel⟩ := hrel
    have OA := Lib.hid oa
    have OR := Lib.hid or
    have HW := Lib.hid hbel
    clear oa or hbel OA0 OR0 HB0
    by_cases hlj : j < cs.length
    · have HZ := Lib.hid (Zs_below HV.out HW.out)
      obtain ⟨a', c', hv1, -, -, hcs⟩ := Zs_open HZ.out
      simp only [Value.slice.injEq] at hv1
      obtain ⟨rfl, -, rfl⟩ := hv1
      obtain ⟨b, off, rfl, p0⟩ := hcs j hlj
      clear hcs
      obtain ⟨y, hy⟩ : ∃ y, cs.getD j 0 = y := ⟨_, rfl⟩
      rw [hy] at p0
      have HT : Hid (mk x (cs.take (j + 1)) 16 = bits .or .i64 (mk x (cs.take j) 16) (bitF (far x y))) := by
        show _ = _
        rw [or_mk, List.take_succ_eq_append_getElem hlj, ← hy]
        simp [List.getD, hlj]
      have cB := fun W => akbit_any x y W
      obtain ⟨m, hm⟩ : ∃ m, mk x (cs.take j) 16 = m := ⟨_, rfl⟩
      rw [hm] at HT OA
      generalize bitF (far x y) = B at *
      obtain ⟨M, hM⟩ : ∃ M, bits .or .i64 m B = M := ⟨_, rfl⟩
      rw [hM] at HT
      clear hy hm
      go_wp2_with fail
      clear p0
      have kc : ∀ w', Below wr.heap.size wr w' → w'.cell? ⟨w.heap.size + 1, 3, none⟩ = some (.int .i64 m) := fun w' h => (OA.out.below h).1.2.2.2
      refine T3.wp_region_tail (C := fun w' => Below wr.heap.size wr w') (X := fun _ w w' => Below w.heap.size w w') (n := 33) 7 (by kernel_rfl) (by kernel_rfl) (by kernel_rfl) (by kernel_rfl) rfl (fun _ w => Below.refl _ w) (Below.refl _ _).drew ?_
      simp only [List.take_succ_cons, List.take_zero, List.drop_succ_cons, List.drop_zero]
      refine T3.w_is (fun _ w => Below.refl _ w) rfl _ (.inl rfl) (fun ρ w hC hc hfn hf => by have e6 : ρ (.tmp 6) = _ := hf 6 (by decide); (conv => lhs; simp [execOp, go_sem, hc, e6])) ?_
      refine T3.w_is (fun _ w => Below.refl _ w) rfl _ (.inl rfl) (fun ρ w hC hc hfn hf => by have e24 : ρ (.tmp 24) = _ := hf 24 (by decide); (conv => lhs; simp [execOp, go_sem, hc, e24, kc w hC])) ?_
      refine T3.w_is (fun _ w => Below.refl _ w) rfl _ (.inl rfl) (fun ρ w hC hc hfn hf => by have e7 : ρ (.tmp 7) = _ := hf 7 (by decide); (conv => lhs; simp [execOp, go_sem, hc, e7])) ?_
      refine T3.w_is (fun _ w => Below.refl _ w) rfl _ (.inl rfl) (fun ρ w hC hc hfn hf => by have e9 : ρ (.tmp 9) = _ := hf 9 (by decide); (conv => lhs; simp [execOp, go_sem, hc, e9])) ?_
      refine T3.w_call rfl (Is _) (fun _ _ _ _ _ h _ => h) 56 (.inl rfl) (fun ρ w hC hc hfn hf => by have e26 : ρ (.tmp 26) = _ := hf 26 (by decide); have e27 : ρ (.tmp 27) = _ := hf 27 (by decide); exact ⟨_, by (conv => lhs; simp [execOp, resolve, invoke, go_sem, hc, hfn, e26, e27]), (cB w).mono fun e w' h => ⟨_, h.1, hC.trans (h.2.mono hC.size), h.2, rfl⟩⟩) ?_
      refine T3.w_is (fun _ w => Below.refl _ w) rfl _ (.inl rfl) (fun ρ w hC hc hfn hf => by have e25 : ρ (.tmp 25) = _ := hf 25 (by decide); have e28 : ρ (.tmp 28) = _ := hf 28 (by decide); (conv => lhs; simp [execOp, go_sem, hc, e25, e28, hM])) ?_
      refine T3.w_is (fun _ w => Below.refl _ w) rfl _ (.inl rfl) (fun ρ w hC hc hfn hf => by have e6 : ρ (.tmp 6) = _ := hf 6 (by decide); (conv => lhs; simp [execOp, go_sem, hc, e6])) ?_
      intro A V5 hC hn hd hf
      have y0 : A.eval (.tmp 0) = _ := Eq.trans (hf 0) (by conv => lhs; simp [go_sem])
      have y1 : A.eval (.tmp 1) = _ := Eq.trans (hf 1) (by conv => lhs; simp [go_sem])
      have y2 : A.eval (.tmp 2) = _ := Eq.trans (hf 2) (by conv => lhs; simp [go_sem])
      have y3 : A.eval (.tmp 3) = _ := Eq.trans (hf 3) (by conv => lhs; simp [go_sem])
      have y4 : A.eval (.tmp 4) = _ := Eq.trans (hf 4) (by conv => lhs; simp [go_sem])
      have y5 : A.eval (.tmp 5) = _ := Eq.trans (hf 5) (by conv => lhs; simp [go_sem])
      have y6 : A.eval (.tmp 6) = _ := Eq.trans (hf 6) (by conv => lhs; simp [go_sem])
      have y7 : A.eval (.tmp 7) = _ := Eq.trans (hf 7) (by conv => lhs; simp [go_sem])
      have y8 : A.eval (.tmp 8) = _ := Eq.trans (hf 8) (by conv => lhs; simp [go_sem])
      have y9 : A.eval (.tmp 9) = _ := Eq.trans (hf 9) (by conv => lhs; simp [go_sem])
      have y10 : A.eval (.tmp 10) = _ := Eq.trans (hf 10) (by conv => lhs; simp [go_sem])
      have y11 : A.eval (.tmp 11) = _ := Eq.trans (hf 11) (by conv => lhs; simp [go_sem])
      have y12 : A.eval (.tmp 12) = _ := Eq.trans (hf 12) (by conv => lhs; simp [go_sem])
      have y13 : A.eval (.tmp 13) = _ := Eq.trans (hf 13) (by conv => lhs; simp [go_sem])
      have y14 : A.eval (.tmp 14) = _ := Eq.trans (hf 14) (by conv => lhs; simp [go_sem])
      have y15 : A.eval (.tmp 15) = _ := Eq.trans (hf 15) (by conv => lhs; simp [go_sem])
      have y16 : A.eval (.tmp 16) = _ := Eq.trans (hf 16) (by conv => lhs; simp [go_sem])
      have y17 : A.eval (.tmp 17) = _ := Eq.trans (hf 17) (by conv => lhs; simp [go_sem])
      have y18 : A.eval (.tmp 18) = _ := Eq.trans (hf 18) (by conv => lhs; simp [go_sem])
      have y19 : A.eval (.tmp 19) = _ := Eq.trans (hf 19) (by conv => lhs; simp [go_sem])
      have y20 : A.eval (.tmp 20) = _ := Eq.trans (hf 20) (by conv => lhs; simp [go_sem])
      have y21 : A.eval (.tmp 21) = _ := Eq.trans (hf 21) (by conv => lhs; simp [go_sem])
      have y22 : A.eval (.tmp 22) = _ := Eq.trans (hf 22) (by conv => lhs; simp [go_sem])
      have y23 : A.eval (.tmp 23) = _ := Eq.trans (hf 23) (by conv => lhs; simp [go_sem])
      have y24 : A.eval (.tmp 24) = _ := hf 24
      have y25 : A.eval (.tmp 25) = _ := hf 25
      have y26 : A.eval (.tmp 26) = _ := hf 26
      have y27 : A.eval (.tmp 27) = _ := hf 27
      have y28 : A.eval (.tmp 28) = _ := hf 28
      have y29 : A.eval (.tmp 29) = _ := hf 29
      have y30 : A.eval (.tmp 30) = _ := hf 30
      have y31 : A.eval (.tmp 31) = _ := Eq.trans (hf 31) (by conv => lhs; simp [go_sem])
      have y32 : A.eval (.tmp 32) = _ := Eq.trans (hf 32) (by conv => lhs; simp [go_sem])
      clear hf
      have hA := frame_eq hn
      rw [show List.range 33 = [0, 1, 2, 3, 4, 5, 6, 7, 8, 9, 10, 11, 12, 13, 14, 15, 16, 17, 18, 19, 20, 21, 22, 23, 24, 25, 26, 27, 28, 29, 30, 31, 32] from rfl, hd] at hA
      simp only [List.map_cons, List.map_nil, y0, y1, y2, y3, y4, y5, y6, y7, y8, y9, y10, y11, y12, y13, y14, y15, y16, y17, y18, y19, y20, y21, y22, y23, y24, y25, y26, y27, y28, y29, y30, y31, y32] at hA
      clear y0 y1 y2 y3 y4 y5 y6 y7 y8 y9 y10 y11 y12 y13 y14 y15 y16 y17 y18 y19 y20 y21 y22 y23 y24 y25 y26 y27 y28 y29 y30 y31 y32
      clear hn hd
      subst hA
      have OA1 := Lib.hid (OA.out.below hC)
      have OR1 := Lib.hid (OR.out.below hC)
      have HW1 : Hid (Below w.heap.size w V5) := HW.out.trans (hC.mono HW.out.size)
      obtain ⟨⟨z0, z1, z2, z3⟩, zf⟩ := OA1.out
      go_wp2_with fail
      go_roundw
      case rel => exact ⟨j + 1, by omega, by go_num, by rw [HT.out]; exact OA1.out.set3 _, OR1.out.apart (by omega) 3, HW1.out.setCell (p := ⟨_, _, _⟩) (by simp) _⟩
      case measure => simp [intOf]; omega
    · obtain rfl : j = cs.length := by omega
      rw [List.take_length] at OA
      obtain ⟨⟨z0, z1, z2, z3⟩, zf⟩ := OR.out
      obtain ⟨⟨y0, y1, y2, y3⟩, yf⟩ := OA.out
      go_wp2_with fail
      have hs := (OR.out.set 0 0 x (mk x cs 16)).1
      have hbs := bel_put4 (b := w.heap.size) HW.out (Nat.le_refl _) 0 0 x (mk x cs 16)
      simp only [put4] at hs hbs
      generalize (((wr.setCell ⟨w.heap.size, 0, none⟩ (.int .i64 0)).setCell ⟨w.heap.size, 1, none⟩ (.int .i64 0)).setCell ⟨w.heap.size, 2, none⟩ (.int .i64 x)).setCell ⟨w.heap.size, 3, none⟩ (.int .i64 (mk x cs 16)) = W5 at *
      obtain ⟨s0_, s1_, s2_, s3_⟩ := hs
      exact bodyPost_ret (v := .tuple #[.agg #[.int .i64 0, .int .i64 0, .int .i64 x, .int .i64 (mk x cs 16)], .int .i64 0]) (by simp [results, Tryz.results31, go_sem, s0_, s1_, s2_, s3_]) rfl ⟨rfl, hbs⟩
end Go.Proofs.YtfiaghfaijlfjaaGreat
