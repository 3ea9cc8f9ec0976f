/- Variables of an ack; what came as an ack: the reference's Of. No conditions but on lengths. -/
import Derived.Test.YtipdjfgaenoepaaAkp
import Derived.Test.YtipdjfgaenoepaaZin
import Derived.Test.YtipdjfgaenoepaaTyp4
namespace Go.Proofs.Ytipdjfgaenoepaa
set_option maxRecDepth 100000
open Go.RowKit

/-- A variable of an ack. -/
def OwnA (w : World) (b : Nat) (y : Int × Int × Int × Int) : Prop := (w.cell? ⟨b, 0, none⟩ = some (.int .i64 y.1) ∧ w.cell? ⟨b, 1, none⟩ = some (.int .i64 y.2.1) ∧ w.cell? ⟨b, 2, none⟩ = some (.int .i64 y.2.2.1) ∧ w.cell? ⟨b, 3, none⟩ = some (.int .i64 y.2.2.2)) ∧ ∀ j, w.frozen? ⟨b, j, none⟩ = false
theorem owna_alloc (w : World) (i p x m : Int) (T : TypeId) (g : Nat) (hg : g = w.heap.size) : OwnA (w.alloc (.cells #[.int .i64 i, .int .i64 p, .int .i64 x, .int .i64 m] T)) g (i, p, x, m) := by
  subst hg
  refine ⟨⟨by simp, by simp, by simp, by simp⟩, fun j => by simp⟩
theorem OwnA.lt {w : World} {b : Nat} {y : Int × Int × Int × Int} (h : OwnA w b y) : b < w.heap.size := World.block_lt_of_cell? w _ h.1.1
theorem OwnA.low {w w' : World} {b S : Nat} {y : Int × Int × Int × Int} (h : OwnA w b y) (hb : b < S) (hB : Below S w w') : OwnA w' b y :=
  ⟨⟨(hB.cell (p := ⟨b, 0, none⟩) hb).trans h.1.1, (hB.cell (p := ⟨b, 1, none⟩) hb).trans h.1.2.1, (hB.cell (p := ⟨b, 2, none⟩) hb).trans h.1.2.2.1, (hB.cell (p := ⟨b, 3, none⟩) hb).trans h.1.2.2.2⟩, fun j => (hB.frozen (p := ⟨b, j, none⟩) hb).trans (h.2 j)⟩
theorem OwnA.below {w w' : World} {b : Nat} {y : Int × Int × Int × Int} (h : OwnA w b y) (hb : Below w.heap.size w w') : OwnA w' b y := h.low h.lt hb

/-- Whether a number came that is k + 1 behind. -/
def hit (x : Int) (cs : List Int) (k : Nat) : Bool := cs.any fun c => far x c == (k : Int) + 1
/-- The mask of what came. -/
def mk (x : Int) (cs : List Int) : Nat → Int
  | 0 => 0
  | k + 1 => mk x cs k + if hit x cs k then pow2 k else 0
theorem mk_bd (x : Int) (cs : List Int) (k : Nat) : 0 ≤ mk x cs k ∧ mk x cs k < pow2 k := by
  induction k with
  | zero => exact ⟨Int.le_refl _, Int.zero_lt_one⟩
  | succ k ih =>
    have := pow2_pos k
    simp only [mk, pow2]
    split <;> omega
theorem OwnA.set3 {w : World} {b : Nat} {i p x m : Int} (h : OwnA w b (i, p, x, m)) (m' : Int) : OwnA (w.setCell ⟨b, 3, none⟩ (.int .i64 m')) b (i, p, x, m') := by
  obtain ⟨⟨h0, h1, h2, h3⟩, hf⟩ := h
  refine ⟨⟨?_, ?_, ?_, ?_⟩, fun j => ?_⟩ <;> simp [go_sem, hf, h0, h1, h2, h3]
theorem OwnA.apart {w : World} {b b' : Nat} {y : Int × Int × Int × Int} {u : Value} (h : OwnA w b y) (hb : b ≠ b') (j : Nat) : OwnA (w.setCell ⟨b', j, none⟩ u) b y := by
  have e : ∀ i, (w.setCell ⟨b', j, none⟩ u).cell? ⟨b, i, none⟩ = w.cell? ⟨b, i, none⟩ := fun i => World.cell?_of_block (Below.heap_setCell w ⟨b', j, none⟩ u b hb)
  have f : ∀ i, (w.setCell ⟨b', j, none⟩ u).frozen? ⟨b, i, none⟩ = w.frozen? ⟨b, i, none⟩ := fun i => World.frozen?_of_block (Below.heap_setCell w ⟨b', j, none⟩ u b hb)
  exact ⟨⟨(e 0).trans h.1.1, (e 1).trans h.1.2.1, (e 2).trans h.1.2.2.1, (e 3).trans h.1.2.2.2⟩, fun i => (f i).trans (h.2 i)⟩
/-- An ack laid into a variable. -/
def put4 (w : World) (b : Nat) (i p x m : Int) : World := (((w.setCell ⟨b, 0, none⟩ (.int .i64 i)).setCell ⟨b, 1, none⟩ (.int .i64 p)).setCell ⟨b, 2, none⟩ (.int .i64 x)).setCell ⟨b, 3, none⟩ (.int .i64 m)
theorem OwnA.set {w : World} {b : Nat} {y : Int × Int × Int × Int} (h : OwnA w b y) (i p x m : Int) : OwnA (put4 w b i p x m) b (i, p, x, m) := by
  obtain ⟨⟨h0, h1, h2, h3⟩, hf⟩ := h
  unfold put4
  refine ⟨⟨?_, ?_, ?_, ?_⟩, fun j => ?_⟩ <;> simp [go_sem, hf, h0, h1, h2, h3]
theorem bel_put4 {B : Nat} {u w : World} {b : Nat} (h : Below B u w) (hB : B ≤ b) (i p x m : Int) : Below B u (put4 w b i p x m) :=
  (((h.setCell (p := ⟨b, 0, none⟩) hB _).setCell (p := ⟨b, 1, none⟩) hB _).setCell (p := ⟨b, 2, none⟩) hB _).setCell (p := ⟨b, 3, none⟩) hB _
theorem hit_take {x : Int} {cs : List Int} {k j : Nat} (hj : j < cs.length) : (cs.take (j + 1)).any (fun c => far x c == (k : Int) + 1) = ((cs.take j).any (fun c => far x c == (k : Int) + 1) || far x (cs.getD j 0) == (k : Int) + 1) := by
  rw [List.take_succ_eq_append_getElem hj, List.any_append]
  simp [List.getD, hj]
set_option maxHeartbeats 32000000 in
theorem rof_ok (x : Int) (v : Value) (cs : List Int) (w : World) (hx : 0 ≤ x ∧ x ≤ 65535) (hv : Zs w v cs) (hl : cs.length ≤ 1000) :
    Calls Try.prog 12 #[.int .i64 x, v] w fun e w' => e = .returned (.tuple #[.agg #[.int .i64 0, .int .i64 0, .int .i64 x, .int .i64 (mk x cs 16)], .int .i64 0]) ∧ Below w.heap.size w w' := by
  have HV := Lib.hid hv
  obtain ⟨a, c, rfl, -, -, -⟩ := Zs_open hv
  clear hv
  have hx0 : decide (x < 0) = false := decide_eq_false (by omega)
  have hx1 : decide (x > 65535) = false := decide_eq_false (by omega)
  go_enter Try.func12, Try.ntmps12
  go_wp2_with fail
  obtain ⟨V, hVe⟩ : ∃ V, (w.alloc (.cells #[.int .i64 0, .int .i64 0, .int .i64 0, .int .i64 0] 30)).alloc (.cells #[.int .i64 0, .int .i64 0, .int .i64 x, .int .i64 0] 30) = V := ⟨_, rfl⟩
  have hs1 : (w.alloc (.cells #[.int .i64 0, .int .i64 0, .int .i64 0, .int .i64 0] 30)).heap.size = w.heap.size + 1 := by simp
  have hb1 : Below w.heap.size w (w.alloc (.cells #[.int .i64 0, .int .i64 0, .int .i64 0, .int .i64 0] 30)) := (Below.refl _ w).alloc (Nat.le_refl _) _
  have OA := owna_alloc (w.alloc (.cells #[.int .i64 0, .int .i64 0, .int .i64 0, .int .i64 0] 30)) 0 0 x 0 30 (w.heap.size + 1) hs1.symm
  have OR := (owna_alloc w 0 0 0 0 30 w.heap.size rfl).below ((Below.refl _ _).alloc (Nat.le_refl _) (.cells #[.int .i64 0, .int .i64 0, .int .i64 x, .int .i64 0] 30))
  have HB : Below w.heap.size w ((w.alloc (.cells #[.int .i64 0, .int .i64 0, .int .i64 0, .int .i64 0] 30)).alloc (.cells #[.int .i64 0, .int .i64 0, .int .i64 x, .int .i64 0] 30)) := hb1.alloc (by omega) _
  rw [hVe] at OA OR HB
  rw [hVe]
  clear hVe hs1 hb1 hx0 hx1
  have OA0 := Lib.hid OA
  have OR0 := Lib.hid OR
  have HB0 := Lib.hid HB
  clear OA OR HB
  go_loopw [7] (fun i wr => ∃ k : Nat, k ≤ 16 ∧ i = .int .i64 ((k : Int) + 1) ∧ OwnA wr (w.heap.size + 1) (0, 0, x, mk x cs k) ∧ OwnA wr w.heap.size (0, 0, 0, 0) ∧ Below w.heap.size w wr) (fun i _ => 17 - (intOf i).toNat)
  case atStart => exact ⟨0, Nat.zero_le _, rfl, OA0.out, OR0.out, HB0.out⟩
  case round =>
    obtain ⟨k, hk, rfl, oa, or, hbel⟩ := hrel
    have OA := Lib.hid oa
    have OR := Lib.hid or
    have HW := Lib.hid hbel
    clear oa or hbel OA0 OR0 HB0
    by_cases hlt : k < 16
    · have g : (k : Int) + 1 ≤ 16 := by omega
      have HZ := Lib.hid (Zs_below HV.out HW.out)
      go_wp2_with fail
      obtain ⟨wo, hwo⟩ : ∃ wo, wo = wr := ⟨_, rfl⟩
      subst hwo
      go_loop [8, 9] (fun d i => ∃ j : Nat, j ≤ cs.length ∧ i = .int .i64 j ∧ d = .bool ((cs.take j).any fun c => far x c == (k : Int) + 1)) (fun _ i => cs.length - (intOf i).toNat)
      case atStart => exact ⟨0, Nat.zero_le _, rfl, rfl⟩
      case round =>
        obtain ⟨j, hj, rfl, rfl⟩ := hrel
        by_cases hlj : j < cs.length
        · have HT := Lib.hid (hit_take (x := x) (k := k) hlj)
          obtain ⟨a', c', hv1, -, -, hcs⟩ := Zs_open HZ.out
          simp only [Value.slice.injEq] at hv1
          obtain ⟨rfl, -, rfl⟩ := hv1
          obtain ⟨b, off, rfl, p0⟩ := hcs j hlj
          clear hcs
          obtain ⟨y, hy⟩ : ∃ y, cs.getD j 0 = y := ⟨_, rfl⟩
          rw [hy] at p0
          have HT' : Hid ((cs.take (j + 1)).any (fun c => far x c == (k : Int) + 1) = ((cs.take j).any (fun c => far x c == (k : Int) + 1) || far x y == (k : Int) + 1)) := by rw [← hy]; exact HT.out
          clear HT hy
          have cF := fun W => rfar_any x y W
          generalize (cs.take j).any (fun c => far x c == (k : Int) + 1) = D at *
          generalize far x y = f at *
          cases D with
          | true =>
            go_wp2_with fail
            go_round
            case rel => exact ⟨j + 1, by omega, by go_num, by rw [HT'.out]; rfl⟩
            case measure => simp [intOf]; omega
          | false =>
            go_wp2_with fail
            refine (cF _).mono ?_
            rintro e w2 ⟨rfl, hw⟩
            subst hw
            go_wp2_with fail
            go_round
            case rel => exact ⟨j + 1, by omega, by go_num, by rw [HT'.out]; rfl⟩
            case measure => simp [intOf]; omega
        · obtain rfl : j = cs.length := by omega
          have hh : (cs.take cs.length).any (fun c => far x c == (k : Int) + 1) = hit x cs k := by rw [List.take_length]; rfl
          rw [hh]
          clear hh
          obtain ⟨h, hh⟩ : ∃ h, hit x cs k = h := ⟨_, rfl⟩
          rw [hh]
          have HM : Hid (mk x cs (k + 1) = mk x cs k + if h then pow2 k else 0) := by show mk x cs (k + 1) = _; rw [← hh]; rfl
          have hb0 := mk_bd x cs k
          have hb1 := mk_bd x cs (k + 1)
          have hb2 := pow2_small (n := k + 1) (by omega)
          clear hh
          cases h with
          | false =>
            go_wp2_with fail
            go_roundw
            case rel => exact ⟨k + 1, by omega, by go_num, by rw [HM.out]; simpa using OA.out, OR.out, HW.out⟩
            case measure => simp [intOf]; omega
          | true =>
            go_wp2_with fail
            have cP := fun w => rpow2_any k w (by omega)
            have hkw : IntKind.i64.wrap (k : Int) = k := by rw [IntKind.wrap_i64]; omega
            obtain ⟨P, hP⟩ : ∃ P, pow2 k = P := ⟨_, rfl⟩
            obtain ⟨m, hm⟩ : ∃ m, mk x cs k = m := ⟨_, rfl⟩
            rw [hP] at cP HM
            have HM1 := HM.out
            rw [if_pos trivial] at HM1
            rw [HM1] at hb1
            rw [hm] at HM1 OA hb0 hb1
            have hsw : IntKind.i64.wrap (m + P) = m + P := by rw [IntKind.wrap_i64]; omega
            have HM2 := Lib.hid HM1
            clear HM1 HM
            have kc : ∀ w', Below wo.heap.size wo w' → w'.cell? ⟨w.heap.size + 1, 3, none⟩ = some (.int .i64 m) := fun w' h => (OA.out.below h).1.2.2.2
            refine T3.wp_region_tail (C := fun w' => Below wo.heap.size wo w') (X := fun _ w w' => Below w.heap.size w w') (n := 49) 7 (by kernel_rfl) (by kernel_rfl) (by kernel_rfl) (by kernel_rfl) rfl (fun _ w => Below.refl _ w) (Below.refl _ _).drew ?_
            simp only [List.take_succ_cons, List.take_zero, List.drop_succ_cons, List.drop_zero]
            refine T3.w_is (fun _ w => Below.refl _ w) rfl _ (.inl rfl) (fun ρ w hC hc hfn hf => by have e6 : ρ (.tmp 6) = _ := hf 6 (by decide); (conv => lhs; simp [execOp, go_sem, hc, e6])) ?_
            refine T3.w_is (fun _ w => Below.refl _ w) rfl _ (.inl rfl) (fun ρ w hC hc hfn hf => by have e41 : ρ (.tmp 41) = _ := hf 41 (by decide); (conv => lhs; simp [execOp, go_sem, hc, e41, kc w hC])) ?_
            refine T3.w_is (fun _ w => Below.refl _ w) rfl _ (.inl rfl) (fun ρ w hC hc hfn hf => by have e7 : ρ (.tmp 7) = _ := hf 7 (by decide); (conv => lhs; simp [execOp, go_sem, hc, e7])) ?_
            refine T3.w_is (fun _ w => Below.refl _ w) rfl _ (.inl rfl) (fun ρ w hC hc hfn hf => by have e43 : ρ (.tmp 43) = _ := hf 43 (by decide); (conv => lhs; simp [execOp, go_sem, hc, e43, hkw])) ?_
            refine T3.w_call rfl (Is _) (fun _ _ _ _ _ h _ => h) 29 (.inl rfl) (fun ρ w hC hc hfn hf => by have e44 : ρ (.tmp 44) = _ := hf 44 (by decide); exact ⟨_, by (conv => lhs; simp [execOp, resolve, invoke, go_sem, hc, hfn, e44]), (cP w).mono fun e w' h => ⟨_, h.1, h.2 ▸ hC, h.2 ▸ Below.refl _ _, rfl⟩⟩) ?_
            refine T3.w_is (fun _ w => Below.refl _ w) rfl _ (.inl rfl) (fun ρ w hC hc hfn hf => by have e42 : ρ (.tmp 42) = _ := hf 42 (by decide); have e45 : ρ (.tmp 45) = _ := hf 45 (by decide); (conv => lhs; simp [execOp, go_sem, hc, e42, e45, hsw])) ?_
            refine T3.w_is (fun _ w => Below.refl _ w) rfl _ (.inl rfl) (fun ρ w hC hc hfn hf => by have e6 : ρ (.tmp 6) = _ := hf 6 (by decide); (conv => lhs; simp [execOp, go_sem, hc, e6])) ?_
            intro A V5 hC hn hd hf
            have y0 : A.eval (.tmp 0) = _ := Eq.trans (hf 0) (by conv => lhs; simp [go_sem])
            have y1 : A.eval (.tmp 1) = _ := Eq.trans (hf 1) (by conv => lhs; simp [go_sem])
            have y2 : A.eval (.tmp 2) = _ := Eq.trans (hf 2) (by conv => lhs; simp [go_sem])
            have y3 : A.eval (.tmp 3) = _ := Eq.trans (hf 3) (by conv => lhs; simp [go_sem])
            have y4 : A.eval (.tmp 4) = _ := Eq.trans (hf 4) (by conv => lhs; simp [go_sem])
            have y5 : A.eval (.tmp 5) = _ := Eq.trans (hf 5) (by conv => lhs; simp [go_sem])
            have y6 : A.eval (.tmp 6) = _ := Eq.trans (hf 6) (by conv => lhs; simp [go_sem])
            have y7 : A.eval (.tmp 7) = _ := Eq.trans (hf 7) (by conv => lhs; simp [go_sem])
            have y8 : A.eval (.tmp 8) = _ := Eq.trans (hf 8) (by conv => lhs; simp [go_sem])
            have y9 : A.eval (.tmp 9) = _ := Eq.trans (hf 9) (by conv => lhs; simp [go_sem])
            have y10 : A.eval (.tmp 10) = _ := Eq.trans (hf 10) (by conv => lhs; simp [go_sem])
            have y11 : A.eval (.tmp 11) = _ := Eq.trans (hf 11) (by conv => lhs; simp [go_sem])
            have y12 : A.eval (.tmp 12) = _ := Eq.trans (hf 12) (by conv => lhs; simp [go_sem])
            have y13 : A.eval (.tmp 13) = _ := Eq.trans (hf 13) (by conv => lhs; simp [go_sem])
            have y14 : A.eval (.tmp 14) = _ := Eq.trans (hf 14) (by conv => lhs; simp [go_sem])
            have y15 : A.eval (.tmp 15) = _ := Eq.trans (hf 15) (by conv => lhs; simp [go_sem])
            have y16 : A.eval (.tmp 16) = _ := Eq.trans (hf 16) (by conv => lhs; simp [go_sem])
            have y17 : A.eval (.tmp 17) = _ := Eq.trans (hf 17) (by conv => lhs; simp [go_sem])
            have y18 : A.eval (.tmp 18) = _ := Eq.trans (hf 18) (by conv => lhs; simp [go_sem])
            have y19 : A.eval (.tmp 19) = _ := Eq.trans (hf 19) (by conv => lhs; simp [go_sem])
            have y20 : A.eval (.tmp 20) = _ := Eq.trans (hf 20) (by conv => lhs; simp [go_sem])
            have y21 : A.eval (.tmp 21) = _ := Eq.trans (hf 21) (by conv => lhs; simp [go_sem])
            have y22 : A.eval (.tmp 22) = _ := Eq.trans (hf 22) (by conv => lhs; simp [go_sem])
            have y23 : A.eval (.tmp 23) = _ := Eq.trans (hf 23) (by conv => lhs; simp [go_sem])
            have y24 : A.eval (.tmp 24) = _ := Eq.trans (hf 24) (by conv => lhs; simp [go_sem])
            have y25 : A.eval (.tmp 25) = _ := Eq.trans (hf 25) (by conv => lhs; simp [go_sem])
            have y26 : A.eval (.tmp 26) = _ := Eq.trans (hf 26) (by conv => lhs; simp [go_sem])
            have y27 : A.eval (.tmp 27) = _ := Eq.trans (hf 27) (by conv => lhs; simp [go_sem])
            have y28 : A.eval (.tmp 28) = _ := Eq.trans (hf 28) (by conv => lhs; simp [go_sem])
            have y29 : A.eval (.tmp 29) = _ := Eq.trans (hf 29) (by conv => lhs; simp [go_sem])
            have y30 : A.eval (.tmp 30) = _ := Eq.trans (hf 30) (by conv => lhs; simp [go_sem])
            have y31 : A.eval (.tmp 31) = _ := Eq.trans (hf 31) (by conv => lhs; simp [go_sem])
            have y32 : A.eval (.tmp 32) = _ := Eq.trans (hf 32) (by conv => lhs; simp [go_sem])
            have y33 : A.eval (.tmp 33) = _ := Eq.trans (hf 33) (by conv => lhs; simp [go_sem])
            have y34 : A.eval (.tmp 34) = _ := Eq.trans (hf 34) (by conv => lhs; simp [go_sem])
            have y35 : A.eval (.tmp 35) = _ := Eq.trans (hf 35) (by conv => lhs; simp [go_sem])
            have y36 : A.eval (.tmp 36) = _ := Eq.trans (hf 36) (by conv => lhs; simp [go_sem])
            have y37 : A.eval (.tmp 37) = _ := Eq.trans (hf 37) (by conv => lhs; simp [go_sem])
            have y38 : A.eval (.tmp 38) = _ := Eq.trans (hf 38) (by conv => lhs; simp [go_sem])
            have y39 : A.eval (.tmp 39) = _ := Eq.trans (hf 39) (by conv => lhs; simp [go_sem])
            have y40 : A.eval (.tmp 40) = _ := Eq.trans (hf 40) (by conv => lhs; simp [go_sem])
            have y41 : A.eval (.tmp 41) = _ := hf 41
            have y42 : A.eval (.tmp 42) = _ := hf 42
            have y43 : A.eval (.tmp 43) = _ := hf 43
            have y44 : A.eval (.tmp 44) = _ := hf 44
            have y45 : A.eval (.tmp 45) = _ := hf 45
            have y46 : A.eval (.tmp 46) = _ := hf 46
            have y47 : A.eval (.tmp 47) = _ := hf 47
            have y48 : A.eval (.tmp 48) = _ := Eq.trans (hf 48) (by conv => lhs; simp [go_sem])
            clear hf
            have hA := frame_eq hn
            rw [show List.range 49 = [0, 1, 2, 3, 4, 5, 6, 7, 8, 9, 10, 11, 12, 13, 14, 15, 16, 17, 18, 19, 20, 21, 22, 23, 24, 25, 26, 27, 28, 29, 30, 31, 32, 33, 34, 35, 36, 37, 38, 39, 40, 41, 42, 43, 44, 45, 46, 47, 48] from rfl, hd] at hA
            simp only [List.map_cons, List.map_nil, y0, y1, y2, y3, y4, y5, y6, y7, y8, y9, y10, y11, y12, y13, y14, y15, y16, y17, y18, y19, y20, y21, y22, y23, y24, y25, y26, y27, y28, y29, y30, y31, y32, y33, y34, y35, y36, y37, y38, y39, y40, y41, y42, y43, y44, y45, y46, y47, y48] at hA
            clear y0 y1 y2 y3 y4 y5 y6 y7 y8 y9 y10 y11 y12 y13 y14 y15 y16 y17 y18 y19 y20 y21 y22 y23 y24 y25 y26 y27 y28 y29 y30 y31 y32 y33 y34 y35 y36 y37 y38 y39 y40 y41 y42 y43 y44 y45 y46 y47 y48
            clear hn hd
            subst hA
            have OA1 := Lib.hid (OA.out.below hC)
            have OR1 := Lib.hid (OR.out.below hC)
            have HW1 : Hid (Below w.heap.size w V5) := HW.out.trans (hC.mono HW.out.size)
            obtain ⟨⟨z0, z1, z2, z3⟩, zf⟩ := OA1.out
            go_wp2_with fail
            go_roundw
            case rel => exact ⟨k + 1, by omega, by go_num, by rw [HM2.out]; exact OA1.out.set3 _, OR1.out.apart (by omega) 3, HW1.out.setCell (p := ⟨_, _, _⟩) (by simp) _⟩
            case measure => simp [intOf]; omega
    · obtain rfl : k = 16 := by omega
      obtain ⟨⟨z0, z1, z2, z3⟩, zf⟩ := OR.out
      obtain ⟨⟨y0, y1, y2, y3⟩, yf⟩ := OA.out
      go_wp2_with fail
      have hs := (OR.out.set 0 0 x (mk x cs 16)).1
      have hbs := bel_put4 (b := w.heap.size) HW.out (Nat.le_refl _) 0 0 x (mk x cs 16)
      simp only [put4] at hs hbs
      generalize (((wr.setCell ⟨w.heap.size, 0, none⟩ (.int .i64 0)).setCell ⟨w.heap.size, 1, none⟩ (.int .i64 0)).setCell ⟨w.heap.size, 2, none⟩ (.int .i64 x)).setCell ⟨w.heap.size, 3, none⟩ (.int .i64 (mk x cs 16)) = W5 at *
      obtain ⟨s0_, s1_, s2_, s3_⟩ := hs
      exact bodyPost_ret (v := .tuple #[.agg #[.int .i64 0, .int .i64 0, .int .i64 x, .int .i64 (mk x cs 16)], .int .i64 0]) (by simp [results, Try.results12, go_sem, s0_, s1_, s2_, s3_]) rfl ⟨rfl, hbs⟩
theorem rof_no (x : Int) (v : Value) (w : World) (hx : ¬ (0 ≤ x ∧ x ≤ 65535)) :
    Calls Try.prog 12 #[.int .i64 x, v] w fun e w' => e = .returned (.tuple #[.agg #[.int .i64 0, .int .i64 0, .int .i64 0, .int .i64 0], .int .i64 1]) ∧ Below w.heap.size w w' := by
  have HB : Hid (Below w.heap.size w (w.alloc (.cells #[.int .i64 0, .int .i64 0, .int .i64 0, .int .i64 0] 30))) := (Below.refl _ w).alloc (Nat.le_refl _) _
  by_cases h0 : x < 0
  · go_enter Try.func12, Try.ntmps12
    go_wp2_with fail
    exact bodyPost_ret (v := .tuple #[.agg #[.int .i64 0, .int .i64 0, .int .i64 0, .int .i64 0], .int .i64 1]) (by simp [results, Try.results12, go_sem]) rfl ⟨rfl, HB.out⟩
  · have h1 : x > 65535 := by omega
    go_enter Try.func12, Try.ntmps12
    go_wp2_with fail
    exact bodyPost_ret (v := .tuple #[.agg #[.int .i64 0, .int .i64 0, .int .i64 0, .int .i64 0], .int .i64 1]) (by simp [results, Try.results12, go_sem]) rfl ⟨rfl, HB.out⟩
#print axioms rof_ok
#print axioms rof_no
end Go.Proofs.Ytipdjfgaenoepaa
