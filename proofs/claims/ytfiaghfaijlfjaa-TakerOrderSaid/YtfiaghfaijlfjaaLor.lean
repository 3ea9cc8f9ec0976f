/- thalweglaw15.TakerOrder: for any rows of objects and any places the law answers true; no condition. -/
import Derived.Test.YtfiaghfaijlfjaaPd
import Derived.WalkLawsBesides
import Derived.WalkKit
import Derived.ProofKit
import Derived.OpenShut
import Derived.ShutString
import Derived.ChangeOld
import Derived.Below
namespace Go.Proofs.Ytfiaghfaijlfjaa.takerOrder
open Go.ChangeShapes Go.WideShapes Go.ChangeAt Go.RowKit
open Go.ChangeMaps (open_string shut_string)
set_option linter.unusedVariables false
set_option maxRecDepth 100000

theorem own : ownKnob Try.prog.godebug = none := by kernel_rfl
theorem laidOut : laidOutB Try.prog = true := by kernel_rfl
theorem bts_at {w : World} {a : Option Addr} {c : Nat} {l : List Bt} (h : Bts w (.slice a l.length c) l) {k : Nat} (hk : k < l.length) {x : Bt} (hx : l.getD k zb = x) : ∃ b off sa sc, a = some ⟨b, off, none⟩ ∧ w.cell? ⟨b, off + k * 2, none⟩ = some (.int .i64 x.1) ∧ w.cell? ⟨b, off + k * 2 + 1, none⟩ = some (.slice sa x.2.length sc) ∧ Os w (.slice sa x.2.length sc) x.2 ∧ ∀ ad n c', Value.slice sa x.2.length sc = .slice (some ad) n c' → x.2 ≠ [] → ad.block < w.heap.size := by
  subst hx
  rcases h with ⟨a', c', e, e0⟩ | ⟨b, off, c', e, hcells⟩
  · rw [e0] at hk
    exact absurd hk (Nat.not_lt_zero _)
  · simp only [Value.slice.injEq] at e
    obtain ⟨rfl, -, rfl⟩ := e
    obtain ⟨h1, s, hs, ho⟩ := hcells k hk
    obtain ⟨sa, sc, rfl⟩ := ho.form
    refine ⟨b, off, sa, sc, rfl, h1, hs, ho, fun ad n c' e hne => ?_⟩
    rcases ho with ⟨a2, c2, e2, _, h0⟩ | ⟨b2, o2, c2, e2, _, h3, _⟩
    · exact absurd h0 hne
    · rw [e2] at e
      simp only [Value.slice.injEq, Option.some.injEq] at e
      rw [← e.1]
      exact h3
theorem field_ack (x m : Int) (w : World) : (Instr.field 44 (.agg #[.int .i64 0, .int .i64 0, .int .i64 x, .int .i64 m]) 2).run Try.prog w = .ok (.int .i64 x) w := by kernel_rfl
theorem oss_at {w : World} {a : Option Addr} {c : Nat} {l : List (List Ob)} (h : Oss w (.slice a l.length c) l) {k : Nat} (hk : k < l.length) {x : List Ob} (hx : l.getD k [] = x) : ∃ b off sa sc, a = some ⟨b, off, none⟩ ∧ w.cell? ⟨b, off + k, none⟩ = some (.slice sa x.length sc) ∧ Os w (.slice sa x.length sc) x := by
  subst hx
  rcases h with ⟨a', c', e, e0⟩ | ⟨b, off, c', e, hcells⟩
  · rw [e0] at hk
    exact absurd hk (Nat.not_lt_zero _)
  · simp only [Value.slice.injEq] at e
    obtain ⟨rfl, -, rfl⟩ := e
    obtain ⟨u, hu, ho⟩ := hcells k hk
    obtain ⟨sa, sc, rfl⟩ := ho.form
    exact ⟨b, off, sa, sc, rfl, hu, ho⟩
/-- The first k batches. -/
def batN (l : List (List Ob)) (k : Nat) : List Bt := (List.range k).map fun (i : Nat) => (Int.ofNat i, l.getD i [])
theorem batN_succ (l : List (List Ob)) (k : Nat) : batN l (k + 1) = batN l k ++ [(Int.ofNat k, l.getD k [])] := by
  unfold batN
  rw [List.range_succ, List.map_append]
  rfl
theorem batN_len (l : List (List Ob)) (k : Nat) : (batN l k).length = k := by unfold batN; rw [List.length_map, List.length_range]
theorem batN_at (l : List (List Ob)) {k i : Nat} (h : i < k) : (batN l k)[i]? = some (Int.ofNat i, l.getD i []) := by
  unfold batN
  rw [List.getElem?_map, List.getElem?_range h]
  rfl
theorem batN_told (l : List (List Ob)) {k q : Nat} (hq : q ≤ k) : ((batN l k).take q).map Prod.snd = (List.range q).map fun i => l.getD i [] := by
  induction q with
  | zero => rfl
  | succ q ih =>
    rw [List.take_add_one, List.map_append, ih (by omega), batN_at l (by omega), List.range_succ, List.map_append]
    rfl
theorem ob_at {w : World} {a : Option Addr} {c : Nat} {ys : List Ob} (h : Os w (.slice a ys.length c) ys) {j : Nat} (hj : j < ys.length) {y : Ob} (hy : ys.getD j z12 = y) : ∃ b off, a = some ⟨b, off, none⟩ ∧ C12 w b (off + j * 12) y := by
  subst hy
  rcases h with ⟨a', c', e, _, e0⟩ | ⟨b, off, c', e, _, _, h4⟩
  · rw [e0] at hj
    exact absurd hj (Nat.not_lt_zero _)
  · simp only [Value.slice.injEq] at e
    exact ⟨b, off, e.1, h4 j hj⟩
set_option maxHeartbeats 16000000 in
theorem walk (a0 : Option Addr) (cap0 : Nat) (z0 : List (List Ob)) (a1 : Option Addr) (cap1 : Nat) (z1 : List Int) (w : World) (r0 : Oss w (.slice a0 z0.length cap0) z0) (r1 : Is9 w (.slice a1 z1.length cap1) z1) :
    Calls Try.prog 3 #[.slice a0 z0.length cap0, .slice a1 z1.length cap1] w fun e w' => e = .returned (.bool true) ∧ Below w.heap.size w w' := by
  have HR := Lib.hid r0
  have HI := Lib.hid r1
  clear r0 r1
  by_cases h60 : (60 : Int) < z0.length
  · have hd : decide ((60 : Int) < z0.length) = true := decide_eq_true h60
    go_enter Try.func3, Try.ntmps3
    go_wp2_with fail
    go_ret
    exact ⟨rfl, Below.refl _ _⟩
  have hd6 : decide ((60 : Int) < z0.length) = false := decide_eq_false h60
  by_cases h200 : (200 : Int) < z1.length
  · have hd : decide ((200 : Int) < z1.length) = true := decide_eq_true h200
    go_enter Try.func3, Try.ntmps3
    go_wp2_with fail
    go_ret
    exact ⟨rfl, Below.refl _ _⟩
  have hd2 : decide ((200 : Int) < z1.length) = false := decide_eq_false h200
  have HL60 : Hid (z0.length ≤ 60) := by show _ ≤ _; omega
  have HL200 : Hid (z1.length ≤ 200) := by show _ ≤ _; omega
  clear h60 h200
  go_enter Try.func3, Try.ntmps3
  go_wp2_with fail
  clear hd6 hd2
  go_loopw [5, 6] (fun lv iv wr => ∃ (k : Nat) (a : Option Addr) (c : Nat) (ys : List (RBW w).α), k ≤ z0.length ∧ iv = .int .i64 k ∧ lv = .slice a k c ∧ Hid (List.length (α := (RBW w).α) ys = k ∧ ys.map (fun q => q.1.1) = batN z0 k) ∧ Hid (wr.ownsRow w.heap.size (RBW w).T (RBW w).K (.slice a k c) k (gflat (RBW w) ys)) ∧ Hid (∀ i, i < k → BtOk i (z0.getD i [])) ∧ Hid (Below w.heap.size w wr)) (fun _ iv _ => z0.length - (intOf iv).toNat)
  case atStart => exact ⟨0, none, 0, [], Nat.zero_le _, rfl, rfl, ⟨rfl, rfl⟩, gown_nil (R := RBW w) _ _, fun i hi => absurd hi (Nat.not_lt_zero i), Below.refl _ _⟩
  case round =>
    obtain ⟨k, a, c, ys, hk, rfl, rfl, HYS, HOW, HBK, HB⟩ := hrel
    have hl60 := HL60.out
    by_cases hlt : k < z0.length
    · have hltz : decide ((k : Int) < z0.length) = true := decide_eq_true (by omega)
      obtain ⟨x, hx⟩ : ∃ x, z0.getD k [] = x := ⟨_, rfl⟩
      obtain ⟨bk, off, sa, sc, rfl, k1, hos⟩ := oss_at HR.out hlt hx
      have hkl := World.block_lt_of_cell? w _ k1
      have hcx : ∀ W, Below w.heap.size w W → W.cell? ⟨bk, off + k, none⟩ = some (.slice sa x.length sc) := fun W hb => (hb.cell (p := ⟨bk, off + k, none⟩) hkl).trans k1
      have HCX := Lib.hid hcx
      have HOS := Lib.hid hos
      have HX := Lib.hid hx
      have c1 := hcx wr HB.out
      clear hcx hos k1 hkl hx
      obtain ⟨v7, hv7⟩ : ∃ v, wr.alloc (.cells #[.int .i64 k, .slice sa x.length sc] 27) = v := ⟨_, rfl⟩
      obtain ⟨q7, hq7⟩ : ∃ q, wr.heap.size = q := ⟨_, rfl⟩
      have hb7 : Below wr.heap.size wr v7 := hv7 ▸ (Below.refl _ _).alloc (Nat.le_refl _) _
      have HB7 : Hid (Below w.heap.size w v7) := HB.out.trans (hb7.mono HB.out.size)
      have HX7 : Hid (v7.cell? ⟨q7, 0, none⟩ = some (.int .i64 k) ∧ v7.cell? ⟨q7, 1, none⟩ = some (.slice sa x.length sc)) := by
        constructor <;> (rw [← hv7, ← hq7]; simp)
      have HOW7 : Hid (v7.ownsRow w.heap.size (RBW w).T (RBW w).K (.slice a k c) k (gflat (RBW w) ys)) := gown_below HOW.out hb7
      have HV7 := Lib.hid hv7
      have HQ7 := Lib.hid hq7
      clear hv7 hq7 hb7
      go_upto_region 8 with (fail)
      clear c1
      rw [HV7.out]
      try simp only [HQ7.out]
      have c1 := HCX.out v7 HB7.out
      by_cases hb1 : (x.length : Int) < 1
      · have hd : decide ((x.length : Int) < 1) = true := decide_eq_true hb1
        have hd0 : x = [] := List.eq_nil_of_length_eq_zero (by omega)
        have hd00 : x.length = 0 := by omega
        go_wp2_with (go_at_call 6; refine (awake15 _).mono ?_; rintro e W9 ⟨rfl, hb9⟩; have HB9 := Lib.hid (HB7.out.trans (hb9.mono HB7.out.size)); clear hb9)
        go_ret
        exact ⟨rfl, HB9.out⟩
      by_cases hb10 : (10 : Int) < x.length
      · have hd : decide ((x.length : Int) < 1) = false := decide_eq_false hb1
        have hdd : decide ((10 : Int) < x.length) = true := decide_eq_true hb10
        go_wp2_with (go_at_call 6; refine (awake15 _).mono ?_; rintro e W9 ⟨rfl, hb9⟩; have HB9 := Lib.hid (HB7.out.trans (hb9.mono HB7.out.size)); clear hb9)
        go_ret
        exact ⟨rfl, HB9.out⟩
      have HLX : Hid (1 ≤ x.length ∧ x.length ≤ 10) := by constructor <;> omega
      have hd : decide ((x.length : Int) < 1) = false := decide_eq_false hb1
      have hdd : decide ((10 : Int) < x.length) = false := decide_eq_false hb10
      go_wp2_with fail
      clear hd hdd hb1 hb10 c1
      go_loopw [8] (fun jv wq => ∃ j : Nat, j ≤ x.length ∧ jv = .int .i64 j ∧ Hid (∀ i, i < j → (x.getD i z12).Ok) ∧ Hid (Below v7.heap.size v7 wq)) (fun jv _ => x.length - (intOf jv).toNat)
      case atStart => exact ⟨0, Nat.zero_le _, rfl, fun i hi => absurd hi (Nat.not_lt_zero i), Below.refl _ _⟩
      case round =>
        obtain ⟨j, hj, rfl, HJ, HBJ⟩ := hrel
        have HBQ : Hid (Below w.heap.size w wr) := HB7.out.trans (HBJ.out.mono HB7.out.size)
        have hlx := HLX.out
        have c1 := HCX.out wr HBQ.out
        by_cases hlj : j < x.length
        · have hjz : decide ((j : Int) < x.length) = true := decide_eq_true (by omega)
          obtain ⟨y, hy⟩ : ∃ y, x.getD j z12 = y := ⟨_, rfl⟩
          obtain ⟨bo, oo, rfl, h12⟩ := ob_at (HOS.out.below HBQ.out) hlj hy
          have u0 : wr.cell? ⟨bo, oo + j * 12, none⟩ = some (.int .i64 y.k) := h12 0 (by decide)
          have u1 : wr.cell? ⟨bo, oo + j * 12 + 1, none⟩ = some (.int .i64 y.x) := h12 1 (by decide)
          have u2 : wr.cell? ⟨bo, oo + j * 12 + 2, none⟩ = some (.bool y.n) := h12 2 (by decide)
          have u3 : wr.cell? ⟨bo, oo + j * 12 + 3, none⟩ = some (.int .i64 y.t) := h12 3 (by decide)
          have u4 : wr.cell? ⟨bo, oo + j * 12 + 4, none⟩ = some (.int .i64 y.o) := h12 4 (by decide)
          have u5 : wr.cell? ⟨bo, oo + j * 12 + 5, none⟩ = some (.int .i64 y.r) := h12 5 (by decide)
          have u6 : wr.cell? ⟨bo, oo + j * 12 + 6, none⟩ = some (.int .i64 y.d) := h12 6 (by decide)
          have u7 : wr.cell? ⟨bo, oo + j * 12 + 7, none⟩ = some (.int .i64 y.i) := h12 7 (by decide)
          have u8 : wr.cell? ⟨bo, oo + j * 12 + 8, none⟩ = some (.int .i64 y.p) := h12 8 (by decide)
          have u9 : wr.cell? ⟨bo, oo + j * 12 + 9, none⟩ = some (.int .i64 y.q) := h12 9 (by decide)
          have u10 : wr.cell? ⟨bo, oo + j * 12 + 10, none⟩ = some (.int .i64 y.s) := h12 10 (by decide)
          have u11 : wr.cell? ⟨bo, oo + j * 12 + 11, none⟩ = some (.int .i64 y.m) := h12 11 (by decide)
          have HY := Lib.hid hy
          have hjx : (j : Int) < x.length := by omega
          clear h12 hy
          obtain ⟨qo, hqo⟩ : ∃ qo, decide (ObOk y.k y.x y.n y.t y.o y.r y.d y.i y.p y.q y.s y.m) = qo := ⟨_, rfl⟩
          have CO := oright_any y.k y.x y.n y.t y.o y.r y.d y.i y.p y.q y.s y.m wr
          rw [hqo] at CO
          have HQO := Lib.hid hqo
          have HCO := Lib.hid CO
          clear hqo CO
          go_upto_region 13 with (fail)
          cases qo with
          | false =>
            go_wp2_with (first
              | (go_at_call 7; refine HCO.out.mono ?_; rintro e w9 ⟨rfl, hb⟩; have HB9' := Lib.hid (HBQ.out.trans (hb.mono HBQ.out.size)); clear hb u0 u1 u2 u3 u4 u5 u6 u7 u8 u9 u10 u11 c1)
              | (go_at_call 6; refine (awake15 _).mono ?_; rintro e W9 ⟨rfl, hb9⟩; have HB9 := Lib.hid (HB9'.out.trans (hb9.mono HB9'.out.size)); clear hb9))
            go_ret
            exact ⟨rfl, HB9.out⟩
          | true =>
            have hyo : y.Ok := of_decide_eq_true HQO.out
            have HYO := Lib.hid hyo
            clear hyo
            go_wp2_with (go_at_call 7; refine HCO.out.mono ?_; rintro e w9 ⟨rfl, hb⟩; have HBJ9 := Lib.hid (HBJ.out.trans (hb.mono HBJ.out.size)); clear hb u0 u1 u2 u3 u4 u5 u6 u7 u8 u9 u10 u11 c1)
            go_roundw
            case rel =>
              refine ⟨j + 1, by omega, by go_num, fun i hi2 => ?_, HBJ9.out⟩
              by_cases hij : i = j
              · rw [hij, HY.out]; exact HYO.out
              · exact HJ.out i (by omega)
            case measure => simp [intOf]; omega
        · obtain rfl : j = x.length := by omega
          have hjz : decide ((x.length : Int) < x.length) = false := decide_eq_false (by omega)
          obtain ⟨d0, d1⟩ : wr.cell? ⟨q7, 0, none⟩ = some (.int .i64 k) ∧ wr.cell? ⟨q7, 1, none⟩ = some (.slice sa x.length sc) := by
            obtain ⟨e0, e1⟩ := HX7.out
            have hl := World.block_lt_of_cell? v7 _ e0
            exact ⟨(HBJ.out.cell (p := ⟨q7, 0, none⟩) hl).trans e0, (HBJ.out.cell (p := ⟨q7, 1, none⟩) hl).trans e1⟩
          obtain ⟨hyl, hym⟩ := HYS.out
          have how := gown_below HOW7.out HBJ.out
          have hyl' : k = List.length (α := (RBW w).α) ys := hyl.symm
          rw [hyl'] at how
          obtain ⟨g8, c8, w8, hr8, ho8, hb8⟩ := run_rb w.heap.size _ ys how (k : Int) (.slice sa x.length sc) x rfl HOS.out (by rw [hyl]; omega) HBQ.out.size (ty := 24)
          have hyl2 : List.length (α := (RBW w).α) (ys ++ [rbw (k : Int) x (.slice sa x.length sc) rfl HOS.out]) = k + 1 := by
            rw [List.length_append, hyl]
            rfl
          rw [hyl2] at ho8
          rw [hyl] at hr8 ho8
          have HO8 := Lib.hid ho8
          have HB8 : Hid (Below w.heap.size w w8) := HBQ.out.trans hb8
          have HY8 : Hid (List.length (α := (RBW w).α) (ys ++ [rbw (k : Int) x (.slice sa x.length sc) rfl HOS.out]) = k + 1 ∧ (ys ++ [rbw (k : Int) x (.slice sa x.length sc) rfl HOS.out]).map (fun q => q.1.1) = batN z0 (k + 1)) := ⟨hyl2, by
            rw [List.map_append, batN_succ, hym, HX.out]
            rfl⟩
          have HBT : Hid (BtOk (k : Int) x) := ⟨by constructor <;> omega, by constructor <;> omega, fun i hi => HJ.out i hi, by have := osz_le x; omega⟩
          clear how ho8 hb8 hyl hym hyl' hyl2
          go_wp2_with (at_builtin; refine app_go rfl (.tmp 72) (.tmp 74) 24 rfl _ _ _ _ rfl rfl hr8 ?_)
          clear hr8 d0 d1 hjz c1
          go_roundw
          case rel =>
            refine ⟨k + 1, _, _, _, by omega, by go_num, rfl, HY8.out, HO8.out, fun i hi2 => ?_, HB8.out⟩
            by_cases hik : i = k
            · rw [hik, HX.out]; exact HBT.out
            · exact HBK.out i (by omega)
          case measure => simp [intOf]; omega
    · obtain rfl : k = z0.length := by omega
      have hltz : decide ((z0.length : Int) < z0.length) = false := decide_eq_false (by omega)
      obtain ⟨hyl, hym⟩ := HYS.out
      have how := HOW.out
      have hgs := (Gs_of_own (R := RBW w) how).1
      have hba := bts_of_gs hgs hyl.symm HB.out
      rw [hym] at hba
      have HBA := Lib.hid hba
      have HBW := Lib.hid HB.out
      have HBL : Hid ((batN z0 z0.length).length = z0.length) := batN_len _ _
      have HTEN : Hid (∀ p, p < z0.length → ∀ y, z0.getD p [] = y → y.length ≤ 32 ∧ 1 ≤ y.length) := fun p hp y hy => by
        subst hy
        exact ⟨(HBK.out p hp).2.1.2, (HBK.out p hp).2.1.1⟩
      have HORD0 : Hid (Ord tk0 (List.replicate ((batN z0 z0.length).length + 1) false) 0 (batN z0 z0.length)) := ord_new (by rw [HBL.out]; exact HL60.out) (fun i hi => by
        have h9 := batN_at z0 (k := z0.length) (i := i) (by rw [HBL.out] at hi; exact hi)
        rw [List.getElem?_eq_getElem hi] at h9
        rw [Option.some.inj h9]
        rfl) (fun x hx => by
        unfold batN at hx
        obtain ⟨i, hi, rfl⟩ := List.mem_map.1 hx
        exact HBK.out i (List.mem_range.1 hi))
      have C0 := Lib.hid (tnew_any wr)
      clear hyl hym how hgs hba HOW HYS
      go_upto_region 19 with (go_at_call 8; refine C0.out.mono ?_; rintro e w1 ⟨b, F1, rfl, hp, hF, hb⟩; have X1 : Hid (Tn wr w1 F1 b tk0) := ⟨hp, hF, hb⟩; clear hp hF hb C0)
      clear hltz
      obtain ⟨w2, hmk, hcam, hb2⟩ := run_bools w1 (z0.length + 1) (by omega)
      rw [show ((z0.length + 1 : Nat) : Int) = (z0.length : Int) + 1 by omega] at hmk
      obtain ⟨gc, hgc⟩ : ∃ g, w1.heap.size = g := ⟨_, rfl⟩
      rw [hgc] at hmk hcam
      have X2 := Lib.hid (X1.out.below hb2)
      have HCAM := Lib.hid hcam
      have HGCA0 : Hid (wr.heap.size ≤ gc) := by show _ ≤ _; rw [← hgc]; exact X1.out.bel.size
      have HGC0 : Hid (¬ F1 gc) := fun h => by have := X1.out.ps.2.lt _ h; omega
      obtain ⟨wA, hwA⟩ : ∃ wA, wr = wA := ⟨_, rfl⟩
      rw [hwA] at HBA HBW X2 HGCA0
      have HGCA := HGCA0
      clear hcam hb2 hgc X1
      go_upto_region 20 with (fail)
      clear hmk
      go_wp2_with fail
      go_loopw [11, 12, 13] (fun tv nv iv wr => ∃ (i : Nat) (F : Nat → Prop) (t : Tk) (cs : List Bool) (nx : Nat) (at_ : Option Addr) (ct : Nat), i ≤ z1.length ∧ iv = .int .i64 i ∧ nv = .int .i64 nx ∧ tv = .slice at_ (toldP t (batN z0 z0.length)).length ct ∧ Hid (Tn wA wr F b t) ∧ Hid (Ord t cs nx (batN z0 z0.length)) ∧ Hid (CamB wr gc cs) ∧ Hid (¬ F gc) ∧ Hid (OwO wr wA.heap.size (.slice at_ (toldP t (batN z0 z0.length)).length ct) (toldP t (batN z0 z0.length))) ∧ Hid (∀ g, (Value.slice at_ (toldP t (batN z0 z0.length)).length ct).ownBlock = some g → ¬ F g)) (fun _ _ iv _ => z1.length - (intOf iv).toNat)
      case atStart => exact ⟨0, F1, tk0, _, 0, none, 0, Nat.zero_le _, rfl, rfl, rfl, X2.out, HORD0.out, by rw [HBL.out]; exact HCAM.out, HGC0.out, OwO_nil _ _, fun g hg => (by cases hg)⟩
      case round =>
        obtain ⟨i, F, t, cs, nx, at_, ct, hi, rfl, rfl, rfl, X, HORDX, HCX0, HGCX, HTO, HTOF⟩ := hrel
        clear X2 HCAM HGC0
        have hl200 := HL200.out
        by_cases hit : i < z1.length
        · have hiz : decide ((i : Int) < z1.length) = true := decide_eq_true (by omega)
          obtain ⟨v, hv⟩ : ∃ v, z1.getD i 0 = v := ⟨_, rfl⟩
          obtain ⟨bi, oi, rfl, hbil, ci⟩ := HI.out.at hit
          rw [hv] at ci
          have hci : ∀ W, Below w.heap.size w W → W.cell? ⟨bi, oi + i, none⟩ = some (.int .i64 v) := fun W hb => (hb.cell (p := ⟨bi, oi + i, none⟩) hbil).trans ci
          have HBX : Hid (Below w.heap.size w wr) := HBW.out.trans (X.out.bel.mono HBW.out.size)
          have c9 := hci wr HBX.out
          have hii : (i : Int) < z1.length := by omega
          by_cases hneg : v < 0
          · have hdn : decide (v < 0) = true := decide_eq_true hneg
            clear hci ci hv
            go_wp2_with fail
            go_roundw
            case rel => exact ⟨i + 1, F, t, cs, nx, at_, ct, by omega, by go_num, rfl, rfl, X.out, HORDX.out, HCX0.out, HGCX.out, HTO.out, HTOF.out⟩
            case measure => simp [intOf]; omega
          have hdn : decide (v < 0) = false := decide_eq_false hneg
          by_cases hbig : (z0.length : Int) ≤ v
          · have hdb : decide ((z0.length : Int) ≤ v) = true := decide_eq_true hbig
            clear hci ci hv
            go_wp2_with fail
            go_roundw
            case rel => exact ⟨i + 1, F, t, cs, nx, at_, ct, by omega, by go_num, rfl, rfl, X.out, HORDX.out, HCX0.out, HGCX.out, HTO.out, HTOF.out⟩
            case measure => simp [intOf]; omega
          obtain ⟨j, rfl⟩ : ∃ j : Nat, v = (j : Int) := ⟨v.toNat, by omega⟩
          have hjl : j < z0.length := by omega
          have hdb : decide ((z0.length : Int) ≤ (j : Int)) = false := decide_eq_false hbig
          have hjx := batN_at z0 hjl
          obtain ⟨x, hx⟩ : ∃ x, ((Int.ofNat j, z0.getD j []) : Bt) = x := ⟨_, rfl⟩
          rw [hx] at hjx
          have hx1 : x.1 = (j : Int) := by rw [← hx]; rfl
          have hxD : (batN z0 z0.length).getD j zb = x := by rw [List.getD_eq_getElem?_getD, hjx]; rfl
          have hxok := HBK.out j hjl
          have hx60 : x.2.length ≤ 32 := by rw [← hx]; exact hxok.2.1.2
          have hba : Bts wA (.slice a (batN z0 z0.length).length c) (batN z0 z0.length) := by rw [batN_len]; exact HBA.out
          obtain ⟨ba, oa, sa, sc, hae, k1, k2, hos, hob⟩ := bts_at hba (by rw [HBL.out]; exact hjl) hxD
          cases hae
          have hkl := World.block_lt_of_cell? wA _ k1
          obtain ⟨m, hst1, hst2, hst3, hst4⟩ := HORDX.out.step hjx
          obtain ⟨⟨⟨out, e0⟩, t'⟩, hTR⟩ : ∃ z, takeR t x = z := ⟨_, rfl⟩
          rw [hTR] at hst1 hst3 hst4
          simp only at hst1 hst3 hst4
          have CT := ttake_any x.1 (.slice sa x.2.length sc) x.2 X.out.ps (hos.below X.out.bel) (fun ad n c' e hne hf => by have h1 := hob ad n c' e hne; have h2 := X.out.new _ hf; omega) (by omega)
          rw [show ((x.1, x.2) : Bt) = x from rfl, hTR] at CT
          simp only at CT
          rw [hx1] at CT
          have d1 := (X.out.bel.cell (p := ⟨ba, oa + j * 2, none⟩) hkl).trans k1
          have d2 := (X.out.bel.cell (p := ⟨ba, oa + j * 2 + 1, none⟩) hkl).trans k2
          rw [hx1] at d1
          have HCI := Lib.hid hci
          have HCT := Lib.hid CT
          have HS1 := Lib.hid hst1
          have HS2 := Lib.hid hst2
          have HS3 := Lib.hid hst3
          have HS4 := Lib.hid hst4
          have hjz : (j : Int) < z0.length := by omega
          clear hci ci hv hjx hx hx1 hxD hxok hba k1 k2 hos hob hkl hst1 hst2 hst3 hst4 hTR CT hneg hbig
          go_upto_region 27 with (go_at_call 9; refine HCT.out.mono ?_; rintro e w3 ⟨r3, F5, rfl, hp, hc, -, hF, ho⟩; obtain ⟨a3, c3, rfl⟩ := own_form ho.1; have X3 := Lib.hid (X.out.next hp hc hF); have HC3 := Lib.hid hc; have HF3 := Lib.hid hF; have HO3 := Lib.hid ho; clear hp hc hF ho)
          clear d1 d2 c9 hdn hdb
          have hto3 := own_chg HTO.out HC3.out HTOF.out
          have htl : ∀ k, (Value.slice at_ (toldP t (batN z0 z0.length)).length ct).ownBlock = some k → wA.heap.size ≤ k ∧ k < wr.heap.size := fun k hk => World.ownsRow.lt HTO.out k hk
          have hnf5 : ∀ k, (Value.slice at_ (toldP t (batN z0 z0.length)).length ct).ownBlock = some k → ¬ F5 k := fun k hk hf => (HF3.out k hf).elim (HTOF.out k hk) (fun h => by have := (htl k hk).2; omega)
          have htlen : (toldP t (batN z0 z0.length)).length + out.length ≤ 30000 := by
            rw [← List.length_append, ← HS3.out]
            have h9 : toldP t' (batN z0 z0.length) = ((List.range (nx + m)).map fun i => z0.getD i []).flatten := by
              unfold toldP
              rw [HS1.out.tnx, Int.toNat_natCast, batN_told z0 (by have := HS1.out.le; rw [HBL.out] at this; exact this)]
            have h8 : ∀ q, q ≤ z0.length → (((List.range q).map fun i => z0.getD i []).flatten).length ≤ 32 * q := fun q => by
              induction q with
              | zero => intro _; exact Nat.le_refl _
              | succ q ih =>
                intro hq
                rw [List.range_succ, List.map_append, List.flatten_append, List.length_append]
                have h5 := (HTEN.out q (by omega) _ rfl).1
                have h6 := ih (by omega)
                simp only [List.map_cons, List.map_nil, List.flatten_cons, List.flatten_nil, List.append_nil]
                omega
            have h7 := h8 (nx + m) (by have := HS1.out.le; rw [HBL.out] at this; exact this)
            rw [h9]
            have h6 := HS1.out.le
            rw [HBL.out] at h6
            have := HL60.out
            omega
          obtain ⟨r4, w4, hr4, ho4, hg4, hb4⟩ := run_gappo w3 25 wA.heap.size _ _ hto3 (.slice a3 out.length c3) out HO3.out.1.os htlen X3.out.bel.size
          have hc4 : Chg (fun k => (Value.slice at_ (toldP t (batN z0 z0.length)).length ct).ownBlock = some k) w3 w4 := (Chg.refl _ w3).grown hg4 (fun k hk => .inl hk)
          obtain ⟨a5, c5, rfl⟩ := own_form ho4
          have hcam3 := HCX0.out.chg HC3.out HGCX.out
          have hcam4 := hcam3.chg hc4 (fun e => (CamB.blk hcam3).ne (own_blk hto3 e) (by decide) rfl)
          have x4 : Tn wA w4 F5 b t' := ⟨X3.out.ps.keep hc4 (fun k hk e => hnf5 k e hk), X3.out.new, X3.out.bel.grown hg4 X3.out.bel.size (fun k hk => (htl k hk).1)⟩
          have hto5 : ∀ g, (Value.slice a5 (toldP t (batN z0 z0.length) ++ out).length c5).ownBlock = some g → ¬ F5 g := fun g hg hf => (hb4 g hg).elim (fun e => hnf5 g e hf) (fun h => by have := X3.out.ps.2.lt g hf; omega)
          have hgc5 : ¬ F5 gc := fun h => (HF3.out gc h).elim HGCX.out (fun h2 => by have := HCX0.out.lt; omega)
          rw [← HS3.out] at hr4 ho4 hto5
          have HT4 := Lib.hid ho4
          have HTO5 := Lib.hid hto5
          have HGC := Lib.hid hgc5
          have HCM4 := Lib.hid hcam4
          have X4 := Lib.hid x4
          have HTOLD : Hid (toldP t' (batN z0 z0.length) = ((List.range (nx + m)).map fun i => z0.getD i []).flatten) := by
            show _ = _
            unfold toldP
            rw [HS1.out.tnx, Int.toNat_natCast, batN_told z0 (by have := HS1.out.le; rw [HBL.out] at this; exact this)]
          have c9 := HCI.out w4 (HBW.out.trans (x4.bel.mono HBW.out.size))
          have hnx60 : nx ≤ 60 := by have h1 := HORDX.out.le; rw [HBL.out] at h1; have := HL60.out; omega
          obtain ⟨cs', hcs'⟩ : ∃ cs', cameR cs nx j = cs' := ⟨_, rfl⟩
          have HORD : Hid (Ord t' cs' (nx + m) (batN z0 z0.length)) := hcs' ▸ HS1.out
          have HCAME : Hid (∀ i, nx ≤ i → i < nx + m → cs'.getD i false = true) := hcs' ▸ HS2.out
          clear hto3 htl hnf5 htlen ho4 hg4 hb4 hc4 hcam3 hcam4 x4 hto5 hgc5
          by_cases hj16 : j ≤ nx + 16
          · have hdj : decide ((j : Int) ≤ (nx : Int) + 16) = true := decide_eq_true (by omega)
            have hdn : decide (j ≤ nx + 16) = true := decide_eq_true hj16
            have hce : cs' = cs.set j true := by rw [← hcs']; unfold cameR; rw [if_pos hj16]
            have hcl : j < cs.length := by have h1 := HORDX.out.clen; rw [HBL.out] at h1; omega
            obtain ⟨e1, e2⟩ := HCM4.out.at hcl
            have hcw := HCM4.out.set j
            have hchg := chg_pt w4 gc j (.bool true)
            have htg : ∀ k, (Value.slice a5 (toldP t' (batN z0 z0.length)).length c5).ownBlock = some k → k ≠ gc := fun k hk e => (own_blk HT4.out hk).ne (CamB.blk HCM4.out) (by decide) e
            have hx5 : Tn wA (w4.setCell ⟨gc, j, none⟩ (.bool true)) F5 b t' := ⟨X4.out.ps.keep hchg (fun k hk e => HGC.out (by rw [← show k = gc from e]; exact hk)), X4.out.new, X4.out.bel.trans (hchg.below X4.out.bel.size (fun k e => by rw [show k = gc from e]; exact HGCA.out))⟩
            have ht5 : OwO (w4.setCell ⟨gc, j, none⟩ (.bool true)) wA.heap.size (.slice a5 (toldP t' (batN z0 z0.length)).length c5) (toldP t' (batN z0 z0.length)) := own_chg HT4.out hchg (fun k hk e => htg k hk e)
            rw [← hce] at hcw
            obtain ⟨w5, hw5⟩ : ∃ w5, w4.setCell ⟨gc, j, none⟩ (.bool true) = w5 := ⟨_, rfl⟩
            rw [hw5] at hcw hx5 ht5
            have HCM := Lib.hid hcw
            have X5 := Lib.hid hx5
            have HT5 := Lib.hid ht5
            have hjz1 : (j : Int) < (z0.length : Int) + 1 := by omega
            have HW5 := Lib.hid hw5
            clear hce hcl hcw hchg htg hx5 ht5 hw5 hcs'
            go_upto_region 28 with (at_builtin; refine app_go rfl (.tmp 115) (.tmp 116) 25 rfl _ _ _ _ rfl rfl hr4 ?_)
            clear hr4
            go_wp2_with fail
            rw [HW5.out]
            clear c9 e1 e2 hdj hdn hjz1 hjz HCX0 HTO HTOF HGCX HORDX
            go_loopw [12] (fun qv wq => ∃ q : Nat, nx ≤ q ∧ q ≤ nx + m ∧ qv = .int .i64 q ∧ Hid (Below w5.heap.size w5 wq)) (fun qv _ => nx + m - (intOf qv).toNat)
            case atStart => exact ⟨nx, Nat.le_refl _, by omega, rfl, Below.refl _ _⟩
            case round =>
              obtain ⟨q, hq1, hq2, rfl, HBQ⟩ := hrel
              have hor := HORD.out
              have hle := hor.le
              have hcl := hor.clen
              have hbl : (batN z0 z0.length).length = z0.length := batN_len _ _
              have hl60 := HL60.out
              obtain ⟨cq, -⟩ := (HCM.out.below HBQ.out).at (j := q) (by omega)
              have hqc : (q : Int) < (z0.length : Int) + 1 := by omega
              have hqd : q < z0.length + 1 := by omega
              by_cases hqm : q < nx + m
              · have ht : cs'.getD q false = true := HCAME.out q hq1 hqm
                rw [ht] at cq
                clear hor hle hcl hbl ht
                go_wp2_with fail
                go_roundw
                case rel => exact ⟨q + 1, by omega, by omega, by go_num, HBQ.out⟩
                case measure => simp [intOf]; omega
              · obtain rfl : q = nx + m := by omega
                rw [hor.now] at cq
                have HNX : Hid (nx + m ≤ z0.length) := by show _ ≤ _; omega
                have HTN : Hid (t'.nx = ((nx + m : Nat) : Int)) := hor.tnx
                have XQ := Lib.hid (X5.out.below HBQ.out)
                have OQ := Lib.hid (HT5.out.below HBQ.out)
                have CQ := Lib.hid (HCM.out.below HBQ.out)
                clear hor hle hcl hbl
                generalize nx + m = nq at *
                obtain ⟨W6, hW6⟩ : ∃ W6, wr = W6 := ⟨_, rfl⟩
                rw [hW6] at XQ OQ CQ cq
                rw [hW6]
                clear hW6
                go_wp2_with fail
                clear cq hqc hqd
                go_loopw [16, 17] (fun wv pv wp => ∃ (p : Nat) (ap : Option Addr) (cp : Nat) (Wl : List Ob), p ≤ nq ∧ pv = .int .i64 p ∧ wv = .slice ap Wl.length cp ∧ Hid (Wl = (((List.range p).map fun i => z0.getD i []).flatten)) ∧ Hid (OwO wp W6.heap.size (.slice ap Wl.length cp) Wl) ∧ Hid (Below W6.heap.size W6 wp) ∧ Hid (Wl.length ≤ 32 * p)) (fun _ pv _ => nq - (intOf pv).toNat)
                case atStart => exact ⟨0, none, 0, [], Nat.zero_le _, rfl, rfl, rfl, OwO_nil _ _, Below.refl _ _, Nat.le_refl _⟩
                case round =>
                  obtain ⟨p, ap, cp, Wl, hp, rfl, rfl, HWL, HWO, HBP, HW10⟩ := hrel
                  have hl60 := HL60.out
                  have hnq := HNX.out
                  by_cases hpl : p < nq
                  · have hpz : decide ((p : Int) < nq) = true := decide_eq_true (by omega)
                    obtain ⟨y, hy⟩ : ∃ y, z0.getD p [] = y := ⟨_, rfl⟩
                    have HBW6 : Hid (Below w.heap.size w wr) := (HBW.out.trans (XQ.out.bel.mono HBW.out.size)).trans (HBP.out.mono (by have := HBW.out.size; have := XQ.out.bel.size; omega))
                    obtain ⟨by_, oy, sy, ky, hae, kc, hoy⟩ := oss_at (HR.out.below HBW6.out) (show p < z0.length by omega) hy
                    cases hae
                    have hy10 : y.length ≤ 32 := (HTEN.out p (by omega) y hy).1
                    have hw10 := HW10.out
                    obtain ⟨r9, w9, hr9, ho9, hg9, -⟩ := run_gappo wr 25 W6.heap.size _ Wl HWO.out (.slice sy y.length ky) y hoy (by omega) HBP.out.size
                    have HB9 : Hid (Below W6.heap.size W6 w9) := HBP.out.grown hg9 HBP.out.size (fun k hk => (World.ownsRow.lt HWO.out k hk).1)
                    obtain ⟨a9, c9, rfl⟩ := own_form ho9
                    have HO9 := Lib.hid ho9
                    have HL9 : Hid ((Wl ++ y).length = Wl.length + y.length ∧ (Wl ++ y).length ≤ 32 * (p + 1)) := ⟨List.length_append .., by rw [List.length_append]; omega⟩
                    have HY9 := Lib.hid hy
                    have hpi : (p : Int) < z0.length := by omega
                    clear hoy ho9 hg9 hy hw10 hy10
                    go_wp2_with (at_builtin; refine app_go rfl (.tmp 149) (.tmp 153) 25 rfl _ _ _ _ rfl rfl hr9 ?_)
                    clear kc hr9 hpi
                    go_roundw
                    case rel =>
                      refine ⟨p + 1, a9, c9, Wl ++ y, by omega, by go_num, by rw [HL9.out.1], ?_, HO9.out, HB9.out, HL9.out.2⟩
                      show _ = _
                      rw [HWL.out, List.range_succ, List.map_append, List.flatten_append, ← HY9.out]
                      simp
                    case measure => simp [intOf]; omega
                  · obtain rfl : p = nq := by omega
                    have hpz : decide ((p : Int) < p) = false := decide_eq_false (by omega)
                    have XP := Lib.hid (XQ.out.below HBP.out)
                    have OP := Lib.hid (OQ.out.below HBP.out)
                    have CP := Lib.hid (CQ.out.below HBP.out)
                    have hlen6 : (toldP t' (batN z0 z0.length)).length ≤ 2000 := by
                      rw [HTOLD.out, ← HWL.out]
                      have := HW10.out
                      omega
                    have hEQ : toldP t' (batN z0 z0.length) = Wl := by
                      rw [HTOLD.out, HWL.out]
                    have CS := same_any _ _ _ _ wr OP.out.os HWO.out.os (by omega)
                    rw [hEQ] at CS
                    have HCS := Lib.hid CS
                    have HLT : Hid ((toldP t' (batN z0 z0.length)).length = Wl.length) := by show _ = _; rw [hEQ]
                    clear hlen6 hEQ CS
                    rw [HLT.out]
                    go_wp2_with fail
                    refine HCS.out.mono ?_
                    rintro e w10 ⟨⟨qs, rfl, hqs⟩, hb⟩
                    obtain rfl : qs = true := by simpa using hqs
                    have X10 := Lib.hid (XP.out.below hb)
                    have O10 := Lib.hid (OP.out.below hb)
                    have C10 := Lib.hid (CP.out.below hb)
                    clear hqs hb
                    have CA := tack_any X10.out.ps
                    rw [HTN.out] at CA
                    have HCA := Lib.hid CA
                    clear CA
                    have hfld := field_ack
                    go_wp2_with (go_at_call 11; refine HCA.out.mono ?_; rintro e w11 ⟨F11, rfl, hp, hc, -, hF⟩; have X11 := Lib.hid (X10.out.next hp hc hF); have HC11 := Lib.hid hc; have HF11 := Lib.hid hF; clear hp hc hF)
                    go_roundw
                    case rel =>
                      have hnf : ¬ F11 gc := fun h => (HF11.out gc h).elim HGC.out (fun h2 => by have := C10.out.lt; omega)
                      have hto : ∀ g, (Value.slice a5 (toldP t' (batN z0 z0.length)).length c5).ownBlock = some g → ¬ F5 g ∧ g < w10.heap.size := fun g hg => ⟨HTO5.out g hg, (World.ownsRow.lt O10.out g hg).2⟩
                      refine ⟨i + 1, F11, t', cs', p, a5, c5, by omega, by go_num, rfl, ?_, X11.out, HORD.out, C10.out.chg HC11.out HGC.out, hnf, own_chg O10.out HC11.out (fun g hg => (hto g hg).1), fun g hg h => (HF11.out g h).elim (hto g hg).1 (fun h2 => by have := (hto g hg).2; omega)⟩
                      rw [HLT.out]
                    case measure => simp [intOf]; omega
          · have hdj : decide ((j : Int) ≤ (nx : Int) + 16) = false := decide_eq_false (by omega)
            have hdn : decide (j ≤ nx + 16) = false := decide_eq_false hj16
            have hce : cs' = cs := by rw [← hcs']; unfold cameR; rw [if_neg hj16]
            have h4 := HS4.out (by omega)
            simp only [Prod.mk.injEq] at h4
            obtain ⟨h41, h42⟩ := h4
            subst h41
            subst h42
            have HCM : Hid (CamB w4 gc cs') := by rw [hce]; exact HCM4.out
            have X5 := X4
            have HT5 := HT4
            clear hce hcs'
            go_upto_region 28 with (at_builtin; refine app_go rfl (.tmp 115) (.tmp 116) 25 rfl _ _ _ _ rfl rfl hr4 ?_)
            clear hr4
            go_wp2_with fail
            clear c9 hdj hdn hjz HCX0 HTO HTOF HGCX HORDX
            go_loopw [12] (fun qv wq => ∃ q : Nat, nx ≤ q ∧ q ≤ nx + m ∧ qv = .int .i64 q ∧ Hid (Below w4.heap.size w4 wq)) (fun qv _ => nx + m - (intOf qv).toNat)
            case atStart => exact ⟨nx, Nat.le_refl _, by omega, rfl, Below.refl _ _⟩
            case round =>
              obtain ⟨q, hq1, hq2, rfl, HBQ⟩ := hrel
              have hor := HORD.out
              have hle := hor.le
              have hcl := hor.clen
              have hbl : (batN z0 z0.length).length = z0.length := batN_len _ _
              have hl60 := HL60.out
              obtain ⟨cq, -⟩ := (HCM.out.below HBQ.out).at (j := q) (by omega)
              have hqc : (q : Int) < (z0.length : Int) + 1 := by omega
              have hqd : q < z0.length + 1 := by omega
              by_cases hqm : q < nx + m
              · have ht : cs'.getD q false = true := HCAME.out q hq1 hqm
                rw [ht] at cq
                clear hor hle hcl hbl ht
                go_wp2_with fail
                go_roundw
                case rel => exact ⟨q + 1, by omega, by omega, by go_num, HBQ.out⟩
                case measure => simp [intOf]; omega
              · obtain rfl : q = nx + m := by omega
                rw [hor.now] at cq
                have HNX : Hid (nx + m ≤ z0.length) := by show _ ≤ _; omega
                have HTN : Hid (t'.nx = ((nx + m : Nat) : Int)) := hor.tnx
                have XQ := Lib.hid (X5.out.below HBQ.out)
                have OQ := Lib.hid (HT5.out.below HBQ.out)
                have CQ := Lib.hid (HCM.out.below HBQ.out)
                clear hor hle hcl hbl
                generalize nx + m = nq at *
                obtain ⟨W6, hW6⟩ : ∃ W6, wr = W6 := ⟨_, rfl⟩
                rw [hW6] at XQ OQ CQ cq
                rw [hW6]
                clear hW6
                go_wp2_with fail
                clear cq hqc hqd
                go_loopw [16, 17] (fun wv pv wp => ∃ (p : Nat) (ap : Option Addr) (cp : Nat) (Wl : List Ob), p ≤ nq ∧ pv = .int .i64 p ∧ wv = .slice ap Wl.length cp ∧ Hid (Wl = (((List.range p).map fun i => z0.getD i []).flatten)) ∧ Hid (OwO wp W6.heap.size (.slice ap Wl.length cp) Wl) ∧ Hid (Below W6.heap.size W6 wp) ∧ Hid (Wl.length ≤ 32 * p)) (fun _ pv _ => nq - (intOf pv).toNat)
                case atStart => exact ⟨0, none, 0, [], Nat.zero_le _, rfl, rfl, rfl, OwO_nil _ _, Below.refl _ _, Nat.le_refl _⟩
                case round =>
                  obtain ⟨p, ap, cp, Wl, hp, rfl, rfl, HWL, HWO, HBP, HW10⟩ := hrel
                  have hl60 := HL60.out
                  have hnq := HNX.out
                  by_cases hpl : p < nq
                  · have hpz : decide ((p : Int) < nq) = true := decide_eq_true (by omega)
                    obtain ⟨y, hy⟩ : ∃ y, z0.getD p [] = y := ⟨_, rfl⟩
                    have HBW6 : Hid (Below w.heap.size w wr) := (HBW.out.trans (XQ.out.bel.mono HBW.out.size)).trans (HBP.out.mono (by have := HBW.out.size; have := XQ.out.bel.size; omega))
                    obtain ⟨by_, oy, sy, ky, hae, kc, hoy⟩ := oss_at (HR.out.below HBW6.out) (show p < z0.length by omega) hy
                    cases hae
                    have hy10 : y.length ≤ 32 := (HTEN.out p (by omega) y hy).1
                    have hw10 := HW10.out
                    obtain ⟨r9, w9, hr9, ho9, hg9, -⟩ := run_gappo wr 25 W6.heap.size _ Wl HWO.out (.slice sy y.length ky) y hoy (by omega) HBP.out.size
                    have HB9 : Hid (Below W6.heap.size W6 w9) := HBP.out.grown hg9 HBP.out.size (fun k hk => (World.ownsRow.lt HWO.out k hk).1)
                    obtain ⟨a9, c9, rfl⟩ := own_form ho9
                    have HO9 := Lib.hid ho9
                    have HL9 : Hid ((Wl ++ y).length = Wl.length + y.length ∧ (Wl ++ y).length ≤ 32 * (p + 1)) := ⟨List.length_append .., by rw [List.length_append]; omega⟩
                    have HY9 := Lib.hid hy
                    have hpi : (p : Int) < z0.length := by omega
                    clear hoy ho9 hg9 hy hw10 hy10
                    go_wp2_with (at_builtin; refine app_go rfl (.tmp 149) (.tmp 153) 25 rfl _ _ _ _ rfl rfl hr9 ?_)
                    clear kc hr9 hpi
                    go_roundw
                    case rel =>
                      refine ⟨p + 1, a9, c9, Wl ++ y, by omega, by go_num, by rw [HL9.out.1], ?_, HO9.out, HB9.out, HL9.out.2⟩
                      show _ = _
                      rw [HWL.out, List.range_succ, List.map_append, List.flatten_append, ← HY9.out]
                      simp
                    case measure => simp [intOf]; omega
                  · obtain rfl : p = nq := by omega
                    have hpz : decide ((p : Int) < p) = false := decide_eq_false (by omega)
                    have XP := Lib.hid (XQ.out.below HBP.out)
                    have OP := Lib.hid (OQ.out.below HBP.out)
                    have CP := Lib.hid (CQ.out.below HBP.out)
                    have hlen6 : (toldP t' (batN z0 z0.length)).length ≤ 2000 := by
                      rw [HTOLD.out, ← HWL.out]
                      have := HW10.out
                      omega
                    have hEQ : toldP t' (batN z0 z0.length) = Wl := by
                      rw [HTOLD.out, HWL.out]
                    have CS := same_any _ _ _ _ wr OP.out.os HWO.out.os (by omega)
                    rw [hEQ] at CS
                    have HCS := Lib.hid CS
                    have HLT : Hid ((toldP t' (batN z0 z0.length)).length = Wl.length) := by show _ = _; rw [hEQ]
                    clear hlen6 hEQ CS
                    rw [HLT.out]
                    go_wp2_with fail
                    refine HCS.out.mono ?_
                    rintro e w10 ⟨⟨qs, rfl, hqs⟩, hb⟩
                    obtain rfl : qs = true := by simpa using hqs
                    have X10 := Lib.hid (XP.out.below hb)
                    have O10 := Lib.hid (OP.out.below hb)
                    have C10 := Lib.hid (CP.out.below hb)
                    clear hqs hb
                    have CA := tack_any X10.out.ps
                    rw [HTN.out] at CA
                    have HCA := Lib.hid CA
                    clear CA
                    have hfld := field_ack
                    go_wp2_with (go_at_call 11; refine HCA.out.mono ?_; rintro e w11 ⟨F11, rfl, hp, hc, -, hF⟩; have X11 := Lib.hid (X10.out.next hp hc hF); have HC11 := Lib.hid hc; have HF11 := Lib.hid hF; clear hp hc hF)
                    go_roundw
                    case rel =>
                      have hnf : ¬ F11 gc := fun h => (HF11.out gc h).elim HGC.out (fun h2 => by have := C10.out.lt; omega)
                      have hto : ∀ g, (Value.slice a5 (toldP t' (batN z0 z0.length)).length c5).ownBlock = some g → ¬ F5 g ∧ g < w10.heap.size := fun g hg => ⟨HTO5.out g hg, (World.ownsRow.lt O10.out g hg).2⟩
                      refine ⟨i + 1, F11, t', cs', p, a5, c5, by omega, by go_num, rfl, ?_, X11.out, HORD.out, C10.out.chg HC11.out HGC.out, hnf, own_chg O10.out HC11.out (fun g hg => (hto g hg).1), fun g hg h => (HF11.out g h).elim (hto g hg).1 (fun h2 => by have := (hto g hg).2; omega)⟩
                      rw [HLT.out]
                    case measure => simp [intOf]; omega
        · obtain rfl : i = z1.length := by omega
          have hiz : decide ((z1.length : Int) < z1.length) = false := decide_eq_false (by omega)
          have HBE : Hid (Below w.heap.size w wr) := HBW.out.trans (X.out.bel.mono HBW.out.size)
          go_wp2_with (go_at_call 6; refine (awake15 _).mono ?_; rintro e W9 ⟨rfl, hb9⟩; have HB9 := Lib.hid (HBE.out.trans (hb9.mono HBE.out.size)); clear hb9)
          go_ret
          exact ⟨rfl, HB9.out⟩

set_option maxRecDepth 100000 in
theorem lifted (os : _root_.Go.Os) (started : os.Started) (H : Type) (enc : TypeId × Value → H) :
    ReturnsInHanded {} Try.checked os 3 .any (Rows.takerOrderSpec.pre6 enc Try.prog Try.f3 Rows.takerOrderRow.domain false) (Rows.takerOrderSpec.post enc Try.prog Try.f3 false true false false) := by
  refine returnsInHanded_of_change (C := Try.checked) own started (by kernel_rfl) Try.func3
    (ChangeSpec.witness6 (enc := enc) (C := Try.checked) false ⟨#[], #[.slice none 0 0, .slice none 0 0], []⟩ 16 (by kernel_rfl) (by kernel_rfl) (by kernel_rfl) (by kernel_rfl)) ?_
  intro W base args ds gs before hval0 hW hcnd _
  have hval : ∀ (j : Nat) t v, Try.f3.params[j]? = some t → args[j]? = some v → Value.okWide Try.prog W .any base t v := hval0
  have hW' := hW
  obtain ⟨p, q, hA0, hV, rfl, hfz, hnd⟩ := hW
  have hA : DataW.TrodAll enc Try.prog W 0 (fun _ => true) true Try.f3.params.toList args.toList ds p := hA0
  rw [Try.params3] at hA hval
  obtain ⟨v0, vs0, e0, ds0, p0, q0, hargs, rfl, rfl, h0, x0⟩ := trodAll_cons hA
  obtain ⟨v1, vs1, e1, ds1, p1, q1, rfl, rfl, rfl, h1, x1⟩ := trodAll_cons x0
  obtain ⟨rfl, rfl, rfl⟩ := trodAll_nil x1
  obtain rfl : args = #[v0, v1] := by cases args; simp_all
  obtain ⟨rfl, rfl⟩ := trodVars_none hV
  have k0 := h0
  have lt0 : ∀ x ∈ p0, x.block < W.heap.size := by obtain ⟨m, hm⟩ := k0; exact DataW.trod_lt m _ _ _ hm
  have k1 := h1
  have lt1 : ∀ x ∈ p1, x.block < W.heap.size := by obtain ⟨m, hm⟩ := k1; exact DataW.trod_lt m _ _ _ hm
  obtain ⟨a0, len0, cap0, rfl⟩ := okWide_slice underOSS (hval 0 22 v0 rfl rfl)
  obtain ⟨z0, hz0, w0⟩ := oss_form h0
  subst hz0
  obtain ⟨a1, len1, cap1, rfl⟩ := okWide_slice underI3 (hval 1 23 v1 rfl rfl)
  obtain ⟨z1, hz1, w1⟩ := is9_form h1
  subst hz1
  clear hA0 hval0
  refine (walk a0 cap0 z0 a1 cap1 z1 W w0 w1).mono fun e W' ⟨he, bel⟩ => ?_
  subst he
  exact ⟨_, rfl, _, _, _, [], _, [], hW', trodAll_mk1 (shut_bool Try.underlying4 _), (trodAll_cons_mk (Below.trod laidOut (by kernel_rfl) (of_decide_eq_true (by kernel_rfl)) k0 bel lt0) (trodAll_cons_mk (Below.trod laidOut (by kernel_rfl) (of_decide_eq_true (by kernel_rfl)) k1 bel lt1) trodAll_mk0)), rfl, bel.frame _, fun h => by cases h⟩

theorem over : Rows.takerOrderRow.holds Try.pinned (OpenSpec.ofChange Rows.takerOrderSpec) :=
  OpenClaim.holds_of_wide 3 Try.f3 rfl rfl rfl rfl rfl rfl rfl ⟨rfl, rfl, rfl, rfl, rfl⟩ rfl rfl rfl rfl rfl (by kernel_rfl) Try.func3 (by kernel_rfl)
    (of_decide_eq_true (by kernel_rfl)) (by unfold Func.isWrapper; first | (rw [if_pos (by decide +kernel)]; kernel_rfl) | (rw [if_neg (by decide +kernel)]; exact ⟨rfl, rfl⟩))
    (fun os started H enc _ => lifted os started H enc)

theorem proved : Rows.TakerOrderSaid := over
#print axioms proved
end Go.Proofs.Ytfiaghfaijlfjaa.takerOrder
