/- The reference's Tick of a sensor. That what was heard was heard at a time. -/
import Derived.Test.YtcddicaebecneaaSn4
namespace Go.Proofs.Ytcddicaebecneaa
set_option maxRecDepth 100000
open Go.RowKit

/-- What was heard was heard at a time. -/
def AtOk (s : Sn) : Prop := (∀ i, i < 64 → 0 ≤ (s.L.getD i zHd).2.2.1 ∧ (s.L.getD i zHd).2.2.1 ≤ 1000000000000) ∧ 0 ≤ s.now
/-- What is forgotten. -/
def gon (now hold : Int) (h : Hd) : Bool := h.1 && decide (hold < now - h.2.2.1)
def frg (now hold : Int) (h : Hd) : Hd := if gon now hold h = true then zHd else h
def tkO (now hold : Int) (L : List Hd) : Nat → List Ev
  | 0 => []
  | k + 1 => tkO now hold L k ++ if gon now hold (L.getD k zHd) = true ∧ (L.getD k zHd).2.2.2 = true then [(2, (k : Int), (L.getD k zHd).2.1)] else []
def tkL (now hold : Int) (L : List Hd) (k : Nat) : List Hd := (L.take k).map (frg now hold) ++ L.drop k
def tickE (s : Sn) (now : Int) : Int := if tmB s now = true then 0 else 1
def tickO (s : Sn) (now : Int) : List Ev := if tmB s now = true then tkO now s.hold s.L 64 else []
def tickS (s : Sn) (now : Int) : Sn := if tmB s now = true then { s with now := now, L := tkL now s.hold s.L 64 } else s
theorem tkO_len (now hold : Int) (L : List Hd) (k : Nat) : (tkO now hold L k).length ≤ k := by
  induction k with
  | zero => exact Nat.le_refl _
  | succ k ih =>
    show (tkO now hold L k ++ if gon now hold (L.getD k zHd) = true ∧ (L.getD k zHd).2.2.2 = true then [(2, (k : Int), (L.getD k zHd).2.1)] else []).length ≤ k + 1
    rw [List.length_append]
    split
    · simp only [List.length_cons, List.length_nil]; omega
    · simp only [List.length_nil]; omega
theorem tkL_at (now hold : Int) (L : List Hd) (k : Nat) (h : k < L.length) : (tkL now hold L k).getD k zHd = L.getD k zHd ∧ (gon now hold (L.getD k zHd) = false → tkL now hold L (k + 1) = tkL now hold L k) ∧ (gon now hold (L.getD k zHd) = true → tkL now hold L (k + 1) = (tkL now hold L k).set k zHd) := by
  have e0 : L.drop k = L.getD k zHd :: L.drop (k + 1) := by rw [List.drop_eq_getElem_cons h]; simp [List.getD, h]
  have e1 : ((L.take k).map (frg now hold)).length = k := by rw [List.length_map, List.length_take]; omega
  have e2 : tkL now hold L (k + 1) = (L.take k).map (frg now hold) ++ (frg now hold (L.getD k zHd) :: L.drop (k + 1)) := by
    unfold tkL
    rw [List.take_add_one, List.map_append]
    simp [List.getD, h]
  refine ⟨?_, ?_, ?_⟩
  · unfold tkL
    rw [e0]
    simp only [List.getD]
    rw [List.getElem?_append_right (by omega), e1, Nat.sub_self]
    simp
  · intro hf
    rw [e2]
    unfold tkL frg
    rw [hf, e0, if_neg (by simp)]
  · intro hf
    rw [e2]
    unfold tkL
    rw [e0, List.set_append_right _ _ (by omega), e1, Nat.sub_self]
    unfold frg
    rw [if_pos hf]
    rfl
/-- A variable that holds what is remembered of a node. -/
def OwnH (w : World) (b : Nat) (y : Hd) : Prop := C4 w b 0 y ∧ ∀ k, w.frozen? ⟨b, k, none⟩ = false
theorem OwnH.below {w w' : World} {b : Nat} {y : Hd} (h : OwnH w b y) (hb : Below w.heap.size w w') : OwnH w' b y :=
  ⟨h.1.chg (F := fun _ => False) (chg0 hb) (fun h => h), fun k => (hb.frozen (p := ⟨b, k, none⟩) (show b < w.heap.size from World.block_lt_of_cell? w ⟨b, 0, none⟩ h.1.1)).trans (h.2 k)⟩
theorem ownH_alloc (w : World) (y : Hd) : OwnH (w.alloc (.cells #[.bool y.1, .int .i64 y.2.1, .int .i64 y.2.2.1, .bool y.2.2.2] 81)) w.heap.size y := ⟨⟨by simp, by simp, by simp, by simp⟩, fun k => by simp⟩
set_option maxHeartbeats 16000000 in
theorem rtick_any (b g : Nat) (s : Sn) (now : Int) (w : World) (h : XS w b g s) (hat : AtOk s) : Calls Try.prog 14 #[.pointer (some ⟨b, 0, none⟩), .int .i64 now] w fun e w' => (∃ a c, e = .returned (.tuple #[.slice a (tickO s now).length c, .int .i64 (tickE s now)]) ∧ OwV3 w' w.heap.size (.slice a (tickO s now).length c) (tickO s now)) ∧ XS w' b g (tickS s now) ∧ Chg (fun k => k = b ∨ k = g) w w' := by
  have C := Lib.hid (rtime_any b g s now w h)
  have H := Lib.hid h
  have HAT := Lib.hid hat
  have HBL := Lib.hid (And.intro h.bl h.gl)
  obtain ⟨R, hR⟩ : ∃ R, tickO s now = R := ⟨_, rfl⟩
  obtain ⟨E, hE⟩ : ∃ E, tickE s now = E := ⟨_, rfl⟩
  obtain ⟨S, hS⟩ : ∃ S, tickS s now = S := ⟨_, rfl⟩
  rw [hR, hE, hS]
  have HRR := Lib.hid (And.intro hR (And.intro hE hS))
  clear h hat hR hE hS
  go_enter Try.func14, Try.ntmps14
  go_wp2_with fail
  refine C.out.mono ?_
  rintro e w1 ⟨rfl, hb1⟩
  have HB1 := Lib.hid hb1
  have HX1 := Lib.hid (H.out.below hb1)
  clear hb1 C
  cases ht : tmB s now with
  | false =>
    have e1 : [] = R := by rw [← HRR.out.1]; unfold tickO; rw [ht]; rfl
    have e2 : 1 = E := by rw [← HRR.out.2.1]; unfold tickE; rw [ht]; rfl
    have e3 : s = S := by rw [← HRR.out.2.2]; unfold tickS; rw [ht]; rfl
    have HE := Lib.hid (And.intro e1 (And.intro e2 e3))
    clear e1 e2 e3 ht
    go_wp2_with fail
    refine bodyPost_ret (v := .tuple #[.slice none 0 0, .int .i64 1]) (by simp [results, Try.results14, go_sem]) rfl ?_
    rw [← HE.out.1, ← HE.out.2.1, ← HE.out.2.2]
    exact ⟨⟨none, 0, rfl, OwV3_nil _ _⟩, HX1.out, chg0 HB1.out⟩
  | true =>
    have htb : s.now ≤ now ∧ now ≤ 1000000000000 := by
      unfold tmB at ht
      rw [Bool.and_eq_true, decide_eq_true_iff, decide_eq_true_iff] at ht
      exact ht
    have HTB := Lib.hid htb
    have e1 : tkO now s.hold s.L 64 = R := by rw [← HRR.out.1]; unfold tickO; rw [ht]; rfl
    have e2 : 0 = E := by rw [← HRR.out.2.1]; unfold tickE; rw [ht]; rfl
    have e3 : { s with now := now, L := tkL now s.hold s.L 64 } = S := by rw [← HRR.out.2.2]; unfold tickS; rw [ht]; rfl
    have HE := Lib.hid (And.intro e1 (And.intro e2 e3))
    have HBS : Hid (b < w.heap.size) := HBL.out.1
    have HGS : Hid (g < w.heap.size) := HBL.out.2
    clear e1 e2 e3 ht htb
    go_wp2_with fail
    go_loopw [6, 7] (fun ov i wr => ∃ (k : Nat) (ax : Option Addr) (cx : Nat) (xs : List Ev), k ≤ 64 ∧ i = .int .i64 k ∧ ov = .slice ax xs.length cx ∧ Hid (tkO now s.hold s.L k = xs) ∧ Hid (XS wr b g { s with L := tkL now s.hold s.L k }) ∧ Hid (OwV3 wr w.heap.size (.slice ax xs.length cx) xs) ∧ Hid (Chg (fun k => k = b ∨ k = g) w wr)) (fun _ i _ => 64 - (intOf i).toNat)
    case atStart => exact ⟨0, none, 0, [], Nat.zero_le _, rfl, rfl, rfl, HX1.out, OwV3_nil _ _, chg0 HB1.out⟩
    case round =>
      obtain ⟨k, ax, cx, xs, hk, rfl, rfl, HF, HX, HO, HC⟩ := hrel
      have hxl : xs.length ≤ k := by
        have h1 := tkO_len now s.hold s.L k
        rw [HF.out] at h1
        exact h1
      obtain ⟨c0, c1, c2, c3, c4⟩ := HX.out.cells
      by_cases hlt : k < 64
      · have hll : k < s.L.length := by have := HX.out.len; have h2 : (tkL now s.hold s.L k).length = 64 := this; unfold tkL at h2; rw [List.length_append, List.length_map, List.length_take, List.length_drop] at h2; omega
        obtain ⟨m1, m2, m3⟩ := tkL_at now s.hold s.L k hll
        obtain ⟨r0, r1, r2, r3⟩ := HX.out.row k hlt
        obtain ⟨y, hy⟩ : ∃ y, s.L.getD k zHd = y := ⟨_, rfl⟩
        have hyat := HAT.out.1 k hlt
        rw [show ({ s with L := tkL now s.hold s.L k } : Sn).L.getD k zHd = y from m1.trans hy] at r0 r1 r2 r3
        rw [hy] at m2 m3 hyat
        have hst : tkO now s.hold s.L (k + 1) = xs ++ if gon now s.hold y = true ∧ y.2.2.2 = true then [(2, (k : Int), y.2.1)] else [] := by rw [← HF.out, ← hy]; rfl
        have hltz : (k : Int) < 64 := by omega
        clear hy m1
        obtain ⟨V, hV⟩ : ∃ V, wr.alloc (.cells #[.bool y.1, .int .i64 y.2.1, .int .i64 y.2.2.1, .bool y.2.2.2] 81) = V := ⟨_, rfl⟩
        have hbv : Below wr.heap.size wr V := hV ▸ (Below.refl _ wr).alloc (Nat.le_refl _) _
        obtain ⟨hb0, hhb⟩ : ∃ hb0, wr.heap.size = hb0 := ⟨_, rfl⟩
        have HH : Hid (OwnH V hb0 y) := hhb ▸ hV ▸ ownH_alloc wr y
        have HCV := Lib.hid (HC.out.trans (G := fun _ => False) (chg0 hbv) (fun _ _ h => h.elim))
        have HXV := Lib.hid (HX.out.below hbv)
        have HOV := Lib.hid (HO.out.below hbv)
        have HM2 := Lib.hid m2
        have HM3 := Lib.hid m3
        have HAY := Lib.hid hyat
        clear m2 m3 hyat
        go_upto_region 8 with (fail)
        try simp only [hhb]
        clear r0 r1 r2 r3 c0 c1 c2 c3 c4 hV hbv hhb
        have kc : ∀ w', Below V.heap.size V w' → (w'.cell? ⟨hb0, 0, none⟩ = some (.bool y.1) ∧ w'.cell? ⟨hb0, 1, none⟩ = some (.int .i64 y.2.1) ∧ w'.cell? ⟨hb0, 2, none⟩ = some (.int .i64 y.2.2.1) ∧ w'.cell? ⟨hb0, 3, none⟩ = some (.bool y.2.2.2)) ∧ w'.cell? ⟨b, 2, none⟩ = some (.int .i64 s.hold) := fun w' hb => by
          have h1 := (HH.out.below hb).1
          have h2 := (HXV.out.below hb).cells
          simp only [C4, Nat.zero_add] at h1
          exact ⟨h1, h2.2.2.1⟩
        cases g1 : y.1 with
        | false =>
          rw [g1] at kc
          have hg : gon now s.hold y = false := by unfold gon; rw [g1]; rfl
          have HST2 := Lib.hid (HM2.out hg)
          have HST1 : Hid (tkO now s.hold s.L (k + 1) = xs) := by show _ = _; rw [hst, if_neg (fun h => by rw [hg] at h; exact absurd h.1 (by decide)), List.append_nil]
          clear hst hg
          go_upto_region 8 with (fail)
          refine wp_region_typed (C := fun w' => Below V.heap.size V w') (X := fun w w' => Below w.heap.size w w') (n := 64) (by kernel_rfl) (by kernel_rfl) rfl (fun w => Below.refl _ w) (Below.refl _ _).drew ?_
          refine w_is (fun w => Below.refl _ w) _ (.inl rfl) (fun ρ w hC hc hfn hf => by have e8 : ρ (.tmp 8) = _ := hf 8 (by decide); (conv => lhs; simp [execOp, go_sem, hc, e8])) ?_
          refine w_is (fun w => Below.refl _ w) _ (.inl rfl) (fun ρ w hC hc hfn hf => by have e29 : ρ (.tmp 29) = _ := hf 29 (by decide); (conv => lhs; simp [execOp, go_sem, hc, e29, kc w hC])) ?_
          refine w_is (fun w => Below.refl _ w) _ (.inl rfl) (fun ρ w hC hc hfn hf => by have e30 : ρ (.tmp 30) = _ := hf 30 (by decide); (conv => lhs; simp [execOp, go_sem, hc, e30])) ?_
          refine w_is (fun w => Below.refl _ w) _ (.inl rfl) (fun ρ w hC hc hfn hf => by have e31 : ρ (.tmp 31) = _ := hf 31 (by decide); (conv => lhs; simp [execOp, go_sem, hc, e31])) ?_
          refine w_skip rfl rfl (known_is rfl) ?_
          refine w_skip rfl rfl (known_is rfl) ?_
          refine w_skip rfl rfl (known_is rfl) ?_
          refine w_skip rfl rfl (known_is rfl) ?_
          refine w_skip rfl rfl (known_is rfl) ?_
          refine w_skip rfl rfl (known_is rfl) ?_
          refine w_skip rfl rfl (known_is rfl) ?_
          refine w_skip rfl rfl (known_is rfl) ?_
          refine w_skip rfl rfl (known_is rfl) ?_
          refine w_is (fun w => Below.refl _ w) _ (.inl rfl) (fun ρ w hC hc hfn hf => by have e32 : ρ (.tmp 32) = _ := hf 32 (by decide); have e41 : ρ (.tmp 41) = _ := hf 41 (by decide); (conv => lhs; simp [execOp, go_sem, hc, e32, e41])) ?_
          intro A V5 hC hn hd hf
          have y0 : A.eval (.tmp 0) = _ := Eq.trans (hf 0) (by conv => lhs; simp [go_sem])
          have y1 : A.eval (.tmp 1) = _ := Eq.trans (hf 1) (by conv => lhs; simp [go_sem])
          have y2 : A.eval (.tmp 2) = _ := Eq.trans (hf 2) (by conv => lhs; simp [go_sem])
          have y3 : A.eval (.tmp 3) = _ := Eq.trans (hf 3) (by conv => lhs; simp [go_sem])
          have y4 : A.eval (.tmp 4) = _ := Eq.trans (hf 4) (by conv => lhs; simp [go_sem])
          have y5 : A.eval (.tmp 5) = _ := Eq.trans (hf 5) (by conv => lhs; simp [go_sem])
          have y6 : A.eval (.tmp 6) = _ := Eq.trans (hf 6) (by conv => lhs; simp [go_sem])
          have y7 : A.eval (.tmp 7) = _ := Eq.trans (hf 7) (by conv => lhs; simp [go_sem])
          have y8 : A.eval (.tmp 8) = _ := Eq.trans (hf 8) (by conv => lhs; simp [go_sem])
          have y9 : A.eval (.tmp 9) = _ := Eq.trans (hf 9) (by conv => lhs; simp [go_sem])
          have y10 : A.eval (.tmp 10) = _ := Eq.trans (hf 10) (by conv => lhs; simp [go_sem])
          have y11 : A.eval (.tmp 11) = _ := Eq.trans (hf 11) (by conv => lhs; simp [go_sem])
          have y12 : A.eval (.tmp 12) = _ := Eq.trans (hf 12) (by conv => lhs; simp [go_sem])
          have y13 : A.eval (.tmp 13) = _ := Eq.trans (hf 13) (by conv => lhs; simp [go_sem])
          have y14 : A.eval (.tmp 14) = _ := Eq.trans (hf 14) (by conv => lhs; simp [go_sem])
          have y15 : A.eval (.tmp 15) = _ := Eq.trans (hf 15) (by conv => lhs; simp [go_sem])
          have y16 : A.eval (.tmp 16) = _ := Eq.trans (hf 16) (by conv => lhs; simp [go_sem])
          have y17 : A.eval (.tmp 17) = _ := Eq.trans (hf 17) (by conv => lhs; simp [go_sem])
          have y18 : A.eval (.tmp 18) = _ := Eq.trans (hf 18) (by conv => lhs; simp [go_sem])
          have y19 : A.eval (.tmp 19) = _ := Eq.trans (hf 19) (by conv => lhs; simp [go_sem])
          have y20 : A.eval (.tmp 20) = _ := Eq.trans (hf 20) (by conv => lhs; simp [go_sem])
          have y21 : A.eval (.tmp 21) = _ := Eq.trans (hf 21) (by conv => lhs; simp [go_sem])
          have y22 : A.eval (.tmp 22) = _ := Eq.trans (hf 22) (by conv => lhs; simp [go_sem])
          have y23 : A.eval (.tmp 23) = _ := Eq.trans (hf 23) (by conv => lhs; simp [go_sem])
          have y24 : A.eval (.tmp 24) = _ := Eq.trans (hf 24) (by conv => lhs; simp [go_sem])
          have y25 : A.eval (.tmp 25) = _ := Eq.trans (hf 25) (by conv => lhs; simp [go_sem])
          have y26 : A.eval (.tmp 26) = _ := Eq.trans (hf 26) (by conv => lhs; simp [go_sem])
          have y27 : A.eval (.tmp 27) = _ := Eq.trans (hf 27) (by conv => lhs; simp [go_sem])
          have y28 : A.eval (.tmp 28) = _ := Eq.trans (hf 28) (by conv => lhs; simp [go_sem])
          have y29 : A.eval (.tmp 29) = _ := hf 29
          have y30 : A.eval (.tmp 30) = _ := hf 30
          have y31 : A.eval (.tmp 31) = _ := hf 31
          have y32 : A.eval (.tmp 32) = _ := hf 32
          have y33 : A.eval (.tmp 33) = _ := hf 33
          have y34 : A.eval (.tmp 34) = _ := hf 34
          have y35 : A.eval (.tmp 35) = _ := hf 35
          have y36 : A.eval (.tmp 36) = _ := hf 36
          have y37 : A.eval (.tmp 37) = _ := hf 37
          have y38 : A.eval (.tmp 38) = _ := hf 38
          have y39 : A.eval (.tmp 39) = _ := hf 39
          have y40 : A.eval (.tmp 40) = _ := hf 40
          have y41 : A.eval (.tmp 41) = _ := hf 41
          have y42 : A.eval (.tmp 42) = _ := hf 42
          have y43 : A.eval (.tmp 43) = _ := Eq.trans (hf 43) (by conv => lhs; simp [go_sem])
          have y44 : A.eval (.tmp 44) = _ := Eq.trans (hf 44) (by conv => lhs; simp [go_sem])
          have y45 : A.eval (.tmp 45) = _ := Eq.trans (hf 45) (by conv => lhs; simp [go_sem])
          have y46 : A.eval (.tmp 46) = _ := Eq.trans (hf 46) (by conv => lhs; simp [go_sem])
          have y47 : A.eval (.tmp 47) = _ := Eq.trans (hf 47) (by conv => lhs; simp [go_sem])
          have y48 : A.eval (.tmp 48) = _ := Eq.trans (hf 48) (by conv => lhs; simp [go_sem])
          have y49 : A.eval (.tmp 49) = _ := Eq.trans (hf 49) (by conv => lhs; simp [go_sem])
          have y50 : A.eval (.tmp 50) = _ := Eq.trans (hf 50) (by conv => lhs; simp [go_sem])
          have y51 : A.eval (.tmp 51) = _ := Eq.trans (hf 51) (by conv => lhs; simp [go_sem])
          have y52 : A.eval (.tmp 52) = _ := Eq.trans (hf 52) (by conv => lhs; simp [go_sem])
          have y53 : A.eval (.tmp 53) = _ := Eq.trans (hf 53) (by conv => lhs; simp [go_sem])
          have y54 : A.eval (.tmp 54) = _ := Eq.trans (hf 54) (by conv => lhs; simp [go_sem])
          have y55 : A.eval (.tmp 55) = _ := Eq.trans (hf 55) (by conv => lhs; simp [go_sem])
          have y56 : A.eval (.tmp 56) = _ := Eq.trans (hf 56) (by conv => lhs; simp [go_sem])
          have y57 : A.eval (.tmp 57) = _ := Eq.trans (hf 57) (by conv => lhs; simp [go_sem])
          have y58 : A.eval (.tmp 58) = _ := Eq.trans (hf 58) (by conv => lhs; simp [go_sem])
          have y59 : A.eval (.tmp 59) = _ := Eq.trans (hf 59) (by conv => lhs; simp [go_sem])
          have y60 : A.eval (.tmp 60) = _ := Eq.trans (hf 60) (by conv => lhs; simp [go_sem])
          have y61 : A.eval (.tmp 61) = _ := Eq.trans (hf 61) (by conv => lhs; simp [go_sem])
          have y62 : A.eval (.tmp 62) = _ := Eq.trans (hf 62) (by conv => lhs; simp [go_sem])
          have y63 : A.eval (.tmp 63) = _ := Eq.trans (hf 63) (by conv => lhs; simp [go_sem])
          clear hf
          have hA := frame_eq hn
          rw [show List.range 64 = [0, 1, 2, 3, 4, 5, 6, 7, 8, 9, 10, 11, 12, 13, 14, 15, 16, 17, 18, 19, 20, 21, 22, 23, 24, 25, 26, 27, 28, 29, 30, 31, 32, 33, 34, 35, 36, 37, 38, 39, 40, 41, 42, 43, 44, 45, 46, 47, 48, 49, 50, 51, 52, 53, 54, 55, 56, 57, 58, 59, 60, 61, 62, 63] from rfl, hd] at hA
          simp only [List.map_cons, List.map_nil, y0, y1, y2, y3, y4, y5, y6, y7, y8, y9, y10, y11, y12, y13, y14, y15, y16, y17, y18, y19, y20, y21, y22, y23, y24, y25, y26, y27, y28, y29, y30, y31, y32, y33, y34, y35, y36, y37, y38, y39, y40, y41, y42, y43, y44, y45, y46, y47, y48, y49, y50, y51, y52, y53, y54, y55, y56, y57, y58, y59, y60, y61, y62, y63] at hA
          clear y0 y1 y2 y3 y4 y5 y6 y7 y8 y9 y10 y11 y12 y13 y14 y15 y16 y17 y18 y19 y20 y21 y22 y23 y24 y25 y26 y27 y28 y29 y30 y31 y32 y33 y34 y35 y36 y37 y38 y39 y40 y41 y42 y43 y44 y45 y46 y47 y48 y49 y50 y51 y52 y53 y54 y55 y56 y57 y58 y59 y60 y61 y62 y63
          clear hn hd
          subst hA
          have HC5 := Lib.hid (HCV.out.trans (chg_of (hC.mono (Nat.le_refl _))) (fun x hx hx2 => absurd hx (by have := HCV.out.size; omega)))
          have HX5 := Lib.hid (HXV.out.below hC)
          have HO5 := Lib.hid (HOV.out.below hC)
          have HH5 : Hid (OwnH V5 hb0 y) := HH.out.below hC
          clear hC kc
          go_wp2_with fail
          go_roundw
          case rel => exact ⟨k + 1, ax, cx, xs, by omega, by go_num, rfl, HST1.out, by show XS _ _ _ _; rw [HST2.out]; exact HX5.out, HO5.out, HC5.out⟩
          case measure => simp [intOf]; omega
        | true =>
          rw [g1] at kc
          have w1_ : IntKind.i64.wrap (now - y.2.2.1) = now - y.2.2.1 := by rw [IntKind.wrap_i64]; have h1 := HTB.out; have h2 := HAY.out; have h3 := HAT.out.2; omega
          by_cases g2 : s.hold < now - y.2.2.1
          · have g2' : ¬ now - y.2.2.1 ≤ s.hold := by omega
            have hg : gon now s.hold y = true := by unfold gon; rw [g1, decide_eq_true g2]; rfl
            have HST2 := Lib.hid (HM3.out hg)
            cases g3 : y.2.2.2 with
            | true =>
              rw [g3] at kc
              have HST1 : Hid (tkO now s.hold s.L (k + 1) = xs ++ [(2, (k : Int), y.2.1)]) := by show _ = _; rw [hst, if_pos ⟨hg, g3⟩]
              clear hst hg g2
              go_upto_region 8 with (fail)
              refine wp_region_typed (C := fun w' => Below V.heap.size V w') (X := fun w w' => Below w.heap.size w w') (n := 64) (by kernel_rfl) (by kernel_rfl) rfl (fun w => Below.refl _ w) (Below.refl _ _).drew ?_
              refine w_is (fun w => Below.refl _ w) _ (.inl rfl) (fun ρ w hC hc hfn hf => by have e8 : ρ (.tmp 8) = _ := hf 8 (by decide); (conv => lhs; simp [execOp, go_sem, hc, e8])) ?_
              refine w_is (fun w => Below.refl _ w) _ (.inl rfl) (fun ρ w hC hc hfn hf => by have e29 : ρ (.tmp 29) = _ := hf 29 (by decide); (conv => lhs; simp [execOp, go_sem, hc, e29, kc w hC])) ?_
              refine w_is (fun w => Below.refl _ w) _ (.inl rfl) (fun ρ w hC hc hfn hf => by have e30 : ρ (.tmp 30) = _ := hf 30 (by decide); (conv => lhs; simp [execOp, go_sem, hc, e30])) ?_
              refine w_is (fun w => Below.refl _ w) _ (.inl rfl) (fun ρ w hC hc hfn hf => by have e31 : ρ (.tmp 31) = _ := hf 31 (by decide); (conv => lhs; simp [execOp, go_sem, hc, e31])) ?_
              refine w_is (fun w => Below.refl _ w) _ (.inr ⟨3, 32, false, rfl, rfl, known_is rfl⟩) (fun ρ w hC hc hfn hf => by have e1 : ρ (.tmp 1) = _ := hf 1 (by decide); (conv => lhs; simp [execOp, go_sem, hc, e1])) ?_
              refine w_is (fun w => Below.refl _ w) _ (.inr ⟨3, 32, false, rfl, rfl, known_is rfl⟩) (fun ρ w hC hc hfn hf => by have e8 : ρ (.tmp 8) = _ := hf 8 (by decide); (conv => lhs; simp [execOp, go_sem, hc, e8])) ?_
              refine w_is (fun w => Below.refl _ w) _ (.inr ⟨3, 32, false, rfl, rfl, known_is rfl⟩) (fun ρ w hC hc hfn hf => by have e34 : ρ (.tmp 34) = _ := hf 34 (by decide); (conv => lhs; simp [execOp, go_sem, hc, e34, kc w hC])) ?_
              refine w_is (fun w => Below.refl _ w) _ (.inr ⟨3, 32, false, rfl, rfl, known_is rfl⟩) (fun ρ w hC hc hfn hf => by have e33 : ρ (.tmp 33) = _ := hf 33 (by decide); have e35 : ρ (.tmp 35) = _ := hf 35 (by decide); (conv => lhs; simp [execOp, go_sem, hc, e33, e35, w1_])) ?_
              refine w_is (fun w => Below.refl _ w) _ (.inr ⟨3, 32, false, rfl, rfl, known_is rfl⟩) (fun ρ w hC hc hfn hf => by have e0 : ρ (.tmp 0) = _ := hf 0 (by decide); (conv => lhs; simp [execOp, go_sem, hc, e0])) ?_
              refine w_is (fun w => Below.refl _ w) _ (.inr ⟨3, 32, false, rfl, rfl, known_is rfl⟩) (fun ρ w hC hc hfn hf => by have e37 : ρ (.tmp 37) = _ := hf 37 (by decide); (conv => lhs; simp [execOp, go_sem, hc, e37])) ?_
              refine w_is (fun w => Below.refl _ w) _ (.inr ⟨3, 32, false, rfl, rfl, known_is rfl⟩) (fun ρ w hC hc hfn hf => by have e38 : ρ (.tmp 38) = _ := hf 38 (by decide); (conv => lhs; simp [execOp, go_sem, hc, e38])) ?_
              refine w_is (fun w => Below.refl _ w) _ (.inr ⟨3, 32, false, rfl, rfl, known_is rfl⟩) (fun ρ w hC hc hfn hf => by have e39 : ρ (.tmp 39) = _ := hf 39 (by decide); (conv => lhs; simp [execOp, go_sem, hc, e39, kc w hC])) ?_
              refine w_is (fun w => Below.refl _ w) _ (.inr ⟨3, 32, false, rfl, rfl, known_is rfl⟩) (fun ρ w hC hc hfn hf => by have e36 : ρ (.tmp 36) = _ := hf 36 (by decide); have e40 : ρ (.tmp 40) = _ := hf 40 (by decide); (conv => lhs; simp [execOp, go_sem, hc, e36, e40, g2'])) ?_
              refine w_is (fun w => Below.refl _ w) _ (.inl rfl) (fun ρ w hC hc hfn hf => by have e32 : ρ (.tmp 32) = _ := hf 32 (by decide); have e41 : ρ (.tmp 41) = _ := hf 41 (by decide); (conv => lhs; simp [execOp, go_sem, hc, e32, e41])) ?_
              intro A V5 hC hn hd hf
              have y0 : A.eval (.tmp 0) = _ := Eq.trans (hf 0) (by conv => lhs; simp [go_sem])
              have y1 : A.eval (.tmp 1) = _ := Eq.trans (hf 1) (by conv => lhs; simp [go_sem])
              have y2 : A.eval (.tmp 2) = _ := Eq.trans (hf 2) (by conv => lhs; simp [go_sem])
              have y3 : A.eval (.tmp 3) = _ := Eq.trans (hf 3) (by conv => lhs; simp [go_sem])
              have y4 : A.eval (.tmp 4) = _ := Eq.trans (hf 4) (by conv => lhs; simp [go_sem])
              have y5 : A.eval (.tmp 5) = _ := Eq.trans (hf 5) (by conv => lhs; simp [go_sem])
              have y6 : A.eval (.tmp 6) = _ := Eq.trans (hf 6) (by conv => lhs; simp [go_sem])
              have y7 : A.eval (.tmp 7) = _ := Eq.trans (hf 7) (by conv => lhs; simp [go_sem])
              have y8 : A.eval (.tmp 8) = _ := Eq.trans (hf 8) (by conv => lhs; simp [go_sem])
              have y9 : A.eval (.tmp 9) = _ := Eq.trans (hf 9) (by conv => lhs; simp [go_sem])
              have y10 : A.eval (.tmp 10) = _ := Eq.trans (hf 10) (by conv => lhs; simp [go_sem])
              have y11 : A.eval (.tmp 11) = _ := Eq.trans (hf 11) (by conv => lhs; simp [go_sem])
              have y12 : A.eval (.tmp 12) = _ := Eq.trans (hf 12) (by conv => lhs; simp [go_sem])
              have y13 : A.eval (.tmp 13) = _ := Eq.trans (hf 13) (by conv => lhs; simp [go_sem])
              have y14 : A.eval (.tmp 14) = _ := Eq.trans (hf 14) (by conv => lhs; simp [go_sem])
              have y15 : A.eval (.tmp 15) = _ := Eq.trans (hf 15) (by conv => lhs; simp [go_sem])
              have y16 : A.eval (.tmp 16) = _ := Eq.trans (hf 16) (by conv => lhs; simp [go_sem])
              have y17 : A.eval (.tmp 17) = _ := Eq.trans (hf 17) (by conv => lhs; simp [go_sem])
              have y18 : A.eval (.tmp 18) = _ := Eq.trans (hf 18) (by conv => lhs; simp [go_sem])
              have y19 : A.eval (.tmp 19) = _ := Eq.trans (hf 19) (by conv => lhs; simp [go_sem])
              have y20 : A.eval (.tmp 20) = _ := Eq.trans (hf 20) (by conv => lhs; simp [go_sem])
              have y21 : A.eval (.tmp 21) = _ := Eq.trans (hf 21) (by conv => lhs; simp [go_sem])
              have y22 : A.eval (.tmp 22) = _ := Eq.trans (hf 22) (by conv => lhs; simp [go_sem])
              have y23 : A.eval (.tmp 23) = _ := Eq.trans (hf 23) (by conv => lhs; simp [go_sem])
              have y24 : A.eval (.tmp 24) = _ := Eq.trans (hf 24) (by conv => lhs; simp [go_sem])
              have y25 : A.eval (.tmp 25) = _ := Eq.trans (hf 25) (by conv => lhs; simp [go_sem])
              have y26 : A.eval (.tmp 26) = _ := Eq.trans (hf 26) (by conv => lhs; simp [go_sem])
              have y27 : A.eval (.tmp 27) = _ := Eq.trans (hf 27) (by conv => lhs; simp [go_sem])
              have y28 : A.eval (.tmp 28) = _ := Eq.trans (hf 28) (by conv => lhs; simp [go_sem])
              have y29 : A.eval (.tmp 29) = _ := hf 29
              have y30 : A.eval (.tmp 30) = _ := hf 30
              have y31 : A.eval (.tmp 31) = _ := hf 31
              have y32 : A.eval (.tmp 32) = _ := hf 32
              have y33 : A.eval (.tmp 33) = _ := hf 33
              have y34 : A.eval (.tmp 34) = _ := hf 34
              have y35 : A.eval (.tmp 35) = _ := hf 35
              have y36 : A.eval (.tmp 36) = _ := hf 36
              have y37 : A.eval (.tmp 37) = _ := hf 37
              have y38 : A.eval (.tmp 38) = _ := hf 38
              have y39 : A.eval (.tmp 39) = _ := hf 39
              have y40 : A.eval (.tmp 40) = _ := hf 40
              have y41 : A.eval (.tmp 41) = _ := hf 41
              have y42 : A.eval (.tmp 42) = _ := hf 42
              have y43 : A.eval (.tmp 43) = _ := Eq.trans (hf 43) (by conv => lhs; simp [go_sem])
              have y44 : A.eval (.tmp 44) = _ := Eq.trans (hf 44) (by conv => lhs; simp [go_sem])
              have y45 : A.eval (.tmp 45) = _ := Eq.trans (hf 45) (by conv => lhs; simp [go_sem])
              have y46 : A.eval (.tmp 46) = _ := Eq.trans (hf 46) (by conv => lhs; simp [go_sem])
              have y47 : A.eval (.tmp 47) = _ := Eq.trans (hf 47) (by conv => lhs; simp [go_sem])
              have y48 : A.eval (.tmp 48) = _ := Eq.trans (hf 48) (by conv => lhs; simp [go_sem])
              have y49 : A.eval (.tmp 49) = _ := Eq.trans (hf 49) (by conv => lhs; simp [go_sem])
              have y50 : A.eval (.tmp 50) = _ := Eq.trans (hf 50) (by conv => lhs; simp [go_sem])
              have y51 : A.eval (.tmp 51) = _ := Eq.trans (hf 51) (by conv => lhs; simp [go_sem])
              have y52 : A.eval (.tmp 52) = _ := Eq.trans (hf 52) (by conv => lhs; simp [go_sem])
              have y53 : A.eval (.tmp 53) = _ := Eq.trans (hf 53) (by conv => lhs; simp [go_sem])
              have y54 : A.eval (.tmp 54) = _ := Eq.trans (hf 54) (by conv => lhs; simp [go_sem])
              have y55 : A.eval (.tmp 55) = _ := Eq.trans (hf 55) (by conv => lhs; simp [go_sem])
              have y56 : A.eval (.tmp 56) = _ := Eq.trans (hf 56) (by conv => lhs; simp [go_sem])
              have y57 : A.eval (.tmp 57) = _ := Eq.trans (hf 57) (by conv => lhs; simp [go_sem])
              have y58 : A.eval (.tmp 58) = _ := Eq.trans (hf 58) (by conv => lhs; simp [go_sem])
              have y59 : A.eval (.tmp 59) = _ := Eq.trans (hf 59) (by conv => lhs; simp [go_sem])
              have y60 : A.eval (.tmp 60) = _ := Eq.trans (hf 60) (by conv => lhs; simp [go_sem])
              have y61 : A.eval (.tmp 61) = _ := Eq.trans (hf 61) (by conv => lhs; simp [go_sem])
              have y62 : A.eval (.tmp 62) = _ := Eq.trans (hf 62) (by conv => lhs; simp [go_sem])
              have y63 : A.eval (.tmp 63) = _ := Eq.trans (hf 63) (by conv => lhs; simp [go_sem])
              clear hf
              have hA := frame_eq hn
              rw [show List.range 64 = [0, 1, 2, 3, 4, 5, 6, 7, 8, 9, 10, 11, 12, 13, 14, 15, 16, 17, 18, 19, 20, 21, 22, 23, 24, 25, 26, 27, 28, 29, 30, 31, 32, 33, 34, 35, 36, 37, 38, 39, 40, 41, 42, 43, 44, 45, 46, 47, 48, 49, 50, 51, 52, 53, 54, 55, 56, 57, 58, 59, 60, 61, 62, 63] from rfl, hd] at hA
              simp only [List.map_cons, List.map_nil, y0, y1, y2, y3, y4, y5, y6, y7, y8, y9, y10, y11, y12, y13, y14, y15, y16, y17, y18, y19, y20, y21, y22, y23, y24, y25, y26, y27, y28, y29, y30, y31, y32, y33, y34, y35, y36, y37, y38, y39, y40, y41, y42, y43, y44, y45, y46, y47, y48, y49, y50, y51, y52, y53, y54, y55, y56, y57, y58, y59, y60, y61, y62, y63] at hA
              clear y0 y1 y2 y3 y4 y5 y6 y7 y8 y9 y10 y11 y12 y13 y14 y15 y16 y17 y18 y19 y20 y21 y22 y23 y24 y25 y26 y27 y28 y29 y30 y31 y32 y33 y34 y35 y36 y37 y38 y39 y40 y41 y42 y43 y44 y45 y46 y47 y48 y49 y50 y51 y52 y53 y54 y55 y56 y57 y58 y59 y60 y61 y62 y63
              clear hn hd
              subst hA
              have HC5 := Lib.hid (HCV.out.trans (chg_of (hC.mono (Nat.le_refl _))) (fun x hx hx2 => absurd hx (by have := HCV.out.size; omega)))
              have HX5 := Lib.hid (HXV.out.below hC)
              have HO5 := Lib.hid (HOV.out.below hC)
              have HH5 : Hid (OwnH V5 hb0 y) := HH.out.below hC
              clear hC kc
              obtain ⟨⟨h0, h1, h2, h3⟩, hf⟩ := HH5.out
              rw [g3] at h3
              have HLE1 : Hid (xs.length ≤ 3000) := by show _ ≤ _; omega
              have HSW : Hid (w.heap.size ≤ V5.heap.size) := HC5.out.size
              go_upto_region 11 with (at_builtin; refine eapp3_any rfl (.tmp 45) (.tmp 50) rfl V5 (2, (k : Int), y.2.1) rfl w.heap.size (.slice ax xs.length cx) xs rfl rfl HO5.out HLE1.out HSW.out ?_; intro g1 cap1 wa ho9 hb9; have HO1 := Lib.hid ho9; have HA1 := Lib.hid hb9; clear ho9 hb9)
              have HX6 := Lib.hid (HX5.out.keep HA1.out HBS.out HGS.out)
              have HC6 := Lib.hid (HC5.out.trans (chg_of HA1.out) (fun x hx hx2 => absurd hx (by omega)))
              have HO6 : Hid (OwV3 wa w.heap.size (.slice (some ⟨g1, 0, none⟩) (xs ++ [((2 : Int), (k : Int), y.2.1)]).length cap1) (xs ++ [((2 : Int), (k : Int), y.2.1)])) := by have h9 := HO1.out; show OwV3 _ _ _ _; rw [List.length_append]; exact h9
              clear h0 h1 h2 h3 hf
              obtain ⟨c0, c1, c2, c3, c4⟩ := HX6.out.cells
              obtain ⟨r0, r1, r2, r3⟩ := HX6.out.row k hlt
              have fz0 := HX6.out.gz (k * 4)
              have fz1 := HX6.out.gz (k * 4 + 1)
              have fz2 := HX6.out.gz (k * 4 + 2)
              have fz3 := HX6.out.gz (k * 4 + 3)
              have hx9 := HX6.out.put hlt zHd
              have hc9 := HC6.out.trans (chain4_chg wa g (k * 4) zHd) (fun x _ e => .inr e)
              have ho9 : OwV3 (chain4 wa g (k * 4) zHd) w.heap.size (.slice (some ⟨g1, 0, none⟩) (xs ++ [((2 : Int), (k : Int), y.2.1)]).length cap1) (xs ++ [((2 : Int), (k : Int), y.2.1)]) := gown_apart (gown_apart (gown_apart (gown_apart HO6.out HGS.out _) HGS.out _) HGS.out _) HGS.out _
              have HX9 := Lib.hid hx9
              have HC9 := Lib.hid hc9
              have HO9 := Lib.hid ho9
              clear hx9 hc9 ho9
              go_wp2_with fail
              go_roundw
              case rel => exact ⟨k + 1, (some ⟨g1, 0, none⟩), cap1, (xs ++ [((2 : Int), (k : Int), y.2.1)]), by omega, by go_num, by first | rfl | (rw [List.length_append]; rfl), HST1.out, by show XS _ _ _ _; rw [HST2.out]; exact HX9.out, HO9.out, HC9.out⟩
              case measure => simp [intOf]; omega
            | false =>
              rw [g3] at kc
              have HST1 : Hid (tkO now s.hold s.L (k + 1) = xs) := by show _ = _; rw [hst, if_neg (fun h => by rw [g3] at h; exact absurd h.2 (by decide)), List.append_nil]
              clear hst hg g2
              go_upto_region 8 with (fail)
              refine wp_region_typed (C := fun w' => Below V.heap.size V w') (X := fun w w' => Below w.heap.size w w') (n := 64) (by kernel_rfl) (by kernel_rfl) rfl (fun w => Below.refl _ w) (Below.refl _ _).drew ?_
              refine w_is (fun w => Below.refl _ w) _ (.inl rfl) (fun ρ w hC hc hfn hf => by have e8 : ρ (.tmp 8) = _ := hf 8 (by decide); (conv => lhs; simp [execOp, go_sem, hc, e8])) ?_
              refine w_is (fun w => Below.refl _ w) _ (.inl rfl) (fun ρ w hC hc hfn hf => by have e29 : ρ (.tmp 29) = _ := hf 29 (by decide); (conv => lhs; simp [execOp, go_sem, hc, e29, kc w hC])) ?_
              refine w_is (fun w => Below.refl _ w) _ (.inl rfl) (fun ρ w hC hc hfn hf => by have e30 : ρ (.tmp 30) = _ := hf 30 (by decide); (conv => lhs; simp [execOp, go_sem, hc, e30])) ?_
              refine w_is (fun w => Below.refl _ w) _ (.inl rfl) (fun ρ w hC hc hfn hf => by have e31 : ρ (.tmp 31) = _ := hf 31 (by decide); (conv => lhs; simp [execOp, go_sem, hc, e31])) ?_
              refine w_is (fun w => Below.refl _ w) _ (.inr ⟨3, 32, false, rfl, rfl, known_is rfl⟩) (fun ρ w hC hc hfn hf => by have e1 : ρ (.tmp 1) = _ := hf 1 (by decide); (conv => lhs; simp [execOp, go_sem, hc, e1])) ?_
              refine w_is (fun w => Below.refl _ w) _ (.inr ⟨3, 32, false, rfl, rfl, known_is rfl⟩) (fun ρ w hC hc hfn hf => by have e8 : ρ (.tmp 8) = _ := hf 8 (by decide); (conv => lhs; simp [execOp, go_sem, hc, e8])) ?_
              refine w_is (fun w => Below.refl _ w) _ (.inr ⟨3, 32, false, rfl, rfl, known_is rfl⟩) (fun ρ w hC hc hfn hf => by have e34 : ρ (.tmp 34) = _ := hf 34 (by decide); (conv => lhs; simp [execOp, go_sem, hc, e34, kc w hC])) ?_
              refine w_is (fun w => Below.refl _ w) _ (.inr ⟨3, 32, false, rfl, rfl, known_is rfl⟩) (fun ρ w hC hc hfn hf => by have e33 : ρ (.tmp 33) = _ := hf 33 (by decide); have e35 : ρ (.tmp 35) = _ := hf 35 (by decide); (conv => lhs; simp [execOp, go_sem, hc, e33, e35, w1_])) ?_
              refine w_is (fun w => Below.refl _ w) _ (.inr ⟨3, 32, false, rfl, rfl, known_is rfl⟩) (fun ρ w hC hc hfn hf => by have e0 : ρ (.tmp 0) = _ := hf 0 (by decide); (conv => lhs; simp [execOp, go_sem, hc, e0])) ?_
              refine w_is (fun w => Below.refl _ w) _ (.inr ⟨3, 32, false, rfl, rfl, known_is rfl⟩) (fun ρ w hC hc hfn hf => by have e37 : ρ (.tmp 37) = _ := hf 37 (by decide); (conv => lhs; simp [execOp, go_sem, hc, e37])) ?_
              refine w_is (fun w => Below.refl _ w) _ (.inr ⟨3, 32, false, rfl, rfl, known_is rfl⟩) (fun ρ w hC hc hfn hf => by have e38 : ρ (.tmp 38) = _ := hf 38 (by decide); (conv => lhs; simp [execOp, go_sem, hc, e38])) ?_
              refine w_is (fun w => Below.refl _ w) _ (.inr ⟨3, 32, false, rfl, rfl, known_is rfl⟩) (fun ρ w hC hc hfn hf => by have e39 : ρ (.tmp 39) = _ := hf 39 (by decide); (conv => lhs; simp [execOp, go_sem, hc, e39, kc w hC])) ?_
              refine w_is (fun w => Below.refl _ w) _ (.inr ⟨3, 32, false, rfl, rfl, known_is rfl⟩) (fun ρ w hC hc hfn hf => by have e36 : ρ (.tmp 36) = _ := hf 36 (by decide); have e40 : ρ (.tmp 40) = _ := hf 40 (by decide); (conv => lhs; simp [execOp, go_sem, hc, e36, e40, g2'])) ?_
              refine w_is (fun w => Below.refl _ w) _ (.inl rfl) (fun ρ w hC hc hfn hf => by have e32 : ρ (.tmp 32) = _ := hf 32 (by decide); have e41 : ρ (.tmp 41) = _ := hf 41 (by decide); (conv => lhs; simp [execOp, go_sem, hc, e32, e41])) ?_
              intro A V5 hC hn hd hf
              have y0 : A.eval (.tmp 0) = _ := Eq.trans (hf 0) (by conv => lhs; simp [go_sem])
              have y1 : A.eval (.tmp 1) = _ := Eq.trans (hf 1) (by conv => lhs; simp [go_sem])
              have y2 : A.eval (.tmp 2) = _ := Eq.trans (hf 2) (by conv => lhs; simp [go_sem])
              have y3 : A.eval (.tmp 3) = _ := Eq.trans (hf 3) (by conv => lhs; simp [go_sem])
              have y4 : A.eval (.tmp 4) = _ := Eq.trans (hf 4) (by conv => lhs; simp [go_sem])
              have y5 : A.eval (.tmp 5) = _ := Eq.trans (hf 5) (by conv => lhs; simp [go_sem])
              have y6 : A.eval (.tmp 6) = _ := Eq.trans (hf 6) (by conv => lhs; simp [go_sem])
              have y7 : A.eval (.tmp 7) = _ := Eq.trans (hf 7) (by conv => lhs; simp [go_sem])
              have y8 : A.eval (.tmp 8) = _ := Eq.trans (hf 8) (by conv => lhs; simp [go_sem])
              have y9 : A.eval (.tmp 9) = _ := Eq.trans (hf 9) (by conv => lhs; simp [go_sem])
              have y10 : A.eval (.tmp 10) = _ := Eq.trans (hf 10) (by conv => lhs; simp [go_sem])
              have y11 : A.eval (.tmp 11) = _ := Eq.trans (hf 11) (by conv => lhs; simp [go_sem])
              have y12 : A.eval (.tmp 12) = _ := Eq.trans (hf 12) (by conv => lhs; simp [go_sem])
              have y13 : A.eval (.tmp 13) = _ := Eq.trans (hf 13) (by conv => lhs; simp [go_sem])
              have y14 : A.eval (.tmp 14) = _ := Eq.trans (hf 14) (by conv => lhs; simp [go_sem])
              have y15 : A.eval (.tmp 15) = _ := Eq.trans (hf 15) (by conv => lhs; simp [go_sem])
              have y16 : A.eval (.tmp 16) = _ := Eq.trans (hf 16) (by conv => lhs; simp [go_sem])
              have y17 : A.eval (.tmp 17) = _ := Eq.trans (hf 17) (by conv => lhs; simp [go_sem])
              have y18 : A.eval (.tmp 18) = _ := Eq.trans (hf 18) (by conv => lhs; simp [go_sem])
              have y19 : A.eval (.tmp 19) = _ := Eq.trans (hf 19) (by conv => lhs; simp [go_sem])
              have y20 : A.eval (.tmp 20) = _ := Eq.trans (hf 20) (by conv => lhs; simp [go_sem])
              have y21 : A.eval (.tmp 21) = _ := Eq.trans (hf 21) (by conv => lhs; simp [go_sem])
              have y22 : A.eval (.tmp 22) = _ := Eq.trans (hf 22) (by conv => lhs; simp [go_sem])
              have y23 : A.eval (.tmp 23) = _ := Eq.trans (hf 23) (by conv => lhs; simp [go_sem])
              have y24 : A.eval (.tmp 24) = _ := Eq.trans (hf 24) (by conv => lhs; simp [go_sem])
              have y25 : A.eval (.tmp 25) = _ := Eq.trans (hf 25) (by conv => lhs; simp [go_sem])
              have y26 : A.eval (.tmp 26) = _ := Eq.trans (hf 26) (by conv => lhs; simp [go_sem])
              have y27 : A.eval (.tmp 27) = _ := Eq.trans (hf 27) (by conv => lhs; simp [go_sem])
              have y28 : A.eval (.tmp 28) = _ := Eq.trans (hf 28) (by conv => lhs; simp [go_sem])
              have y29 : A.eval (.tmp 29) = _ := hf 29
              have y30 : A.eval (.tmp 30) = _ := hf 30
              have y31 : A.eval (.tmp 31) = _ := hf 31
              have y32 : A.eval (.tmp 32) = _ := hf 32
              have y33 : A.eval (.tmp 33) = _ := hf 33
              have y34 : A.eval (.tmp 34) = _ := hf 34
              have y35 : A.eval (.tmp 35) = _ := hf 35
              have y36 : A.eval (.tmp 36) = _ := hf 36
              have y37 : A.eval (.tmp 37) = _ := hf 37
              have y38 : A.eval (.tmp 38) = _ := hf 38
              have y39 : A.eval (.tmp 39) = _ := hf 39
              have y40 : A.eval (.tmp 40) = _ := hf 40
              have y41 : A.eval (.tmp 41) = _ := hf 41
              have y42 : A.eval (.tmp 42) = _ := hf 42
              have y43 : A.eval (.tmp 43) = _ := Eq.trans (hf 43) (by conv => lhs; simp [go_sem])
              have y44 : A.eval (.tmp 44) = _ := Eq.trans (hf 44) (by conv => lhs; simp [go_sem])
              have y45 : A.eval (.tmp 45) = _ := Eq.trans (hf 45) (by conv => lhs; simp [go_sem])
              have y46 : A.eval (.tmp 46) = _ := Eq.trans (hf 46) (by conv => lhs; simp [go_sem])
              have y47 : A.eval (.tmp 47) = _ := Eq.trans (hf 47) (by conv => lhs; simp [go_sem])
              have y48 : A.eval (.tmp 48) = _ := Eq.trans (hf 48) (by conv => lhs; simp [go_sem])
              have y49 : A.eval (.tmp 49) = _ := Eq.trans (hf 49) (by conv => lhs; simp [go_sem])
              have y50 : A.eval (.tmp 50) = _ := Eq.trans (hf 50) (by conv => lhs; simp [go_sem])
              have y51 : A.eval (.tmp 51) = _ := Eq.trans (hf 51) (by conv => lhs; simp [go_sem])
              have y52 : A.eval (.tmp 52) = _ := Eq.trans (hf 52) (by conv => lhs; simp [go_sem])
              have y53 : A.eval (.tmp 53) = _ := Eq.trans (hf 53) (by conv => lhs; simp [go_sem])
              have y54 : A.eval (.tmp 54) = _ := Eq.trans (hf 54) (by conv => lhs; simp [go_sem])
              have y55 : A.eval (.tmp 55) = _ := Eq.trans (hf 55) (by conv => lhs; simp [go_sem])
              have y56 : A.eval (.tmp 56) = _ := Eq.trans (hf 56) (by conv => lhs; simp [go_sem])
              have y57 : A.eval (.tmp 57) = _ := Eq.trans (hf 57) (by conv => lhs; simp [go_sem])
              have y58 : A.eval (.tmp 58) = _ := Eq.trans (hf 58) (by conv => lhs; simp [go_sem])
              have y59 : A.eval (.tmp 59) = _ := Eq.trans (hf 59) (by conv => lhs; simp [go_sem])
              have y60 : A.eval (.tmp 60) = _ := Eq.trans (hf 60) (by conv => lhs; simp [go_sem])
              have y61 : A.eval (.tmp 61) = _ := Eq.trans (hf 61) (by conv => lhs; simp [go_sem])
              have y62 : A.eval (.tmp 62) = _ := Eq.trans (hf 62) (by conv => lhs; simp [go_sem])
              have y63 : A.eval (.tmp 63) = _ := Eq.trans (hf 63) (by conv => lhs; simp [go_sem])
              clear hf
              have hA := frame_eq hn
              rw [show List.range 64 = [0, 1, 2, 3, 4, 5, 6, 7, 8, 9, 10, 11, 12, 13, 14, 15, 16, 17, 18, 19, 20, 21, 22, 23, 24, 25, 26, 27, 28, 29, 30, 31, 32, 33, 34, 35, 36, 37, 38, 39, 40, 41, 42, 43, 44, 45, 46, 47, 48, 49, 50, 51, 52, 53, 54, 55, 56, 57, 58, 59, 60, 61, 62, 63] from rfl, hd] at hA
              simp only [List.map_cons, List.map_nil, y0, y1, y2, y3, y4, y5, y6, y7, y8, y9, y10, y11, y12, y13, y14, y15, y16, y17, y18, y19, y20, y21, y22, y23, y24, y25, y26, y27, y28, y29, y30, y31, y32, y33, y34, y35, y36, y37, y38, y39, y40, y41, y42, y43, y44, y45, y46, y47, y48, y49, y50, y51, y52, y53, y54, y55, y56, y57, y58, y59, y60, y61, y62, y63] at hA
              clear y0 y1 y2 y3 y4 y5 y6 y7 y8 y9 y10 y11 y12 y13 y14 y15 y16 y17 y18 y19 y20 y21 y22 y23 y24 y25 y26 y27 y28 y29 y30 y31 y32 y33 y34 y35 y36 y37 y38 y39 y40 y41 y42 y43 y44 y45 y46 y47 y48 y49 y50 y51 y52 y53 y54 y55 y56 y57 y58 y59 y60 y61 y62 y63
              clear hn hd
              subst hA
              have HC5 := Lib.hid (HCV.out.trans (chg_of (hC.mono (Nat.le_refl _))) (fun x hx hx2 => absurd hx (by have := HCV.out.size; omega)))
              have HX5 := Lib.hid (HXV.out.below hC)
              have HO5 := Lib.hid (HOV.out.below hC)
              have HH5 : Hid (OwnH V5 hb0 y) := HH.out.below hC
              clear hC kc
              obtain ⟨⟨h0, h1, h2, h3⟩, hf⟩ := HH5.out
              rw [g3] at h3
              go_upto_region 11 with (fail)
              clear h0 h1 h2 h3 hf
              obtain ⟨c0, c1, c2, c3, c4⟩ := HX5.out.cells
              obtain ⟨r0, r1, r2, r3⟩ := HX5.out.row k hlt
              have fz0 := HX5.out.gz (k * 4)
              have fz1 := HX5.out.gz (k * 4 + 1)
              have fz2 := HX5.out.gz (k * 4 + 2)
              have fz3 := HX5.out.gz (k * 4 + 3)
              have hx9 := HX5.out.put hlt zHd
              have hc9 := HC5.out.trans (chain4_chg V5 g (k * 4) zHd) (fun x _ e => .inr e)
              have ho9 : OwV3 (chain4 V5 g (k * 4) zHd) w.heap.size (.slice ax xs.length cx) xs := gown_apart (gown_apart (gown_apart (gown_apart HO5.out HGS.out _) HGS.out _) HGS.out _) HGS.out _
              have HX9 := Lib.hid hx9
              have HC9 := Lib.hid hc9
              have HO9 := Lib.hid ho9
              clear hx9 hc9 ho9
              go_wp2_with fail
              go_roundw
              case rel => exact ⟨k + 1, ax, cx, xs, by omega, by go_num, by first | rfl | (rw [List.length_append]; rfl), HST1.out, by show XS _ _ _ _; rw [HST2.out]; exact HX9.out, HO9.out, HC9.out⟩
              case measure => simp [intOf]; omega
          · have g2' : now - y.2.2.1 ≤ s.hold := by omega
            have hg : gon now s.hold y = false := by unfold gon; rw [g1, decide_eq_false g2]; rfl
            have HST2 := Lib.hid (HM2.out hg)
            have HST1 : Hid (tkO now s.hold s.L (k + 1) = xs) := by show _ = _; rw [hst, if_neg (fun h => by rw [hg] at h; exact absurd h.1 (by decide)), List.append_nil]
            clear hst hg g2
            go_upto_region 8 with (fail)
            refine wp_region_typed (C := fun w' => Below V.heap.size V w') (X := fun w w' => Below w.heap.size w w') (n := 64) (by kernel_rfl) (by kernel_rfl) rfl (fun w => Below.refl _ w) (Below.refl _ _).drew ?_
            refine w_is (fun w => Below.refl _ w) _ (.inl rfl) (fun ρ w hC hc hfn hf => by have e8 : ρ (.tmp 8) = _ := hf 8 (by decide); (conv => lhs; simp [execOp, go_sem, hc, e8])) ?_
            refine w_is (fun w => Below.refl _ w) _ (.inl rfl) (fun ρ w hC hc hfn hf => by have e29 : ρ (.tmp 29) = _ := hf 29 (by decide); (conv => lhs; simp [execOp, go_sem, hc, e29, kc w hC])) ?_
            refine w_is (fun w => Below.refl _ w) _ (.inl rfl) (fun ρ w hC hc hfn hf => by have e30 : ρ (.tmp 30) = _ := hf 30 (by decide); (conv => lhs; simp [execOp, go_sem, hc, e30])) ?_
            refine w_is (fun w => Below.refl _ w) _ (.inl rfl) (fun ρ w hC hc hfn hf => by have e31 : ρ (.tmp 31) = _ := hf 31 (by decide); (conv => lhs; simp [execOp, go_sem, hc, e31])) ?_
            refine w_is (fun w => Below.refl _ w) _ (.inr ⟨3, 32, false, rfl, rfl, known_is rfl⟩) (fun ρ w hC hc hfn hf => by have e1 : ρ (.tmp 1) = _ := hf 1 (by decide); (conv => lhs; simp [execOp, go_sem, hc, e1])) ?_
            refine w_is (fun w => Below.refl _ w) _ (.inr ⟨3, 32, false, rfl, rfl, known_is rfl⟩) (fun ρ w hC hc hfn hf => by have e8 : ρ (.tmp 8) = _ := hf 8 (by decide); (conv => lhs; simp [execOp, go_sem, hc, e8])) ?_
            refine w_is (fun w => Below.refl _ w) _ (.inr ⟨3, 32, false, rfl, rfl, known_is rfl⟩) (fun ρ w hC hc hfn hf => by have e34 : ρ (.tmp 34) = _ := hf 34 (by decide); (conv => lhs; simp [execOp, go_sem, hc, e34, kc w hC])) ?_
            refine w_is (fun w => Below.refl _ w) _ (.inr ⟨3, 32, false, rfl, rfl, known_is rfl⟩) (fun ρ w hC hc hfn hf => by have e33 : ρ (.tmp 33) = _ := hf 33 (by decide); have e35 : ρ (.tmp 35) = _ := hf 35 (by decide); (conv => lhs; simp [execOp, go_sem, hc, e33, e35, w1_])) ?_
            refine w_is (fun w => Below.refl _ w) _ (.inr ⟨3, 32, false, rfl, rfl, known_is rfl⟩) (fun ρ w hC hc hfn hf => by have e0 : ρ (.tmp 0) = _ := hf 0 (by decide); (conv => lhs; simp [execOp, go_sem, hc, e0])) ?_
            refine w_is (fun w => Below.refl _ w) _ (.inr ⟨3, 32, false, rfl, rfl, known_is rfl⟩) (fun ρ w hC hc hfn hf => by have e37 : ρ (.tmp 37) = _ := hf 37 (by decide); (conv => lhs; simp [execOp, go_sem, hc, e37])) ?_
            refine w_is (fun w => Below.refl _ w) _ (.inr ⟨3, 32, false, rfl, rfl, known_is rfl⟩) (fun ρ w hC hc hfn hf => by have e38 : ρ (.tmp 38) = _ := hf 38 (by decide); (conv => lhs; simp [execOp, go_sem, hc, e38])) ?_
            refine w_is (fun w => Below.refl _ w) _ (.inr ⟨3, 32, false, rfl, rfl, known_is rfl⟩) (fun ρ w hC hc hfn hf => by have e39 : ρ (.tmp 39) = _ := hf 39 (by decide); (conv => lhs; simp [execOp, go_sem, hc, e39, kc w hC])) ?_
            refine w_is (fun w => Below.refl _ w) _ (.inr ⟨3, 32, false, rfl, rfl, known_is rfl⟩) (fun ρ w hC hc hfn hf => by have e36 : ρ (.tmp 36) = _ := hf 36 (by decide); have e40 : ρ (.tmp 40) = _ := hf 40 (by decide); (conv => lhs; simp [execOp, go_sem, hc, e36, e40, g2'])) ?_
            refine w_is (fun w => Below.refl _ w) _ (.inl rfl) (fun ρ w hC hc hfn hf => by have e32 : ρ (.tmp 32) = _ := hf 32 (by decide); have e41 : ρ (.tmp 41) = _ := hf 41 (by decide); (conv => lhs; simp [execOp, go_sem, hc, e32, e41])) ?_
            intro A V5 hC hn hd hf
            have y0 : A.eval (.tmp 0) = _ := Eq.trans (hf 0) (by conv => lhs; simp [go_sem])
            have y1 : A.eval (.tmp 1) = _ := Eq.trans (hf 1) (by conv => lhs; simp [go_sem])
            have y2 : A.eval (.tmp 2) = _ := Eq.trans (hf 2) (by conv => lhs; simp [go_sem])
            have y3 : A.eval (.tmp 3) = _ := Eq.trans (hf 3) (by conv => lhs; simp [go_sem])
            have y4 : A.eval (.tmp 4) = _ := Eq.trans (hf 4) (by conv => lhs; simp [go_sem])
            have y5 : A.eval (.tmp 5) = _ := Eq.trans (hf 5) (by conv => lhs; simp [go_sem])
            have y6 : A.eval (.tmp 6) = _ := Eq.trans (hf 6) (by conv => lhs; simp [go_sem])
            have y7 : A.eval (.tmp 7) = _ := Eq.trans (hf 7) (by conv => lhs; simp [go_sem])
            have y8 : A.eval (.tmp 8) = _ := Eq.trans (hf 8) (by conv => lhs; simp [go_sem])
            have y9 : A.eval (.tmp 9) = _ := Eq.trans (hf 9) (by conv => lhs; simp [go_sem])
            have y10 : A.eval (.tmp 10) = _ := Eq.trans (hf 10) (by conv => lhs; simp [go_sem])
            have y11 : A.eval (.tmp 11) = _ := Eq.trans (hf 11) (by conv => lhs; simp [go_sem])
            have y12 : A.eval (.tmp 12) = _ := Eq.trans (hf 12) (by conv => lhs; simp [go_sem])
            have y13 : A.eval (.tmp 13) = _ := Eq.trans (hf 13) (by conv => lhs; simp [go_sem])
            have y14 : A.eval (.tmp 14) = _ := Eq.trans (hf 14) (by conv => lhs; simp [go_sem])
            have y15 : A.eval (.tmp 15) = _ := Eq.trans (hf 15) (by conv => lhs; simp [go_sem])
            have y16 : A.eval (.tmp 16) = _ := Eq.trans (hf 16) (by conv => lhs; simp [go_sem])
            have y17 : A.eval (.tmp 17) = _ := Eq.trans (hf 17) (by conv => lhs; simp [go_sem])
            have y18 : A.eval (.tmp 18) = _ := Eq.trans (hf 18) (by conv => lhs; simp [go_sem])
            have y19 : A.eval (.tmp 19) = _ := Eq.trans (hf 19) (by conv => lhs; simp [go_sem])
            have y20 : A.eval (.tmp 20) = _ := Eq.trans (hf 20) (by conv => lhs; simp [go_sem])
            have y21 : A.eval (.tmp 21) = _ := Eq.trans (hf 21) (by conv => lhs; simp [go_sem])
            have y22 : A.eval (.tmp 22) = _ := Eq.trans (hf 22) (by conv => lhs; simp [go_sem])
            have y23 : A.eval (.tmp 23) = _ := Eq.trans (hf 23) (by conv => lhs; simp [go_sem])
            have y24 : A.eval (.tmp 24) = _ := Eq.trans (hf 24) (by conv => lhs; simp [go_sem])
            have y25 : A.eval (.tmp 25) = _ := Eq.trans (hf 25) (by conv => lhs; simp [go_sem])
            have y26 : A.eval (.tmp 26) = _ := Eq.trans (hf 26) (by conv => lhs; simp [go_sem])
            have y27 : A.eval (.tmp 27) = _ := Eq.trans (hf 27) (by conv => lhs; simp [go_sem])
            have y28 : A.eval (.tmp 28) = _ := Eq.trans (hf 28) (by conv => lhs; simp [go_sem])
            have y29 : A.eval (.tmp 29) = _ := hf 29
            have y30 : A.eval (.tmp 30) = _ := hf 30
            have y31 : A.eval (.tmp 31) = _ := hf 31
            have y32 : A.eval (.tmp 32) = _ := hf 32
            have y33 : A.eval (.tmp 33) = _ := hf 33
            have y34 : A.eval (.tmp 34) = _ := hf 34
            have y35 : A.eval (.tmp 35) = _ := hf 35
            have y36 : A.eval (.tmp 36) = _ := hf 36
            have y37 : A.eval (.tmp 37) = _ := hf 37
            have y38 : A.eval (.tmp 38) = _ := hf 38
            have y39 : A.eval (.tmp 39) = _ := hf 39
            have y40 : A.eval (.tmp 40) = _ := hf 40
            have y41 : A.eval (.tmp 41) = _ := hf 41
            have y42 : A.eval (.tmp 42) = _ := hf 42
            have y43 : A.eval (.tmp 43) = _ := Eq.trans (hf 43) (by conv => lhs; simp [go_sem])
            have y44 : A.eval (.tmp 44) = _ := Eq.trans (hf 44) (by conv => lhs; simp [go_sem])
            have y45 : A.eval (.tmp 45) = _ := Eq.trans (hf 45) (by conv => lhs; simp [go_sem])
            have y46 : A.eval (.tmp 46) = _ := Eq.trans (hf 46) (by conv => lhs; simp [go_sem])
            have y47 : A.eval (.tmp 47) = _ := Eq.trans (hf 47) (by conv => lhs; simp [go_sem])
            have y48 : A.eval (.tmp 48) = _ := Eq.trans (hf 48) (by conv => lhs; simp [go_sem])
            have y49 : A.eval (.tmp 49) = _ := Eq.trans (hf 49) (by conv => lhs; simp [go_sem])
            have y50 : A.eval (.tmp 50) = _ := Eq.trans (hf 50) (by conv => lhs; simp [go_sem])
            have y51 : A.eval (.tmp 51) = _ := Eq.trans (hf 51) (by conv => lhs; simp [go_sem])
            have y52 : A.eval (.tmp 52) = _ := Eq.trans (hf 52) (by conv => lhs; simp [go_sem])
            have y53 : A.eval (.tmp 53) = _ := Eq.trans (hf 53) (by conv => lhs; simp [go_sem])
            have y54 : A.eval (.tmp 54) = _ := Eq.trans (hf 54) (by conv => lhs; simp [go_sem])
            have y55 : A.eval (.tmp 55) = _ := Eq.trans (hf 55) (by conv => lhs; simp [go_sem])
            have y56 : A.eval (.tmp 56) = _ := Eq.trans (hf 56) (by conv => lhs; simp [go_sem])
            have y57 : A.eval (.tmp 57) = _ := Eq.trans (hf 57) (by conv => lhs; simp [go_sem])
            have y58 : A.eval (.tmp 58) = _ := Eq.trans (hf 58) (by conv => lhs; simp [go_sem])
            have y59 : A.eval (.tmp 59) = _ := Eq.trans (hf 59) (by conv => lhs; simp [go_sem])
            have y60 : A.eval (.tmp 60) = _ := Eq.trans (hf 60) (by conv => lhs; simp [go_sem])
            have y61 : A.eval (.tmp 61) = _ := Eq.trans (hf 61) (by conv => lhs; simp [go_sem])
            have y62 : A.eval (.tmp 62) = _ := Eq.trans (hf 62) (by conv => lhs; simp [go_sem])
            have y63 : A.eval (.tmp 63) = _ := Eq.trans (hf 63) (by conv => lhs; simp [go_sem])
            clear hf
            have hA := frame_eq hn
            rw [show List.range 64 = [0, 1, 2, 3, 4, 5, 6, 7, 8, 9, 10, 11, 12, 13, 14, 15, 16, 17, 18, 19, 20, 21, 22, 23, 24, 25, 26, 27, 28, 29, 30, 31, 32, 33, 34, 35, 36, 37, 38, 39, 40, 41, 42, 43, 44, 45, 46, 47, 48, 49, 50, 51, 52, 53, 54, 55, 56, 57, 58, 59, 60, 61, 62, 63] from rfl, hd] at hA
            simp only [List.map_cons, List.map_nil, y0, y1, y2, y3, y4, y5, y6, y7, y8, y9, y10, y11, y12, y13, y14, y15, y16, y17, y18, y19, y20, y21, y22, y23, y24, y25, y26, y27, y28, y29, y30, y31, y32, y33, y34, y35, y36, y37, y38, y39, y40, y41, y42, y43, y44, y45, y46, y47, y48, y49, y50, y51, y52, y53, y54, y55, y56, y57, y58, y59, y60, y61, y62, y63] at hA
            clear y0 y1 y2 y3 y4 y5 y6 y7 y8 y9 y10 y11 y12 y13 y14 y15 y16 y17 y18 y19 y20 y21 y22 y23 y24 y25 y26 y27 y28 y29 y30 y31 y32 y33 y34 y35 y36 y37 y38 y39 y40 y41 y42 y43 y44 y45 y46 y47 y48 y49 y50 y51 y52 y53 y54 y55 y56 y57 y58 y59 y60 y61 y62 y63
            clear hn hd
            subst hA
            have HC5 := Lib.hid (HCV.out.trans (chg_of (hC.mono (Nat.le_refl _))) (fun x hx hx2 => absurd hx (by have := HCV.out.size; omega)))
            have HX5 := Lib.hid (HXV.out.below hC)
            have HO5 := Lib.hid (HOV.out.below hC)
            have HH5 : Hid (OwnH V5 hb0 y) := HH.out.below hC
            clear hC kc
            go_wp2_with fail
            go_roundw
            case rel => exact ⟨k + 1, ax, cx, xs, by omega, by go_num, rfl, HST1.out, by show XS _ _ _ _; rw [HST2.out]; exact HX5.out, HO5.out, HC5.out⟩
            case measure => simp [intOf]; omega
      · obtain rfl : k = 64 := by omega
        have f3 := HX.out.fz 3
        have hx9 := HX.out.tick now
        have hc9 := HC.out.trans ((Chg.refl (fun k => k = b) wr).setCell (p := ⟨b, 3, none⟩) (.inl rfl) (.int .i64 now)) (fun x _ e => .inl e)
        have ho9 : OwV3 (wr.setCell ⟨b, 3, none⟩ (.int .i64 now)) w.heap.size (.slice ax xs.length cx) xs := gown_apart HO.out HBS.out _
        have HX9 := Lib.hid hx9
        have HC9 := Lib.hid hc9
        have HO9 := Lib.hid ho9
        clear hx9 hc9 ho9
        go_wp2_with fail
        refine bodyPost_ret (v := .tuple #[.slice ax xs.length cx, .int .i64 0]) (by simp [results, Try.results14, go_sem]) rfl ?_
        rw [← HE.out.1, ← HE.out.2.1, ← HE.out.2.2, HF.out]
        exact ⟨⟨_, _, rfl, HO9.out⟩, HX9.out, HC9.out⟩
end Go.Proofs.Ytcddicaebecneaa
