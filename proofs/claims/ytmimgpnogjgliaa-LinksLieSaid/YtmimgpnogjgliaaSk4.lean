/- slices.symMergeCmpFunc of a row of ints. -/

import Derived.Test.YtmimgpnogjgliaaSk3
import Derived.Deep.RegionHeld
namespace Go.Proofs.Ytmimgpnogjgliaa
set_option maxRecDepth 100000
open Go.RowKit

theorem wrap_u (x : Nat) (h : x < 1000000) : IntKind.u64.wrap ((x : Int)) = (x : Int) := by
  show ((x : Int)) % 2 ^ 64 = (x : Int)
  omega
theorem gd_in (p m q : List Int) {i : Nat} (h1 : p.length ≤ i) (h2 : i < p.length + m.length) : (p ++ (m ++ q)).getD i 0 = m.getD (i - p.length) 0 := by
  simp only [List.getD]
  rw [List.getElem?_append_right h1, List.getElem?_append_left (by omega)]
theorem gd_at {l : List Int} {i : Nat} (h : i < l.length) : l.getD i 0 = l[i] := by simp [List.getD, h]
theorem gd_mem {l : List Int} {i : Nat} (h : i < l.length) : l.getD i 0 ∈ l := by simp [List.getD, h]
/-- One at place q of others. -/
def Put1 (X S : List Int) (x : Int) (Z : List Int) (q : Nat) : List Int := X ++ (S.take q ++ x :: (S.drop q ++ Z))
theorem Put1.len (X S : List Int) (x : Int) (Z : List Int) (q : Nat) : (Put1 X S x Z q).length = X.length + S.length + 1 + Z.length := by
  unfold Put1
  have e1 : S.length = (S.take q).length + (S.drop q).length := by rw [← List.length_append, List.take_append_drop]
  simp only [List.length_append, List.length_cons]
  omega
theorem Put1.step (X S : List Int) (x : Int) (Z : List Int) {q i j : Nat} (h : q < S.length) (hi : i = X.length + q) (hj : j = X.length + q + 1) :
    ((Put1 X S x Z q).getD i 0 = x ∧ (Put1 X S x Z q).getD j 0 = S.getD q 0 ∧ swl (Put1 X S x Z q) i j = Put1 X S x Z (q + 1)) ∧
    ((Put1 X S x Z (q + 1)).getD j 0 = x ∧ (Put1 X S x Z (q + 1)).getD i 0 = S.getD q 0 ∧ swl (Put1 X S x Z (q + 1)) j i = Put1 X S x Z q) := by
  have e1 : Put1 X S x Z q = (X ++ S.take q) ++ x :: S.getD q 0 :: (S.drop (q + 1) ++ Z) := by unfold Put1; rw [drop_q h]; simp
  have e2 : Put1 X S x Z (q + 1) = (X ++ S.take q) ++ S.getD q 0 :: x :: (S.drop (q + 1) ++ Z) := by unfold Put1; rw [take_q h]; simp
  have hl : i = (X ++ S.take q).length := by simp; omega
  have hl2 : ∀ u : Int, j = ((X ++ S.take q) ++ [u]).length := fun u => by simp; omega
  have f : ∀ u v : Int, ((X ++ S.take q) ++ u :: v :: (S.drop (q + 1) ++ Z)).getD j 0 = v := fun u v => by
    rw [show (X ++ S.take q) ++ u :: v :: (S.drop (q + 1) ++ Z) = ((X ++ S.take q) ++ [u]) ++ v :: (S.drop (q + 1) ++ Z) by simp]
    exact gd_mid _ _ _ (hl2 u)
  rw [e1, e2]
  exact ⟨⟨gd_mid _ _ _ hl, f _ _, sw_adj _ _ _ _ hl (by omega)⟩, f _ _, gd_mid _ _ _ hl, sw_adj' _ _ _ _ hl (by omega)⟩
theorem Put1.srt {lt : Int → Int → Prop} (tr : ∀ x y z, lt x y → lt y z → lt x z) {S : List Int} {x : Int} {q : Nat} (hs : S.Pairwise lt) (hq : q ≤ S.length) (h1 : q = 0 ∨ (0 < q ∧ lt (S.getD (q - 1) 0) x)) (h2 : q = S.length ∨ (q < S.length ∧ lt x (S.getD q 0))) :
    (S.take q ++ x :: S.drop q).Pairwise lt := by
  have hp := (List.take_append_drop q S) ▸ hs
  obtain ⟨p1, p2, p3⟩ := List.pairwise_append.1 hp
  have ha : ∀ z ∈ S.take q, lt z x := by
    rcases h1 with rfl | ⟨h0, hl⟩
    · intro z hz; simp at hz
    · exact pw_le_last tr hs h0 hq (by rw [gd_at (by omega)] at hl; exact hl)
  have hb : ∀ z ∈ S.drop q, lt x z := by
    rcases h2 with rfl | ⟨h0, hl⟩
    · intro z hz; simp at hz
    · exact pw_first_le tr hs h0 (by rw [gd_at h0] at hl; exact hl)
  refine List.pairwise_append.2 ⟨p1, List.pairwise_cons.2 ⟨hb, p2⟩, fun z hz y hy => ?_⟩
  rcases List.mem_cons.1 hy with rfl | hy
  · exact ha z hz
  · exact p3 z hz y hy
theorem Put1.perm (S : List Int) (x : Int) (q : Nat) : (S.take q ++ x :: S.drop q).Perm (x :: S) := by
  refine List.perm_middle.trans ?_
  rw [List.take_append_drop]
section
variable {ok : Int → Prop} {cf : Int → Int → Int} {lt : Int → Int → Prop} {B : Nat} {w0 : World} {cbv : Value} {b off n cap : Nat}
set_option maxHeartbeats 8000000 in
theorem smerge_one (O : SOrd ok cf lt) (HC : CmpC cbv B w0 ok cf) (X R Z : List Int) (x : Int) (hR : 0 < R.length) (w : World) (h : SX B w0 b off w (X ++ (x :: (R ++ Z)))) (sR : R.Pairwise lt) (hLR : ∀ y ∈ R, x < y) (okx : ok x) (okR : ∀ y ∈ R, ok y) (hn : n = X.length + 1 + R.length + Z.length) (hbig : n ≤ 100000) (a m c : Nat) (ha : a = X.length) (hm : m = a + 1) (hc : c = m + R.length) :
    Calls Try.prog 72 #[.slice (some ⟨b, off, none⟩) n cap, .int .i64 a, .int .i64 m, .int .i64 c, .func (.func 62) #[] #[cbv]] w fun e w' => e = .returned (.tuple #[]) ∧ ∃ S, SX B w0 b off w' (X ++ (S ++ Z)) ∧ S.Perm (x :: R) ∧ S.Pairwise lt := by
  have mixed : Try.prog.follows .mixedOrders = true := by kernel_rfl
  have H := Lib.hid h
  have HN := Lib.hid (And.intro hn (And.intro ha (And.intro hm hc)))
  have q1 : IntKind.i64.wrap ((m : Int) - (a : Int)) = 1 := by rw [IntKind.wrap_i64]; omega
  have HO := Lib.hid O
  have HCC := Lib.hid HC
  have HLR := Lib.hid hLR
  have OKX := Lib.hid okx
  have OKR := Lib.hid okR
  have SR0 := Lib.hid sR
  clear h ha hm hc hn O HC hLR okx okR sR
  go_enter Try.func72, Try.ntmps72
  go_wp2_with fail
  go_loopw [10, 11] (fun i j wr => ∃ (s t : Nat), i = .int .i64 s ∧ j = .int .i64 t ∧ m ≤ s ∧ s ≤ t ∧ t ≤ c ∧ Hid (SX B w0 b off wr (X ++ (x :: (R ++ Z)))) ∧ Hid (s = m ∨ (m < s ∧ lt (R.getD (s - 1 - m) 0) x)) ∧ Hid (t = c ∨ (t < c ∧ lt x (R.getD (t - m) 0)))) (fun i j _ => (intOf j).toNat - (intOf i).toNat)
  case atStart => exact ⟨m, c, rfl, rfl, Nat.le_refl _, by have := HN.out; omega, Nat.le_refl _, H.out, .inl rfl, .inl rfl⟩
  case round =>
    obtain ⟨s, t, rfl, rfl, hms, hst, htc, HS, H1, H2⟩ := hrel
    clear H
    by_cases hlt : s < t
    · have hltz : (s : Int) < (t : Int) := by omega
      obtain ⟨hh0, hh⟩ : ∃ hh0, hh0 = (s + t) / 2 := ⟨_, rfl⟩
      have rA : IntKind.i64.wrap ((s : Int) + (t : Int)) = (s : Int) + (t : Int) := by have := HN.out; rw [IntKind.wrap_i64]; omega
      have rB : IntKind.u64.wrap ((s : Int) + (t : Int)) = (s : Int) + (t : Int) := by have := HN.out; exact wrap_u (s + t) (by omega)
      have rC : IntKind.i64.wrap (((s : Int) + (t : Int)) / 2) = (hh0 : Int) := by have := HN.out; rw [IntKind.wrap_i64]; omega
      have r1 : IntKind.i64.wrap ((hh0 : Int) + 1) = (hh0 : Int) + 1 := by have := HN.out; rw [IntKind.wrap_i64]; omega
      have h3 : s ≤ hh0 ∧ hh0 < t := by omega
      obtain ⟨y, hy⟩ : ∃ y, R.getD (hh0 - m) 0 = y := ⟨_, rfl⟩
      have l1 : (X ++ (x :: (R ++ Z))).getD hh0 0 = y := by
        rw [show X ++ (x :: (R ++ Z)) = (X ++ [x]) ++ (R ++ Z) by simp, gd_in _ _ _ (by have := HN.out; simp; omega) (by have := HN.out; simp; omega), ← hy]
        congr 1
        have := HN.out; simp; omega
      have l2 : (X ++ (x :: (R ++ Z))).getD a 0 = x := gd_mid _ _ _ HN.out.2.1
      have hi1 : hh0 < (X ++ (x :: (R ++ Z))).length := by have := HN.out; simp; omega
      have hj1 : a < (X ++ (x :: (R ++ Z))).length := by have := HN.out; simp; omega
      have b1 : (hh0 : Int) < (n : Int) := by have := HN.out; omega
      have b2 : (a : Int) < (n : Int) := by have := HN.out; omega
      have hyR : y ∈ R := hy ▸ gd_mem (by have := HN.out; omega)
      have i1 := HLR.out y hyR
      have oky := OKR.out y hyR
      have cX := HS.out.cmp HCC.out oky OKX.out
      have kc : ∀ w', Below wr.heap.size wr w' → w'.cell? ⟨b, off + hh0, none⟩ = some (.int .i64 y) ∧ w'.cell? ⟨b, off + a, none⟩ = some (.int .i64 x) := fun w' hb => by
        have h1 := (HS.out.low hb).c (i := hh0) hi1
        have h2 := (HS.out.low hb).c (i := a) hj1
        rw [l1] at h1
        rw [l2] at h2
        exact ⟨h1, h2⟩
      have c1 := (kc _ (Below.refl _ _)).1
      have c2 := (kc _ (Below.refl _ _)).2
      have HY := Lib.hid hy
      have H3 := Lib.hid h3
      clear hy h3 hh l1 l2 hi1 hj1
      by_cases hv : cf y x < 0
      · have hl := HO.out.yes x y OKX.out oky i1 hv
        have hvd : decide (cf y x < 0) = true := decide_eq_true hv
        go_upto_region 5 with (fail)
        go_region_held (fun w' => w'.cell? ⟨b, off + hh0, none⟩ = some (.int .i64 y) ∧ w'.cell? ⟨b, off + a, none⟩ = some (.int .i64 x)) (first | exact ⟨k1, k2⟩ | exact ⟨c1, c2⟩ | go_keep) (first
          | (go_at_call 62; refine (cX _ (Below.refl _ _).drew).mono ?_; rintro e V ⟨rfl, hb0⟩; have hb := Below.trans (Below.refl _ _).drew hb0; clear hb0; have k1 := (kc _ hb).1; have k2 := (kc _ hb).2))
        have HS3 := Lib.hid (HS.out.low hb)
        clear HS hb kc cX c1 c2 k1 k2
        go_wp2_with fail
        go_roundw
        case rel => exact ⟨hh0 + 1, t, by go_num, rfl, by have := H3.out; omega, by have := H3.out; omega, htc, HS3, .inr ⟨by have := H3.out; omega, by rw [Nat.add_sub_cancel, HY.out]; exact hl⟩, H2⟩
        case measure => have := H3.out; simp [intOf]; omega
      · have hl := HO.out.no x y OKX.out oky i1 hv
        have hvd : decide (cf y x < 0) = false := decide_eq_false hv
        go_upto_region 5 with (fail)
        go_region_held (fun w' => w'.cell? ⟨b, off + hh0, none⟩ = some (.int .i64 y) ∧ w'.cell? ⟨b, off + a, none⟩ = some (.int .i64 x)) (first | exact ⟨k1, k2⟩ | exact ⟨c1, c2⟩ | go_keep) (first
          | (go_at_call 62; refine (cX _ (Below.refl _ _).drew).mono ?_; rintro e V ⟨rfl, hb0⟩; have hb := Below.trans (Below.refl _ _).drew hb0; clear hb0; have k1 := (kc _ hb).1; have k2 := (kc _ hb).2))
        have HS3 := Lib.hid (HS.out.low hb)
        clear HS hb kc cX c1 c2 k1 k2
        go_wp2_with fail
        go_roundw
        case rel => exact ⟨s, hh0, rfl, rfl, hms, by have := H3.out; omega, by have := H3.out; omega, HS3, H1, .inr ⟨by have := H3.out; omega, by rw [HY.out]; exact hl⟩⟩
        case measure => have := H3.out; simp [intOf]; omega
    · obtain rfl : s = t := by omega
      have hltz : ¬ (s : Int) < (s : Int) := by omega
      obtain ⟨i1, hi1⟩ : ∃ i1, i1 = s - 1 := ⟨_, rfl⟩
      have r1 : IntKind.i64.wrap ((s : Int) - 1) = (i1 : Int) := by have := HN.out; rw [IntKind.wrap_i64]; omega
      have HI := Lib.hid hi1
      clear hi1 hltz
      have hltz : ¬ (s : Int) < (s : Int) := by omega
      have HS0 : Hid (SX B w0 b off wr (Put1 X R x Z 0)) := by
        show SX _ _ _ _ _ _
        have := HS.out
        simpa [Put1] using this
      clear HS
      go_wp2_with fail
      go_loopw [13] (fun k wr => ∃ (u : Nat), k = .int .i64 ((a : Int) + (u : Int)) ∧ a + u ≤ i1 ∧ Hid (SX B w0 b off wr (Put1 X R x Z u))) (fun k _ => i1 - (intOf k).toNat)
      case atStart => exact ⟨0, by simp, by have := HN.out; have := HI.out; omega, HS0⟩
      case round =>
        obtain ⟨u, rfl, hu, HS⟩ := hrel
        clear HS0
        by_cases hlt : a + u < i1
        · have hltz : (a : Int) + (u : Int) < (i1 : Int) := by omega
          obtain ⟨iN, hiN⟩ : ∃ iN, iN = a + u := ⟨_, rfl⟩
          obtain ⟨jN, hjN⟩ : ∃ jN, jN = a + u + 1 := ⟨_, rfl⟩
          obtain ⟨l1, l2, l3⟩ := (Put1.step X R x Z (q := u) (i := iN) (j := jN) (by have := HN.out; have := HI.out; omega) (by have := HN.out; omega) (by have := HN.out; omega)).1
          have hln := Put1.len X R x Z u
          obtain ⟨d, hd⟩ : ∃ d, Put1 X R x Z u = d := ⟨_, rfl⟩
          obtain ⟨y, hy⟩ : ∃ y, R.getD u 0 = y := ⟨_, rfl⟩
          rw [hd] at HS l1 l2 l3 hln
          rw [hy] at l2
          have hi1 : iN < d.length := by have := HN.out; have := HI.out; omega
          have hj1 : jN < d.length := by have := HN.out; have := HI.out; omega
          have e1 : ((a : Int) + (u : Int)).toNat = iN := by omega
          have p1 : (0 : Int) ≤ (a : Int) + (u : Int) := by omega
          have b1 : (a : Int) + (u : Int) < (n : Int) := by have := HN.out; have := HI.out; omega
          have r2 : IntKind.i64.wrap ((a : Int) + (u : Int) + 1) = (a : Int) + (u : Int) + 1 := by have := HN.out; rw [IntKind.wrap_i64]; omega
          have e2 : ((a : Int) + (u : Int) + 1).toNat = jN := by omega
          have p2 : (0 : Int) ≤ (a : Int) + (u : Int) + 1 := by omega
          have b2 : (a : Int) + (u : Int) + 1 < (n : Int) := by have := HN.out; have := HI.out; omega
          clear hd hy hiN hjN hln
          have c1 := HS.out.c (i := iN) hi1
          have c2 := HS.out.c (i := jN) hj1
          have f1 := HS.out.f (i := iN) hi1
          have f2 := HS.out.f (i := jN) hj1
          have HS4 := HS.out.swap (i := iN) (j := jN) hi1 hj1
          obtain ⟨u3, c3⟩ := HS.out.c2 (i := iN) (j := jN) hi1 hj1 (.int .i64 y)
          rw [l1] at c1 HS4
          rw [l2] at c2 HS4
          rw [l3] at HS4
          have HS5 := Lib.hid HS4.drew
          clear HS HS4 l1 l2 l3 hi1 hj1
          go_wp2_with fail
          go_big_region_o
          clear c1 c2 c3 f1 f2
          generalize ((wr.setCell ⟨b, off + iN, none⟩ (.int .i64 y)).setCell ⟨b, off + jN, none⟩ (.int .i64 x)).drew = w3 at HS5 ⊢
          clear e1 e2
          go_wp2_with fail
          go_roundw
          case rel => exact ⟨u + 1, by simp only [Value.int.injEq, true_and]; omega, by omega, HS5⟩
          case measure => simp [intOf]; omega
        · have hltz : ¬ (a : Int) + (u : Int) < (i1 : Int) := by omega
          go_wp2_with fail
          refine bodyPost_ret (v := .tuple #[]) (by simp [results, Try.results72, go_sem]) rfl ?_
          have hu2 : u = s - m := by have := HN.out; have := HI.out; omega
          refine ⟨rfl, R.take u ++ x :: R.drop u, ?_, Put1.perm R x u, Put1.srt HO.out.tr SR0.out (by have := HN.out; omega) ?_ ?_⟩
          · have := HS.out
            simpa [Put1] using this
          · rcases H1.out with h1 | ⟨h1, h2⟩
            · exact .inl (by omega)
            · exact .inr ⟨by omega, by rw [show u - 1 = s - 1 - m by omega]; exact h2⟩
          · rcases H2.out with h1 | ⟨h1, h2⟩
            · exact .inl (by have := HN.out; omega)
            · exact .inr ⟨by have := HN.out; omega, by rw [hu2]; exact h2⟩
end
end Go.Proofs.Ytmimgpnogjgliaa

