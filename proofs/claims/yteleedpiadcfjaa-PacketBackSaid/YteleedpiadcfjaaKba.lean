/- thalweglaw08.PacketBack: for any packet, bytes ahead and behind the law answers true: what has bytes is parsed as itself, what is parsed is right and has the same bytes; no condition. -/
import Derived.Test.YteleedpiadcfjaaPkf
import Derived.Test.YteleedpiadcfjaaTyp2
import Derived.Test.YteleedpiadcfjaaBbg
import Derived.Test.YteleedpiadcfjaaPkg
import Derived.WalkLawsBesides
import Derived.WalkKit
import Derived.ProofKit
import Derived.OpenShut
import Derived.ShutString
import Derived.ChangeOld
import Derived.Below
namespace Go.Proofs.Yteleedpiadcfjaa.packetBack
open Go.ChangeShapes Go.WideShapes Go.ChangeAt Go.RowKit
open Go.ChangeMaps (open_string shut_string)
set_option linter.unusedVariables false
set_option maxRecDepth 100000

theorem own : ownKnob Try.prog.godebug = none := by kernel_rfl
theorem laidOut : laidOutB Try.prog = true := by kernel_rfl
def IsRow (k : IntKind) (w : World) (a : Option Addr) (len cap : Nat) (zs : List Int) : Prop :=
  (a = none ∧ len = 0 ∧ cap = 0 ∧ zs = []) ∨
  ∃ x, a = some x ∧ len ≤ cap ∧ cap ≤ maxLen ∧ zs.length = cap ∧ (∀ i, i < zs.length → w.cell? (x.add i) = some (.int k (zs.getD i 0))) ∧ ∀ n ∈ zs, (Lit.int k n).wf = true

theorem bs_of {w : World} {a : Option Addr} {len cap : Nat} {zs : List Int} (h : IsRow .u8 w a len cap zs) : Bs w (.slice a len cap) (zs.take len) ∧ (zs.take len).length = len := by
  rcases h with ⟨rfl, rfl, rfl, rfl⟩ | ⟨x, rfl, hl, hm, hz, hcell, hwz⟩
  · exact ⟨Bs_nil w, rfl⟩
  · have hlen : (zs.take len).length = len := by rw [List.length_take]; omega
    refine ⟨⟨fun n hn => ?_, by rw [hlen]; unfold maxLen at hm; omega, ?_⟩, hlen⟩
    · have := hwz n (List.take_subset _ _ hn)
      have b := bounds_u8 this
      omega
    · by_cases h0 : len = 0
      · subst h0; exact .inl ⟨some x, cap, rfl, (fun h => by cases h), by simp⟩
      · right
        obtain ⟨b, off, spot⟩ := x
        have hc := hcell 0 (by omega)
        have hspot : spot = none := by simpa [Addr.add] using World.cell?_spot hc
        subst hspot
        refine ⟨b, off, cap, by rw [hlen], by rw [hlen]; exact hl, fun i hi => ?_⟩
        have hi' : i < len := by omega
        have := hcell i (by omega)
        have hadd : (⟨b, off, none⟩ : Addr).add i = ⟨b, off + i, none⟩ := by unfold Addr.add; split <;> simp_all
        rw [hadd] at this
        rw [this]
        simp [List.getD, hi']

theorem bs_take {w : World} {b o p T : Nat} {m : List Int} (h : Bs w (.slice (some ⟨b, o, none⟩) m.length p) m) (hT : T ≤ m.length) (h0 : 0 < T) : Bs w (.slice (some ⟨b, o, none⟩) T p) (m.take T) := by
  obtain ⟨h1, h2, ⟨a, cap, hv, -, rfl⟩ | ⟨b', o', cap, hv, hc, hcell⟩⟩ := h
  · simp at hT; omega
  · simp only [Value.slice.injEq, Option.some.injEq, Addr.mk.injEq, and_true, true_and] at hv
    obtain ⟨⟨rfl, rfl⟩, rfl⟩ := hv
    have hl : (m.take T).length = T := by rw [List.length_take]; omega
    refine ⟨fun x hx => h1 x (List.take_subset _ _ hx), by omega, .inr ⟨b, o, p, by rw [hl], by omega, fun i hi => ?_⟩⟩
    rw [hcell i (by omega)]
    rw [hl] at hi
    simp [List.getD, hi]

theorem early0 (ps0 pd0 pt0 pn0 : Int) (px0 : ByteArray) (f m : List Int) (c1 c2 : Option Addr) (u1 u2 : Nat) (w : World) (h0 : (600 : Int) < (px0.size : Int)) :
    Calls Try.prog 5 #[.agg #[.int .i64 ps0, .int .i64 pd0, .int .i64 pt0, .int .i64 pn0, .string px0], .slice c1 f.length u1, .slice c2 m.length u2] w fun e w' => e = .returned (.bool true) ∧ Below w.heap.size w w' := by
  go_enter Try.func5, Try.ntmps5
  go_wp2_with fail
  go_ret
  exact ⟨rfl, (Below.refl _ _).alloc (Nat.le_refl _) _⟩

theorem early1 (ps0 pd0 pt0 pn0 : Int) (px0 : ByteArray) (f m : List Int) (c1 c2 : Option Addr) (u1 u2 : Nat) (w : World) (h0 : ¬ (600 : Int) < (px0.size : Int)) (h1 : (200 : Int) < (f.length : Int)) :
    Calls Try.prog 5 #[.agg #[.int .i64 ps0, .int .i64 pd0, .int .i64 pt0, .int .i64 pn0, .string px0], .slice c1 f.length u1, .slice c2 m.length u2] w fun e w' => e = .returned (.bool true) ∧ Below w.heap.size w w' := by
  go_enter Try.func5, Try.ntmps5
  go_wp2_with fail
  go_ret
  exact ⟨rfl, (Below.refl _ _).alloc (Nat.le_refl _) _⟩

theorem early2 (ps0 pd0 pt0 pn0 : Int) (px0 : ByteArray) (f m : List Int) (c1 c2 : Option Addr) (u1 u2 : Nat) (w : World) (h0 : ¬ (600 : Int) < (px0.size : Int)) (h1 : ¬ (200 : Int) < (f.length : Int)) (h2 : (500 : Int) < (m.length : Int)) :
    Calls Try.prog 5 #[.agg #[.int .i64 ps0, .int .i64 pd0, .int .i64 pt0, .int .i64 pn0, .string px0], .slice c1 f.length u1, .slice c2 m.length u2] w fun e w' => e = .returned (.bool true) ∧ Below w.heap.size w w' := by
  go_enter Try.func5, Try.ntmps5
  go_wp2_with fail
  go_ret
  exact ⟨rfl, (Below.refl _ _).alloc (Nat.le_refl _) _⟩

set_option maxHeartbeats 32000000 in
theorem case_eo (H : Pc) (ps0 pd0 pt0 pn0 : Int) (px0 : ByteArray) (f m : List Int) (c1 : Option Addr) (c2 : Option Addr) (u1 u2 : Nat) (w : World) (b1 : Bs w (.slice c1 f.length u1) f) (b2 : Bs w (.slice c2 m.length u2) m) (s0 : (px0.size : Int) ≤ 600) (s1 : (f.length : Int) ≤ 200) (s2 : (m.length : Int) ≤ 500)
    (y1 y2 y3 y4 : Int) (yx : ByteArray) (T E kx : Int) (X : List Int) (hE : E ≠ 0) (B : List Int) (hlB : B.length ≤ 263) (hBl : B.length = 7 + px0.size) (c21 : ∀ W, Bs W (.slice c2 m.length u2) m → Calls Try.prog 15 #[.slice c2 m.length u2, .int .i64 0] W fun e w' => e = .returned (.tuple #[.agg #[.int .i64 y1, .int .i64 y2, .int .i64 y3, .int .i64 y4, .string yx], .int .i64 T, .int .i64 E]) ∧ Below W.heap.size W w') (cX : ∀ W, Calls Try.prog 8 #[.agg #[.int .i64 y1, .int .i64 y2, .int .i64 y3, .int .i64 y4, .string yx]] W (RetK W X kx)) (cB : ∀ W, Calls Try.prog 8 #[.agg #[.int .i64 ps0, .int .i64 pd0, .int .i64 pt0, .int .i64 pn0, .string px0]] W (RetK W B 0)) (c22 : ∀ W v, Bs W v (f ++ (B ++ m)) → Calls Try.prog 15 #[v, .int .i64 f.length] W fun e w' => e = .returned (.tuple #[.agg #[.int .i64 ps0, .int .i64 pd0, .int .i64 pt0, .int .i64 pn0, .string px0], .int .i64 ((f.length : Int) + (B.length : Int)), .int .i64 0]) ∧ Below W.heap.size W w') :
    Calls Try.prog 5 #[.agg #[.int .i64 ps0, .int .i64 pd0, .int .i64 pt0, .int .i64 pn0, .string px0], .slice c1 f.length u1, .slice c2 m.length u2] w fun e w' => e = .returned (.bool true) ∧ Below w.heap.size w w' := by
  have HBL := Lib.hid hBl
  clear hBl
  have hE0 : (E == 0) = false := by simpa using hE
  have HE := Lib.hid hE
  clear hE
  have RF := Lib.hid (Bs_alloc b1 (.cells #[.int .i64 ps0, .int .i64 pd0, .int .i64 pt0, .int .i64 pn0, .string px0] 23))
  have RM := Lib.hid (Bs_alloc b2 (.cells #[.int .i64 ps0, .int .i64 pd0, .int .i64 pt0, .int .i64 pn0, .string px0] 23))
  have O0 := Lib.hid (ownp_alloc w ps0 pd0 pt0 pn0 px0 23 w.heap.size rfl)
  have HB : Hid (Below w.heap.size w (w.alloc (.cells #[.int .i64 ps0, .int .i64 pd0, .int .i64 pt0, .int .i64 pn0, .string px0] 23))) := (Below.refl _ w).alloc (Nat.le_refl _) _
  have hz60 : ¬ (600 : Int) < (px0.size : Int) := by omega
  have hf200 : ¬ (200 : Int) < (f.length : Int) := by omega
  have hm600 : ¬ (500 : Int) < (m.length : Int) := by omega
  clear b1 b2
  go_enter Try.func5, Try.ntmps5
  go_wp2_with fail
  clear hz60 hf200 hm600
  refine (c21 _ RM.out).mono ?_
  rintro e V1 ⟨rfl, hb⟩
  replace RF := Lib.hid (Bs_below RF.out hb)
  replace RM := Lib.hid (Bs_below RM.out hb)
  replace O0 := Lib.hid (O0.out.below hb)
  replace HB := Lib.hid (HB.out.trans (hb.mono HB.out.size))
  clear hb
  have hal : Below V1.heap.size V1 (V1.alloc (.cells #[.int .i64 y1, .int .i64 y2, .int .i64 y3, .int .i64 y4, .string yx] 23)) := (Below.refl _ V1).alloc (Nat.le_refl _) _
  have O1 := Lib.hid (ownp_alloc V1 y1 y2 y3 y4 yx 23 V1.heap.size rfl)
  replace RF := Lib.hid (Bs_below RF.out hal)
  replace RM := Lib.hid (Bs_below RM.out hal)
  replace O0 := Lib.hid (O0.out.below hal)
  replace HB := Lib.hid (HB.out.trans (hal.mono HB.out.size))
  clear hal
  obtain ⟨b7, hg⟩ : ∃ b7, V1.heap.size = b7 := ⟨_, rfl⟩
  obtain ⟨U1, hU⟩ : ∃ U1, V1.alloc (.cells #[.int .i64 y1, .int .i64 y2, .int .i64 y3, .int .i64 y4, .string yx] 23) = U1 := ⟨_, rfl⟩
  rw [hU] at HB O1 RF RM O0
  rw [hg] at O1
  obtain ⟨⟨p0, p1, p2, p3, p4⟩, -⟩ := O1.out
  go_wp2_with fail
  clear hU hg p0 p1 p2 p3 p4
  refine (cX _).mono ?_
  rintro e V2 ⟨a2, t2_, rfl, hr, hc, hb⟩
  replace RF := Lib.hid (Bs_below RF.out hb)
  replace RM := Lib.hid (Bs_below RM.out hb)
  replace O0 := Lib.hid (O0.out.below hb)
  replace HB := Lib.hid (HB.out.trans (hb.mono HB.out.size))
  have R2 := Lib.hid hr
  clear hr hb hc O1
  go_wp2_with fail
  refine wp_region_typed (C := fun w' => Below V2.heap.size V2 w') (X := fun w w' => Below w.heap.size w w') (n := 121) (by kernel_rfl) (by kernel_rfl) rfl (fun w => Below.refl _ w) (Below.refl _ _).drew ?_
  refine w_is (fun w => Below.refl _ w) _ (.inl rfl) (fun ρ w hC hc hfn hf => by have e9 : ρ (.tmp 9) = _ := hf 9 (by decide); (conv => lhs; simp [execOp, go_sem, hc, e9])) ?_
  refine w_is (fun w => Below.refl _ w) _ (.inl rfl) (fun ρ w hC hc hfn hf => by have e42 : ρ (.tmp 42) = _ := hf 42 (by decide); (conv => lhs; simp [execOp, go_sem, hc, e42, hE0])) ?_
  refine w_is (fun w => Below.refl _ w) _ (.inl rfl) (fun ρ w hC hc hfn hf => by have e43 : ρ (.tmp 43) = _ := hf 43 (by decide); (conv => lhs; simp [execOp, go_sem, hc, e43])) ?_
  refine w_skip rfl rfl (known_is rfl) ?_
  refine w_skip rfl rfl (known_is rfl) ?_
  refine w_skip rfl rfl (known_is rfl) ?_
  refine w_skip rfl rfl (known_is rfl) ?_
  refine w_skipU rfl rfl (known_is rfl) ?_
  refine w_skipU rfl rfl (known_is rfl) ?_
  refine w_skip rfl rfl (known_is rfl) ?_
  refine w_skip rfl rfl (known_is rfl) ?_
  refine w_skipU rfl rfl (known_is rfl) ?_
  refine w_skipU rfl rfl (known_is rfl) ?_
  refine w_skipU rfl rfl (known_is rfl) ?_
  refine w_skipU rfl rfl (known_is rfl) ?_
  refine w_skip rfl rfl (known_is rfl) ?_
  refine w_skip rfl rfl (known_is rfl) ?_
  refine w_skipU rfl rfl (known_is rfl) ?_
  refine w_skipU rfl rfl (known_is rfl) ?_
  refine w_skipU rfl rfl (known_is rfl) ?_
  refine w_skipU rfl rfl (known_is rfl) ?_
  refine w_skipU rfl rfl (known_is rfl) ?_
  refine w_skipU rfl rfl (known_is rfl) ?_
  refine w_skipU rfl rfl (known_is rfl) ?_
  refine w_skip rfl rfl (known_is rfl) ?_
  refine w_is (fun w => Below.refl _ w) _ (.inl rfl) (fun ρ w hC hc hfn hf => by have e44 : ρ (.tmp 44) = _ := hf 44 (by decide); have e66 : ρ (.tmp 66) = _ := hf 66 (by decide); (conv => lhs; simp [execOp, go_sem, hc, e44, e66])) ?_
  intro A U3 hC hn hd hf
  have y0 : A.eval (.tmp 0) = _ := Eq.trans (hf 0) (by conv => lhs; simp [go_sem])
  have y1 : A.eval (.tmp 1) = _ := Eq.trans (hf 1) (by conv => lhs; simp [go_sem])
  have y2 : A.eval (.tmp 2) = _ := Eq.trans (hf 2) (by conv => lhs; simp [go_sem])
  have y3 : A.eval (.tmp 3) = _ := Eq.trans (hf 3) (by conv => lhs; simp [go_sem])
  have y4 : A.eval (.tmp 4) = _ := Eq.trans (hf 4) (by conv => lhs; simp [go_sem])
  have y5 : A.eval (.tmp 5) = _ := Eq.trans (hf 5) (by conv => lhs; simp [go_sem])
  have y6 : A.eval (.tmp 6) = _ := Eq.trans (hf 6) (by conv => lhs; simp [go_sem])
  have y7 : A.eval (.tmp 7) = _ := Eq.trans (hf 7) (by conv => lhs; simp [go_sem])
  have y8 : A.eval (.tmp 8) = _ := Eq.trans (hf 8) (by conv => lhs; simp [go_sem])
  have y9 : A.eval (.tmp 9) = _ := Eq.trans (hf 9) (by conv => lhs; simp [go_sem])
  have y10 : A.eval (.tmp 10) = _ := Eq.trans (hf 10) (by conv => lhs; simp [go_sem])
  have y11 : A.eval (.tmp 11) = _ := Eq.trans (hf 11) (by conv => lhs; simp [go_sem])
  have y12 : A.eval (.tmp 12) = _ := Eq.trans (hf 12) (by conv => lhs; simp [go_sem])
  have y13 : A.eval (.tmp 13) = _ := Eq.trans (hf 13) (by conv => lhs; simp [go_sem])
  have y14 : A.eval (.tmp 14) = _ := Eq.trans (hf 14) (by conv => lhs; simp [go_sem])
  have y15 : A.eval (.tmp 15) = _ := Eq.trans (hf 15) (by conv => lhs; simp [go_sem])
  have y16 : A.eval (.tmp 16) = _ := Eq.trans (hf 16) (by conv => lhs; simp [go_sem])
  have y17 : A.eval (.tmp 17) = _ := Eq.trans (hf 17) (by conv => lhs; simp [go_sem])
  have y18 : A.eval (.tmp 18) = _ := Eq.trans (hf 18) (by conv => lhs; simp [go_sem])
  have y19 : A.eval (.tmp 19) = _ := Eq.trans (hf 19) (by conv => lhs; simp [go_sem])
  have y20 : A.eval (.tmp 20) = _ := Eq.trans (hf 20) (by conv => lhs; simp [go_sem])
  have y21 : A.eval (.tmp 21) = _ := Eq.trans (hf 21) (by conv => lhs; simp [go_sem])
  have y22 : A.eval (.tmp 22) = _ := Eq.trans (hf 22) (by conv => lhs; simp [go_sem])
  have y23 : A.eval (.tmp 23) = _ := Eq.trans (hf 23) (by conv => lhs; simp [go_sem])
  have y24 : A.eval (.tmp 24) = _ := Eq.trans (hf 24) (by conv => lhs; simp [go_sem])
  have y25 : A.eval (.tmp 25) = _ := Eq.trans (hf 25) (by conv => lhs; simp [go_sem])
  have y26 : A.eval (.tmp 26) = _ := Eq.trans (hf 26) (by conv => lhs; simp [go_sem])
  have y27 : A.eval (.tmp 27) = _ := Eq.trans (hf 27) (by conv => lhs; simp [go_sem])
  have y28 : A.eval (.tmp 28) = _ := Eq.trans (hf 28) (by conv => lhs; simp [go_sem])
  have y29 : A.eval (.tmp 29) = _ := Eq.trans (hf 29) (by conv => lhs; simp [go_sem])
  have y30 : A.eval (.tmp 30) = _ := Eq.trans (hf 30) (by conv => lhs; simp [go_sem])
  have y31 : A.eval (.tmp 31) = _ := Eq.trans (hf 31) (by conv => lhs; simp [go_sem])
  have y32 : A.eval (.tmp 32) = _ := Eq.trans (hf 32) (by conv => lhs; simp [go_sem])
  have y33 : A.eval (.tmp 33) = _ := Eq.trans (hf 33) (by conv => lhs; simp [go_sem])
  have y34 : A.eval (.tmp 34) = _ := Eq.trans (hf 34) (by conv => lhs; simp [go_sem])
  have y35 : A.eval (.tmp 35) = _ := Eq.trans (hf 35) (by conv => lhs; simp [go_sem])
  have y36 : A.eval (.tmp 36) = _ := Eq.trans (hf 36) (by conv => lhs; simp [go_sem])
  have y37 : A.eval (.tmp 37) = _ := Eq.trans (hf 37) (by conv => lhs; simp [go_sem])
  have y38 : A.eval (.tmp 38) = _ := Eq.trans (hf 38) (by conv => lhs; simp [go_sem])
  have y39 : A.eval (.tmp 39) = _ := Eq.trans (hf 39) (by conv => lhs; simp [go_sem])
  have y40 : A.eval (.tmp 40) = _ := Eq.trans (hf 40) (by conv => lhs; simp [go_sem])
  have y41 : A.eval (.tmp 41) = _ := Eq.trans (hf 41) (by conv => lhs; simp [go_sem])
  have y42 : A.eval (.tmp 42) = _ := hf 42
  have y43 : A.eval (.tmp 43) = _ := hf 43
  have y44 : A.eval (.tmp 44) = _ := hf 44
  have y45 : A.eval (.tmp 45) = _ := hf 45
  have y46 : A.eval (.tmp 46) = _ := hf 46
  have y47 : A.eval (.tmp 47) = _ := hf 47
  have y48 : A.eval (.tmp 48) = _ := hf 48
  have y49 : A.eval (.tmp 49) = _ := hf 49
  have y50 : A.eval (.tmp 50) = _ := hf 50
  have y51 : A.eval (.tmp 51) = _ := hf 51
  have y52 : A.eval (.tmp 52) = _ := hf 52
  have y53 : A.eval (.tmp 53) = _ := hf 53
  have y54 : A.eval (.tmp 54) = _ := hf 54
  have y55 : A.eval (.tmp 55) = _ := hf 55
  have y56 : A.eval (.tmp 56) = _ := hf 56
  have y57 : A.eval (.tmp 57) = _ := hf 57
  have y58 : A.eval (.tmp 58) = _ := hf 58
  have y59 : A.eval (.tmp 59) = _ := hf 59
  have y60 : A.eval (.tmp 60) = _ := hf 60
  have y61 : A.eval (.tmp 61) = _ := hf 61
  have y62 : A.eval (.tmp 62) = _ := hf 62
  have y63 : A.eval (.tmp 63) = _ := hf 63
  have y64 : A.eval (.tmp 64) = _ := hf 64
  have y65 : A.eval (.tmp 65) = _ := hf 65
  have y66 : A.eval (.tmp 66) = _ := hf 66
  have y67 : A.eval (.tmp 67) = _ := hf 67
  have y68 : A.eval (.tmp 68) = _ := Eq.trans (hf 68) (by conv => lhs; simp [go_sem])
  have y69 : A.eval (.tmp 69) = _ := Eq.trans (hf 69) (by conv => lhs; simp [go_sem])
  have y70 : A.eval (.tmp 70) = _ := Eq.trans (hf 70) (by conv => lhs; simp [go_sem])
  have y71 : A.eval (.tmp 71) = _ := Eq.trans (hf 71) (by conv => lhs; simp [go_sem])
  have y72 : A.eval (.tmp 72) = _ := Eq.trans (hf 72) (by conv => lhs; simp [go_sem])
  have y73 : A.eval (.tmp 73) = _ := Eq.trans (hf 73) (by conv => lhs; simp [go_sem])
  have y74 : A.eval (.tmp 74) = _ := Eq.trans (hf 74) (by conv => lhs; simp [go_sem])
  have y75 : A.eval (.tmp 75) = _ := Eq.trans (hf 75) (by conv => lhs; simp [go_sem])
  have y76 : A.eval (.tmp 76) = _ := Eq.trans (hf 76) (by conv => lhs; simp [go_sem])
  have y77 : A.eval (.tmp 77) = _ := Eq.trans (hf 77) (by conv => lhs; simp [go_sem])
  have y78 : A.eval (.tmp 78) = _ := Eq.trans (hf 78) (by conv => lhs; simp [go_sem])
  have y79 : A.eval (.tmp 79) = _ := Eq.trans (hf 79) (by conv => lhs; simp [go_sem])
  have y80 : A.eval (.tmp 80) = _ := Eq.trans (hf 80) (by conv => lhs; simp [go_sem])
  have y81 : A.eval (.tmp 81) = _ := Eq.trans (hf 81) (by conv => lhs; simp [go_sem])
  have y82 : A.eval (.tmp 82) = _ := Eq.trans (hf 82) (by conv => lhs; simp [go_sem])
  have y83 : A.eval (.tmp 83) = _ := Eq.trans (hf 83) (by conv => lhs; simp [go_sem])
  have y84 : A.eval (.tmp 84) = _ := Eq.trans (hf 84) (by conv => lhs; simp [go_sem])
  have y85 : A.eval (.tmp 85) = _ := Eq.trans (hf 85) (by conv => lhs; simp [go_sem])
  have y86 : A.eval (.tmp 86) = _ := Eq.trans (hf 86) (by conv => lhs; simp [go_sem])
  have y87 : A.eval (.tmp 87) = _ := Eq.trans (hf 87) (by conv => lhs; simp [go_sem])
  have y88 : A.eval (.tmp 88) = _ := Eq.trans (hf 88) (by conv => lhs; simp [go_sem])
  have y89 : A.eval (.tmp 89) = _ := Eq.trans (hf 89) (by conv => lhs; simp [go_sem])
  have y90 : A.eval (.tmp 90) = _ := Eq.trans (hf 90) (by conv => lhs; simp [go_sem])
  have y91 : A.eval (.tmp 91) = _ := Eq.trans (hf 91) (by conv => lhs; simp [go_sem])
  have y92 : A.eval (.tmp 92) = _ := Eq.trans (hf 92) (by conv => lhs; simp [go_sem])
  have y93 : A.eval (.tmp 93) = _ := Eq.trans (hf 93) (by conv => lhs; simp [go_sem])
  have y94 : A.eval (.tmp 94) = _ := Eq.trans (hf 94) (by conv => lhs; simp [go_sem])
  have y95 : A.eval (.tmp 95) = _ := Eq.trans (hf 95) (by conv => lhs; simp [go_sem])
  have y96 : A.eval (.tmp 96) = _ := Eq.trans (hf 96) (by conv => lhs; simp [go_sem])
  have y97 : A.eval (.tmp 97) = _ := Eq.trans (hf 97) (by conv => lhs; simp [go_sem])
  have y98 : A.eval (.tmp 98) = _ := Eq.trans (hf 98) (by conv => lhs; simp [go_sem])
  have y99 : A.eval (.tmp 99) = _ := Eq.trans (hf 99) (by conv => lhs; simp [go_sem])
  have y100 : A.eval (.tmp 100) = _ := Eq.trans (hf 100) (by conv => lhs; simp [go_sem])
  have y101 : A.eval (.tmp 101) = _ := Eq.trans (hf 101) (by conv => lhs; simp [go_sem])
  have y102 : A.eval (.tmp 102) = _ := Eq.trans (hf 102) (by conv => lhs; simp [go_sem])
  have y103 : A.eval (.tmp 103) = _ := Eq.trans (hf 103) (by conv => lhs; simp [go_sem])
  have y104 : A.eval (.tmp 104) = _ := Eq.trans (hf 104) (by conv => lhs; simp [go_sem])
  have y105 : A.eval (.tmp 105) = _ := Eq.trans (hf 105) (by conv => lhs; simp [go_sem])
  have y106 : A.eval (.tmp 106) = _ := Eq.trans (hf 106) (by conv => lhs; simp [go_sem])
  have y107 : A.eval (.tmp 107) = _ := Eq.trans (hf 107) (by conv => lhs; simp [go_sem])
  have y108 : A.eval (.tmp 108) = _ := Eq.trans (hf 108) (by conv => lhs; simp [go_sem])
  have y109 : A.eval (.tmp 109) = _ := Eq.trans (hf 109) (by conv => lhs; simp [go_sem])
  have y110 : A.eval (.tmp 110) = _ := Eq.trans (hf 110) (by conv => lhs; simp [go_sem])
  have y111 : A.eval (.tmp 111) = _ := Eq.trans (hf 111) (by conv => lhs; simp [go_sem])
  have y112 : A.eval (.tmp 112) = _ := Eq.trans (hf 112) (by conv => lhs; simp [go_sem])
  have y113 : A.eval (.tmp 113) = _ := Eq.trans (hf 113) (by conv => lhs; simp [go_sem])
  have y114 : A.eval (.tmp 114) = _ := Eq.trans (hf 114) (by conv => lhs; simp [go_sem])
  have y115 : A.eval (.tmp 115) = _ := Eq.trans (hf 115) (by conv => lhs; simp [go_sem])
  have y116 : A.eval (.tmp 116) = _ := Eq.trans (hf 116) (by conv => lhs; simp [go_sem])
  have y117 : A.eval (.tmp 117) = _ := Eq.trans (hf 117) (by conv => lhs; simp [go_sem])
  have y118 : A.eval (.tmp 118) = _ := Eq.trans (hf 118) (by conv => lhs; simp [go_sem])
  have y119 : A.eval (.tmp 119) = _ := Eq.trans (hf 119) (by conv => lhs; simp [go_sem])
  have y120 : A.eval (.tmp 120) = _ := Eq.trans (hf 120) (by conv => lhs; simp [go_sem])
  clear hf
  have hA := frame_eq hn
  rw [show List.range 121 = [0, 1, 2, 3, 4, 5, 6, 7, 8, 9, 10, 11, 12, 13, 14, 15, 16, 17, 18, 19, 20, 21, 22, 23, 24, 25, 26, 27, 28, 29, 30, 31, 32, 33, 34, 35, 36, 37, 38, 39, 40, 41, 42, 43, 44, 45, 46, 47, 48, 49, 50, 51, 52, 53, 54, 55, 56, 57, 58, 59, 60, 61, 62, 63, 64, 65, 66, 67, 68, 69, 70, 71, 72, 73, 74, 75, 76, 77, 78, 79, 80, 81, 82, 83, 84, 85, 86, 87, 88, 89, 90, 91, 92, 93, 94, 95, 96, 97, 98, 99, 100, 101, 102, 103, 104, 105, 106, 107, 108, 109, 110, 111, 112, 113, 114, 115, 116, 117, 118, 119, 120] from rfl, hd] at hA
  simp only [List.map_cons, List.map_nil, y0, y1, y2, y3, y4, y5, y6, y7, y8, y9, y10, y11, y12, y13, y14, y15, y16, y17, y18, y19, y20, y21, y22, y23, y24, y25, y26, y27, y28, y29, y30, y31, y32, y33, y34, y35, y36, y37, y38, y39, y40, y41, y42, y43, y44, y45, y46, y47, y48, y49, y50, y51, y52, y53, y54, y55, y56, y57, y58, y59, y60, y61, y62, y63, y64, y65, y66, y67, y68, y69, y70, y71, y72, y73, y74, y75, y76, y77, y78, y79, y80, y81, y82, y83, y84, y85, y86, y87, y88, y89, y90, y91, y92, y93, y94, y95, y96, y97, y98, y99, y100, y101, y102, y103, y104, y105, y106, y107, y108, y109, y110, y111, y112, y113, y114, y115, y116, y117, y118, y119, y120] at hA
  clear y0 y1 y2 y3 y4 y5 y6 y7 y8 y9 y10 y11 y12 y13 y14 y15 y16 y17 y18 y19 y20 y21 y22 y23 y24 y25 y26 y27 y28 y29 y30 y31 y32 y33 y34 y35 y36 y37 y38 y39 y40 y41 y42 y43 y44 y45 y46 y47 y48 y49 y50 y51 y52 y53 y54 y55 y56 y57 y58 y59 y60 y61 y62 y63 y64 y65 y66 y67 y68 y69 y70 y71 y72 y73 y74 y75 y76 y77 y78 y79 y80 y81 y82 y83 y84 y85 y86 y87 y88 y89 y90 y91 y92 y93 y94 y95 y96 y97 y98 y99 y100 y101 y102 y103 y104 y105 y106 y107 y108 y109 y110 y111 y112 y113 y114 y115 y116 y117 y118 y119 y120
  clear hn hd
  subst hA
  replace RF := Lib.hid (Bs_below RF.out hC)
  replace RM := Lib.hid (Bs_below RM.out hC)
  replace O0 := Lib.hid (O0.out.below hC)
  replace HB := Lib.hid (HB.out.trans (hC.mono HB.out.size))
  clear hC R2
  obtain ⟨⟨p0, p1, p2, p3, p4⟩, -⟩ := O0.out
  go_wp2_with fail
  refine (cB _).mono ?_
  rintro e V4 ⟨a4, t4, rfl, hr, hc, hb⟩
  clear p0 p1 p2 p3 p4
  replace RF := Lib.hid (Bs_below RF.out hb)
  replace RM := Lib.hid (Bs_below RM.out hb)
  replace O0 := Lib.hid (O0.out.below hb)
  replace HB := Lib.hid (HB.out.trans (hb.mono HB.out.size))
  have R4 := Lib.hid hr
  clear hr hb hc
  go_wp2_with fail
  refine (both3_big RF.out R4.out RM.out _ (by omega)).mono ?_
  rintro e V5 ⟨r5, rfl, ho, hx, hb⟩
  have RZ := Lib.hid (Bs_of_own ho hx (by simp only [List.length_append]; omega))
  clear ho hx
  replace hb := (((Below.refl _ _).alloc (Nat.le_refl _) _) : Below V4.heap.size V4 (V4.alloc _)).trans (hb.mono (by simp))
  replace RF := Lib.hid (Bs_below RF.out hb)
  replace RM := Lib.hid (Bs_below RM.out hb)
  replace O0 := Lib.hid (O0.out.below hb)
  replace HB := Lib.hid (HB.out.trans (hb.mono HB.out.size))
  clear hb
  go_wp2_with fail
  refine (c22 _ _ RZ.out).mono ?_
  rintro e V6 ⟨rfl, hb⟩
  replace O0 := Lib.hid (O0.out.below hb)
  replace HB := Lib.hid (HB.out.trans (hb.mono HB.out.size))
  clear hb RZ RF RM R4
  have hal : Below V6.heap.size V6 (V6.alloc (.cells #[.int .i64 ps0, .int .i64 pd0, .int .i64 pt0, .int .i64 pn0, .string px0] 23)) := (Below.refl _ V6).alloc (Nat.le_refl _) _
  have O6 := Lib.hid (ownp_alloc V6 ps0 pd0 pt0 pn0 px0 23 V6.heap.size rfl)
  replace O0 := Lib.hid (O0.out.below hal)
  replace HB := Lib.hid (HB.out.trans (hal.mono HB.out.size))
  clear hal
  obtain ⟨b14, hg⟩ : ∃ b14, V6.heap.size = b14 := ⟨_, rfl⟩
  obtain ⟨U6, hU⟩ : ∃ U6, V6.alloc (.cells #[.int .i64 ps0, .int .i64 pd0, .int .i64 pt0, .int .i64 pn0, .string px0] 23) = U6 := ⟨_, rfl⟩
  rw [hU] at HB O6 O0
  rw [hg] at O6
  have hEq : ∀ w', (binOp .eql 23 (.agg #[.int .i64 ps0, .int .i64 pd0, .int .i64 pt0, .int .i64 pn0, .string px0]) (.agg #[.int .i64 ps0, .int .i64 pd0, .int .i64 pt0, .int .i64 pn0, .string px0])).run Try.prog w' = .ok (.bool true) w' := fun w' => by rw [eqlPK]; simp [eqK]
  have hG := fun op x y xs ys w' => guardPK op x y xs ys w'
  go_wp2_with fail
  clear hU hg
  refine (awake8 H _).mono ?_
  rintro e V7 ⟨rfl, hb⟩
  replace O0 := Lib.hid (O0.out.below hb)
  replace O6 := Lib.hid (O6.out.below hb)
  replace HB := Lib.hid (HB.out.trans (hb.mono HB.out.size))
  clear hb
  obtain ⟨⟨p0, p1, p2, p3, p4⟩, -⟩ := O0.out
  obtain ⟨⟨q0, q1, q2, q3, q4⟩, -⟩ := O6.out
  have hw7 : IntKind.i64.wrap (7 + (px0.size : Int)) = 7 + (px0.size : Int) := by rw [IntKind.wrap_i64]; omega
  have hBL : (B.length : Int) = 7 + (px0.size : Int) := by have := HBL.out; omega
  have hwf : IntKind.i64.wrap ((f.length : Int) + (7 + (px0.size : Int))) = (f.length : Int) + (7 + (px0.size : Int)) := by rw [IntKind.wrap_i64]; omega
  go_wp2_with fail
  go_ret
  exact ⟨by first | rfl | simp, HB.out⟩

set_option maxHeartbeats 32000000 in
theorem case_en (H : Pc) (ps0 pd0 pt0 pn0 : Int) (px0 : ByteArray) (f m : List Int) (c1 : Option Addr) (c2 : Option Addr) (u1 u2 : Nat) (w : World) (b1 : Bs w (.slice c1 f.length u1) f) (b2 : Bs w (.slice c2 m.length u2) m) (s0 : (px0.size : Int) ≤ 600) (s1 : (f.length : Int) ≤ 200) (s2 : (m.length : Int) ≤ 500)
    (y1 y2 y3 y4 : Int) (yx : ByteArray) (T E kx : Int) (X : List Int) (hE : E ≠ 0) (B : List Int) (hlB : B.length ≤ 263) (hB0 : B.length = 0) (g1 g2 g3 g4 : Int) (gx : ByteArray) (t2 e2 : Int) (c21 : ∀ W, Bs W (.slice c2 m.length u2) m → Calls Try.prog 15 #[.slice c2 m.length u2, .int .i64 0] W fun e w' => e = .returned (.tuple #[.agg #[.int .i64 y1, .int .i64 y2, .int .i64 y3, .int .i64 y4, .string yx], .int .i64 T, .int .i64 E]) ∧ Below W.heap.size W w') (cX : ∀ W, Calls Try.prog 8 #[.agg #[.int .i64 y1, .int .i64 y2, .int .i64 y3, .int .i64 y4, .string yx]] W (RetK W X kx)) (cB : ∀ W, Calls Try.prog 8 #[.agg #[.int .i64 ps0, .int .i64 pd0, .int .i64 pt0, .int .i64 pn0, .string px0]] W (RetK W B 1)) (c22 : ∀ W v, Bs W v (f ++ (B ++ m)) → Calls Try.prog 15 #[v, .int .i64 f.length] W fun e w' => e = .returned (.tuple #[.agg #[.int .i64 g1, .int .i64 g2, .int .i64 g3, .int .i64 g4, .string gx], .int .i64 t2, .int .i64 e2]) ∧ Below W.heap.size W w') :
    Calls Try.prog 5 #[.agg #[.int .i64 ps0, .int .i64 pd0, .int .i64 pt0, .int .i64 pn0, .string px0], .slice c1 f.length u1, .slice c2 m.length u2] w fun e w' => e = .returned (.bool true) ∧ Below w.heap.size w w' := by
  have HB0 := Lib.hid hB0
  clear hB0
  have hE0 : (E == 0) = false := by simpa using hE
  have HE := Lib.hid hE
  clear hE
  have RF := Lib.hid (Bs_alloc b1 (.cells #[.int .i64 ps0, .int .i64 pd0, .int .i64 pt0, .int .i64 pn0, .string px0] 23))
  have RM := Lib.hid (Bs_alloc b2 (.cells #[.int .i64 ps0, .int .i64 pd0, .int .i64 pt0, .int .i64 pn0, .string px0] 23))
  have O0 := Lib.hid (ownp_alloc w ps0 pd0 pt0 pn0 px0 23 w.heap.size rfl)
  have HB : Hid (Below w.heap.size w (w.alloc (.cells #[.int .i64 ps0, .int .i64 pd0, .int .i64 pt0, .int .i64 pn0, .string px0] 23))) := (Below.refl _ w).alloc (Nat.le_refl _) _
  have hz60 : ¬ (600 : Int) < (px0.size : Int) := by omega
  have hf200 : ¬ (200 : Int) < (f.length : Int) := by omega
  have hm600 : ¬ (500 : Int) < (m.length : Int) := by omega
  clear b1 b2
  go_enter Try.func5, Try.ntmps5
  go_wp2_with fail
  clear hz60 hf200 hm600
  refine (c21 _ RM.out).mono ?_
  rintro e V1 ⟨rfl, hb⟩
  replace RF := Lib.hid (Bs_below RF.out hb)
  replace RM := Lib.hid (Bs_below RM.out hb)
  replace O0 := Lib.hid (O0.out.below hb)
  replace HB := Lib.hid (HB.out.trans (hb.mono HB.out.size))
  clear hb
  have hal : Below V1.heap.size V1 (V1.alloc (.cells #[.int .i64 y1, .int .i64 y2, .int .i64 y3, .int .i64 y4, .string yx] 23)) := (Below.refl _ V1).alloc (Nat.le_refl _) _
  have O1 := Lib.hid (ownp_alloc V1 y1 y2 y3 y4 yx 23 V1.heap.size rfl)
  replace RF := Lib.hid (Bs_below RF.out hal)
  replace RM := Lib.hid (Bs_below RM.out hal)
  replace O0 := Lib.hid (O0.out.below hal)
  replace HB := Lib.hid (HB.out.trans (hal.mono HB.out.size))
  clear hal
  obtain ⟨b7, hg⟩ : ∃ b7, V1.heap.size = b7 := ⟨_, rfl⟩
  obtain ⟨U1, hU⟩ : ∃ U1, V1.alloc (.cells #[.int .i64 y1, .int .i64 y2, .int .i64 y3, .int .i64 y4, .string yx] 23) = U1 := ⟨_, rfl⟩
  rw [hU] at HB O1 RF RM O0
  rw [hg] at O1
  obtain ⟨⟨p0, p1, p2, p3, p4⟩, -⟩ := O1.out
  go_wp2_with fail
  clear hU hg p0 p1 p2 p3 p4
  refine (cX _).mono ?_
  rintro e V2 ⟨a2, t2_, rfl, hr, hc, hb⟩
  replace RF := Lib.hid (Bs_below RF.out hb)
  replace RM := Lib.hid (Bs_below RM.out hb)
  replace O0 := Lib.hid (O0.out.below hb)
  replace HB := Lib.hid (HB.out.trans (hb.mono HB.out.size))
  have R2 := Lib.hid hr
  clear hr hb hc O1
  go_wp2_with fail
  refine wp_region_typed (C := fun w' => Below V2.heap.size V2 w') (X := fun w w' => Below w.heap.size w w') (n := 121) (by kernel_rfl) (by kernel_rfl) rfl (fun w => Below.refl _ w) (Below.refl _ _).drew ?_
  refine w_is (fun w => Below.refl _ w) _ (.inl rfl) (fun ρ w hC hc hfn hf => by have e9 : ρ (.tmp 9) = _ := hf 9 (by decide); (conv => lhs; simp [execOp, go_sem, hc, e9])) ?_
  refine w_is (fun w => Below.refl _ w) _ (.inl rfl) (fun ρ w hC hc hfn hf => by have e42 : ρ (.tmp 42) = _ := hf 42 (by decide); (conv => lhs; simp [execOp, go_sem, hc, e42, hE0])) ?_
  refine w_is (fun w => Below.refl _ w) _ (.inl rfl) (fun ρ w hC hc hfn hf => by have e43 : ρ (.tmp 43) = _ := hf 43 (by decide); (conv => lhs; simp [execOp, go_sem, hc, e43])) ?_
  refine w_skip rfl rfl (known_is rfl) ?_
  refine w_skip rfl rfl (known_is rfl) ?_
  refine w_skip rfl rfl (known_is rfl) ?_
  refine w_skip rfl rfl (known_is rfl) ?_
  refine w_skipU rfl rfl (known_is rfl) ?_
  refine w_skipU rfl rfl (known_is rfl) ?_
  refine w_skip rfl rfl (known_is rfl) ?_
  refine w_skip rfl rfl (known_is rfl) ?_
  refine w_skipU rfl rfl (known_is rfl) ?_
  refine w_skipU rfl rfl (known_is rfl) ?_
  refine w_skipU rfl rfl (known_is rfl) ?_
  refine w_skipU rfl rfl (known_is rfl) ?_
  refine w_skip rfl rfl (known_is rfl) ?_
  refine w_skip rfl rfl (known_is rfl) ?_
  refine w_skipU rfl rfl (known_is rfl) ?_
  refine w_skipU rfl rfl (known_is rfl) ?_
  refine w_skipU rfl rfl (known_is rfl) ?_
  refine w_skipU rfl rfl (known_is rfl) ?_
  refine w_skipU rfl rfl (known_is rfl) ?_
  refine w_skipU rfl rfl (known_is rfl) ?_
  refine w_skipU rfl rfl (known_is rfl) ?_
  refine w_skip rfl rfl (known_is rfl) ?_
  refine w_is (fun w => Below.refl _ w) _ (.inl rfl) (fun ρ w hC hc hfn hf => by have e44 : ρ (.tmp 44) = _ := hf 44 (by decide); have e66 : ρ (.tmp 66) = _ := hf 66 (by decide); (conv => lhs; simp [execOp, go_sem, hc, e44, e66])) ?_
  intro A U3 hC hn hd hf
  have y0 : A.eval (.tmp 0) = _ := Eq.trans (hf 0) (by conv => lhs; simp [go_sem])
  have y1 : A.eval (.tmp 1) = _ := Eq.trans (hf 1) (by conv => lhs; simp [go_sem])
  have y2 : A.eval (.tmp 2) = _ := Eq.trans (hf 2) (by conv => lhs; simp [go_sem])
  have y3 : A.eval (.tmp 3) = _ := Eq.trans (hf 3) (by conv => lhs; simp [go_sem])
  have y4 : A.eval (.tmp 4) = _ := Eq.trans (hf 4) (by conv => lhs; simp [go_sem])
  have y5 : A.eval (.tmp 5) = _ := Eq.trans (hf 5) (by conv => lhs; simp [go_sem])
  have y6 : A.eval (.tmp 6) = _ := Eq.trans (hf 6) (by conv => lhs; simp [go_sem])
  have y7 : A.eval (.tmp 7) = _ := Eq.trans (hf 7) (by conv => lhs; simp [go_sem])
  have y8 : A.eval (.tmp 8) = _ := Eq.trans (hf 8) (by conv => lhs; simp [go_sem])
  have y9 : A.eval (.tmp 9) = _ := Eq.trans (hf 9) (by conv => lhs; simp [go_sem])
  have y10 : A.eval (.tmp 10) = _ := Eq.trans (hf 10) (by conv => lhs; simp [go_sem])
  have y11 : A.eval (.tmp 11) = _ := Eq.trans (hf 11) (by conv => lhs; simp [go_sem])
  have y12 : A.eval (.tmp 12) = _ := Eq.trans (hf 12) (by conv => lhs; simp [go_sem])
  have y13 : A.eval (.tmp 13) = _ := Eq.trans (hf 13) (by conv => lhs; simp [go_sem])
  have y14 : A.eval (.tmp 14) = _ := Eq.trans (hf 14) (by conv => lhs; simp [go_sem])
  have y15 : A.eval (.tmp 15) = _ := Eq.trans (hf 15) (by conv => lhs; simp [go_sem])
  have y16 : A.eval (.tmp 16) = _ := Eq.trans (hf 16) (by conv => lhs; simp [go_sem])
  have y17 : A.eval (.tmp 17) = _ := Eq.trans (hf 17) (by conv => lhs; simp [go_sem])
  have y18 : A.eval (.tmp 18) = _ := Eq.trans (hf 18) (by conv => lhs; simp [go_sem])
  have y19 : A.eval (.tmp 19) = _ := Eq.trans (hf 19) (by conv => lhs; simp [go_sem])
  have y20 : A.eval (.tmp 20) = _ := Eq.trans (hf 20) (by conv => lhs; simp [go_sem])
  have y21 : A.eval (.tmp 21) = _ := Eq.trans (hf 21) (by conv => lhs; simp [go_sem])
  have y22 : A.eval (.tmp 22) = _ := Eq.trans (hf 22) (by conv => lhs; simp [go_sem])
  have y23 : A.eval (.tmp 23) = _ := Eq.trans (hf 23) (by conv => lhs; simp [go_sem])
  have y24 : A.eval (.tmp 24) = _ := Eq.trans (hf 24) (by conv => lhs; simp [go_sem])
  have y25 : A.eval (.tmp 25) = _ := Eq.trans (hf 25) (by conv => lhs; simp [go_sem])
  have y26 : A.eval (.tmp 26) = _ := Eq.trans (hf 26) (by conv => lhs; simp [go_sem])
  have y27 : A.eval (.tmp 27) = _ := Eq.trans (hf 27) (by conv => lhs; simp [go_sem])
  have y28 : A.eval (.tmp 28) = _ := Eq.trans (hf 28) (by conv => lhs; simp [go_sem])
  have y29 : A.eval (.tmp 29) = _ := Eq.trans (hf 29) (by conv => lhs; simp [go_sem])
  have y30 : A.eval (.tmp 30) = _ := Eq.trans (hf 30) (by conv => lhs; simp [go_sem])
  have y31 : A.eval (.tmp 31) = _ := Eq.trans (hf 31) (by conv => lhs; simp [go_sem])
  have y32 : A.eval (.tmp 32) = _ := Eq.trans (hf 32) (by conv => lhs; simp [go_sem])
  have y33 : A.eval (.tmp 33) = _ := Eq.trans (hf 33) (by conv => lhs; simp [go_sem])
  have y34 : A.eval (.tmp 34) = _ := Eq.trans (hf 34) (by conv => lhs; simp [go_sem])
  have y35 : A.eval (.tmp 35) = _ := Eq.trans (hf 35) (by conv => lhs; simp [go_sem])
  have y36 : A.eval (.tmp 36) = _ := Eq.trans (hf 36) (by conv => lhs; simp [go_sem])
  have y37 : A.eval (.tmp 37) = _ := Eq.trans (hf 37) (by conv => lhs; simp [go_sem])
  have y38 : A.eval (.tmp 38) = _ := Eq.trans (hf 38) (by conv => lhs; simp [go_sem])
  have y39 : A.eval (.tmp 39) = _ := Eq.trans (hf 39) (by conv => lhs; simp [go_sem])
  have y40 : A.eval (.tmp 40) = _ := Eq.trans (hf 40) (by conv => lhs; simp [go_sem])
  have y41 : A.eval (.tmp 41) = _ := Eq.trans (hf 41) (by conv => lhs; simp [go_sem])
  have y42 : A.eval (.tmp 42) = _ := hf 42
  have y43 : A.eval (.tmp 43) = _ := hf 43
  have y44 : A.eval (.tmp 44) = _ := hf 44
  have y45 : A.eval (.tmp 45) = _ := hf 45
  have y46 : A.eval (.tmp 46) = _ := hf 46
  have y47 : A.eval (.tmp 47) = _ := hf 47
  have y48 : A.eval (.tmp 48) = _ := hf 48
  have y49 : A.eval (.tmp 49) = _ := hf 49
  have y50 : A.eval (.tmp 50) = _ := hf 50
  have y51 : A.eval (.tmp 51) = _ := hf 51
  have y52 : A.eval (.tmp 52) = _ := hf 52
  have y53 : A.eval (.tmp 53) = _ := hf 53
  have y54 : A.eval (.tmp 54) = _ := hf 54
  have y55 : A.eval (.tmp 55) = _ := hf 55
  have y56 : A.eval (.tmp 56) = _ := hf 56
  have y57 : A.eval (.tmp 57) = _ := hf 57
  have y58 : A.eval (.tmp 58) = _ := hf 58
  have y59 : A.eval (.tmp 59) = _ := hf 59
  have y60 : A.eval (.tmp 60) = _ := hf 60
  have y61 : A.eval (.tmp 61) = _ := hf 61
  have y62 : A.eval (.tmp 62) = _ := hf 62
  have y63 : A.eval (.tmp 63) = _ := hf 63
  have y64 : A.eval (.tmp 64) = _ := hf 64
  have y65 : A.eval (.tmp 65) = _ := hf 65
  have y66 : A.eval (.tmp 66) = _ := hf 66
  have y67 : A.eval (.tmp 67) = _ := hf 67
  have y68 : A.eval (.tmp 68) = _ := Eq.trans (hf 68) (by conv => lhs; simp [go_sem])
  have y69 : A.eval (.tmp 69) = _ := Eq.trans (hf 69) (by conv => lhs; simp [go_sem])
  have y70 : A.eval (.tmp 70) = _ := Eq.trans (hf 70) (by conv => lhs; simp [go_sem])
  have y71 : A.eval (.tmp 71) = _ := Eq.trans (hf 71) (by conv => lhs; simp [go_sem])
  have y72 : A.eval (.tmp 72) = _ := Eq.trans (hf 72) (by conv => lhs; simp [go_sem])
  have y73 : A.eval (.tmp 73) = _ := Eq.trans (hf 73) (by conv => lhs; simp [go_sem])
  have y74 : A.eval (.tmp 74) = _ := Eq.trans (hf 74) (by conv => lhs; simp [go_sem])
  have y75 : A.eval (.tmp 75) = _ := Eq.trans (hf 75) (by conv => lhs; simp [go_sem])
  have y76 : A.eval (.tmp 76) = _ := Eq.trans (hf 76) (by conv => lhs; simp [go_sem])
  have y77 : A.eval (.tmp 77) = _ := Eq.trans (hf 77) (by conv => lhs; simp [go_sem])
  have y78 : A.eval (.tmp 78) = _ := Eq.trans (hf 78) (by conv => lhs; simp [go_sem])
  have y79 : A.eval (.tmp 79) = _ := Eq.trans (hf 79) (by conv => lhs; simp [go_sem])
  have y80 : A.eval (.tmp 80) = _ := Eq.trans (hf 80) (by conv => lhs; simp [go_sem])
  have y81 : A.eval (.tmp 81) = _ := Eq.trans (hf 81) (by conv => lhs; simp [go_sem])
  have y82 : A.eval (.tmp 82) = _ := Eq.trans (hf 82) (by conv => lhs; simp [go_sem])
  have y83 : A.eval (.tmp 83) = _ := Eq.trans (hf 83) (by conv => lhs; simp [go_sem])
  have y84 : A.eval (.tmp 84) = _ := Eq.trans (hf 84) (by conv => lhs; simp [go_sem])
  have y85 : A.eval (.tmp 85) = _ := Eq.trans (hf 85) (by conv => lhs; simp [go_sem])
  have y86 : A.eval (.tmp 86) = _ := Eq.trans (hf 86) (by conv => lhs; simp [go_sem])
  have y87 : A.eval (.tmp 87) = _ := Eq.trans (hf 87) (by conv => lhs; simp [go_sem])
  have y88 : A.eval (.tmp 88) = _ := Eq.trans (hf 88) (by conv => lhs; simp [go_sem])
  have y89 : A.eval (.tmp 89) = _ := Eq.trans (hf 89) (by conv => lhs; simp [go_sem])
  have y90 : A.eval (.tmp 90) = _ := Eq.trans (hf 90) (by conv => lhs; simp [go_sem])
  have y91 : A.eval (.tmp 91) = _ := Eq.trans (hf 91) (by conv => lhs; simp [go_sem])
  have y92 : A.eval (.tmp 92) = _ := Eq.trans (hf 92) (by conv => lhs; simp [go_sem])
  have y93 : A.eval (.tmp 93) = _ := Eq.trans (hf 93) (by conv => lhs; simp [go_sem])
  have y94 : A.eval (.tmp 94) = _ := Eq.trans (hf 94) (by conv => lhs; simp [go_sem])
  have y95 : A.eval (.tmp 95) = _ := Eq.trans (hf 95) (by conv => lhs; simp [go_sem])
  have y96 : A.eval (.tmp 96) = _ := Eq.trans (hf 96) (by conv => lhs; simp [go_sem])
  have y97 : A.eval (.tmp 97) = _ := Eq.trans (hf 97) (by conv => lhs; simp [go_sem])
  have y98 : A.eval (.tmp 98) = _ := Eq.trans (hf 98) (by conv => lhs; simp [go_sem])
  have y99 : A.eval (.tmp 99) = _ := Eq.trans (hf 99) (by conv => lhs; simp [go_sem])
  have y100 : A.eval (.tmp 100) = _ := Eq.trans (hf 100) (by conv => lhs; simp [go_sem])
  have y101 : A.eval (.tmp 101) = _ := Eq.trans (hf 101) (by conv => lhs; simp [go_sem])
  have y102 : A.eval (.tmp 102) = _ := Eq.trans (hf 102) (by conv => lhs; simp [go_sem])
  have y103 : A.eval (.tmp 103) = _ := Eq.trans (hf 103) (by conv => lhs; simp [go_sem])
  have y104 : A.eval (.tmp 104) = _ := Eq.trans (hf 104) (by conv => lhs; simp [go_sem])
  have y105 : A.eval (.tmp 105) = _ := Eq.trans (hf 105) (by conv => lhs; simp [go_sem])
  have y106 : A.eval (.tmp 106) = _ := Eq.trans (hf 106) (by conv => lhs; simp [go_sem])
  have y107 : A.eval (.tmp 107) = _ := Eq.trans (hf 107) (by conv => lhs; simp [go_sem])
  have y108 : A.eval (.tmp 108) = _ := Eq.trans (hf 108) (by conv => lhs; simp [go_sem])
  have y109 : A.eval (.tmp 109) = _ := Eq.trans (hf 109) (by conv => lhs; simp [go_sem])
  have y110 : A.eval (.tmp 110) = _ := Eq.trans (hf 110) (by conv => lhs; simp [go_sem])
  have y111 : A.eval (.tmp 111) = _ := Eq.trans (hf 111) (by conv => lhs; simp [go_sem])
  have y112 : A.eval (.tmp 112) = _ := Eq.trans (hf 112) (by conv => lhs; simp [go_sem])
  have y113 : A.eval (.tmp 113) = _ := Eq.trans (hf 113) (by conv => lhs; simp [go_sem])
  have y114 : A.eval (.tmp 114) = _ := Eq.trans (hf 114) (by conv => lhs; simp [go_sem])
  have y115 : A.eval (.tmp 115) = _ := Eq.trans (hf 115) (by conv => lhs; simp [go_sem])
  have y116 : A.eval (.tmp 116) = _ := Eq.trans (hf 116) (by conv => lhs; simp [go_sem])
  have y117 : A.eval (.tmp 117) = _ := Eq.trans (hf 117) (by conv => lhs; simp [go_sem])
  have y118 : A.eval (.tmp 118) = _ := Eq.trans (hf 118) (by conv => lhs; simp [go_sem])
  have y119 : A.eval (.tmp 119) = _ := Eq.trans (hf 119) (by conv => lhs; simp [go_sem])
  have y120 : A.eval (.tmp 120) = _ := Eq.trans (hf 120) (by conv => lhs; simp [go_sem])
  clear hf
  have hA := frame_eq hn
  rw [show List.range 121 = [0, 1, 2, 3, 4, 5, 6, 7, 8, 9, 10, 11, 12, 13, 14, 15, 16, 17, 18, 19, 20, 21, 22, 23, 24, 25, 26, 27, 28, 29, 30, 31, 32, 33, 34, 35, 36, 37, 38, 39, 40, 41, 42, 43, 44, 45, 46, 47, 48, 49, 50, 51, 52, 53, 54, 55, 56, 57, 58, 59, 60, 61, 62, 63, 64, 65, 66, 67, 68, 69, 70, 71, 72, 73, 74, 75, 76, 77, 78, 79, 80, 81, 82, 83, 84, 85, 86, 87, 88, 89, 90, 91, 92, 93, 94, 95, 96, 97, 98, 99, 100, 101, 102, 103, 104, 105, 106, 107, 108, 109, 110, 111, 112, 113, 114, 115, 116, 117, 118, 119, 120] from rfl, hd] at hA
  simp only [List.map_cons, List.map_nil, y0, y1, y2, y3, y4, y5, y6, y7, y8, y9, y10, y11, y12, y13, y14, y15, y16, y17, y18, y19, y20, y21, y22, y23, y24, y25, y26, y27, y28, y29, y30, y31, y32, y33, y34, y35, y36, y37, y38, y39, y40, y41, y42, y43, y44, y45, y46, y47, y48, y49, y50, y51, y52, y53, y54, y55, y56, y57, y58, y59, y60, y61, y62, y63, y64, y65, y66, y67, y68, y69, y70, y71, y72, y73, y74, y75, y76, y77, y78, y79, y80, y81, y82, y83, y84, y85, y86, y87, y88, y89, y90, y91, y92, y93, y94, y95, y96, y97, y98, y99, y100, y101, y102, y103, y104, y105, y106, y107, y108, y109, y110, y111, y112, y113, y114, y115, y116, y117, y118, y119, y120] at hA
  clear y0 y1 y2 y3 y4 y5 y6 y7 y8 y9 y10 y11 y12 y13 y14 y15 y16 y17 y18 y19 y20 y21 y22 y23 y24 y25 y26 y27 y28 y29 y30 y31 y32 y33 y34 y35 y36 y37 y38 y39 y40 y41 y42 y43 y44 y45 y46 y47 y48 y49 y50 y51 y52 y53 y54 y55 y56 y57 y58 y59 y60 y61 y62 y63 y64 y65 y66 y67 y68 y69 y70 y71 y72 y73 y74 y75 y76 y77 y78 y79 y80 y81 y82 y83 y84 y85 y86 y87 y88 y89 y90 y91 y92 y93 y94 y95 y96 y97 y98 y99 y100 y101 y102 y103 y104 y105 y106 y107 y108 y109 y110 y111 y112 y113 y114 y115 y116 y117 y118 y119 y120
  clear hn hd
  subst hA
  replace RF := Lib.hid (Bs_below RF.out hC)
  replace RM := Lib.hid (Bs_below RM.out hC)
  replace O0 := Lib.hid (O0.out.below hC)
  replace HB := Lib.hid (HB.out.trans (hC.mono HB.out.size))
  clear hC R2
  obtain ⟨⟨p0, p1, p2, p3, p4⟩, -⟩ := O0.out
  go_wp2_with fail
  refine (cB _).mono ?_
  rintro e V4 ⟨a4, t4, rfl, hr, hc, hb⟩
  clear p0 p1 p2 p3 p4
  replace RF := Lib.hid (Bs_below RF.out hb)
  replace RM := Lib.hid (Bs_below RM.out hb)
  replace O0 := Lib.hid (O0.out.below hb)
  replace HB := Lib.hid (HB.out.trans (hb.mono HB.out.size))
  have R4 := Lib.hid hr
  clear hr hb hc
  go_wp2_with fail
  refine (both3_big RF.out R4.out RM.out _ (by omega)).mono ?_
  rintro e V5 ⟨r5, rfl, ho, hx, hb⟩
  have RZ := Lib.hid (Bs_of_own ho hx (by simp only [List.length_append]; omega))
  clear ho hx
  replace hb := (((Below.refl _ _).alloc (Nat.le_refl _) _) : Below V4.heap.size V4 (V4.alloc _)).trans (hb.mono (by simp))
  replace RF := Lib.hid (Bs_below RF.out hb)
  replace RM := Lib.hid (Bs_below RM.out hb)
  replace O0 := Lib.hid (O0.out.below hb)
  replace HB := Lib.hid (HB.out.trans (hb.mono HB.out.size))
  clear hb
  go_wp2_with fail
  refine (c22 _ _ RZ.out).mono ?_
  rintro e V6 ⟨rfl, hb⟩
  replace O0 := Lib.hid (O0.out.below hb)
  replace HB := Lib.hid (HB.out.trans (hb.mono HB.out.size))
  clear hb RZ RF RM R4
  have hal : Below V6.heap.size V6 (V6.alloc (.cells #[.int .i64 g1, .int .i64 g2, .int .i64 g3, .int .i64 g4, .string gx] 23)) := (Below.refl _ V6).alloc (Nat.le_refl _) _
  have O6 := Lib.hid (ownp_alloc V6 g1 g2 g3 g4 gx 23 V6.heap.size rfl)
  replace O0 := Lib.hid (O0.out.below hal)
  replace HB := Lib.hid (HB.out.trans (hal.mono HB.out.size))
  clear hal
  obtain ⟨b14, hg⟩ : ∃ b14, V6.heap.size = b14 := ⟨_, rfl⟩
  obtain ⟨U6, hU⟩ : ∃ U6, V6.alloc (.cells #[.int .i64 g1, .int .i64 g2, .int .i64 g3, .int .i64 g4, .string gx] 23) = U6 := ⟨_, rfl⟩
  rw [hU] at HB O6 O0
  rw [hg] at O6
  have hB0 : (B.length : Int) = 0 := (by have := HB0.out; omega)
  go_wp2_with fail
  clear hU hg
  refine (awake8 H _).mono ?_
  rintro e V7 ⟨rfl, hb⟩
  replace HB := Lib.hid (HB.out.trans (hb.mono HB.out.size))
  clear hb
  go_wp2_with fail
  go_ret
  exact ⟨rfl, HB.out⟩

set_option maxHeartbeats 32000000 in
theorem case_oo (H : Pc) (ps0 pd0 pt0 pn0 : Int) (px0 : ByteArray) (f m : List Int) (c1 : Option Addr) (bm om : Nat) (u1 u2 : Nat) (w : World) (b1 : Bs w (.slice c1 f.length u1) f) (b2 : Bs w (.slice (some ⟨bm, om, none⟩) m.length u2) m) (s0 : (px0.size : Int) ≤ 600) (s1 : (f.length : Int) ≤ 200) (s2 : (m.length : Int) ≤ 500)
    (y1 y2 y3 y4 : Int) (yx : ByteArray) (T : Nat) (X : List Int) (hT5' : 7 ≤ T) (hTl' : T ≤ m.length) (hcap : m.length ≤ u2) (hS : m.take T = X) (B : List Int) (hlB : B.length ≤ 263) (hBl : B.length = 7 + px0.size) (c21 : ∀ W, Bs W (.slice (some ⟨bm, om, none⟩) m.length u2) m → Calls Try.prog 15 #[.slice (some ⟨bm, om, none⟩) m.length u2, .int .i64 0] W fun e w' => e = .returned (.tuple #[.agg #[.int .i64 y1, .int .i64 y2, .int .i64 y3, .int .i64 y4, .string yx], .int .i64 ((T : Nat) : Int), .int .i64 0]) ∧ Below W.heap.size W w') (cX : ∀ W, Calls Try.prog 8 #[.agg #[.int .i64 y1, .int .i64 y2, .int .i64 y3, .int .i64 y4, .string yx]] W (RetK W X 0)) (cB : ∀ W, Calls Try.prog 8 #[.agg #[.int .i64 ps0, .int .i64 pd0, .int .i64 pt0, .int .i64 pn0, .string px0]] W (RetK W B 0)) (c22 : ∀ W v, Bs W v (f ++ (B ++ m)) → Calls Try.prog 15 #[v, .int .i64 f.length] W fun e w' => e = .returned (.tuple #[.agg #[.int .i64 ps0, .int .i64 pd0, .int .i64 pt0, .int .i64 pn0, .string px0], .int .i64 ((f.length : Int) + (B.length : Int)), .int .i64 0]) ∧ Below W.heap.size W w') :
    Calls Try.prog 5 #[.agg #[.int .i64 ps0, .int .i64 pd0, .int .i64 pt0, .int .i64 pn0, .string px0], .slice c1 f.length u1, .slice (some ⟨bm, om, none⟩) m.length u2] w fun e w' => e = .returned (.bool true) ∧ Below w.heap.size w w' := by
  have HBL := Lib.hid hBl
  clear hBl
  have hT5 : ((T : Nat) : Int) < 7 ↔ False := ⟨fun h => by omega, False.elim⟩
  have hTl : (m.length : Int) < ((T : Nat) : Int) ↔ False := ⟨fun h => by omega, False.elim⟩
  have hT0 : (0 : Int) ≤ ((T : Nat) : Int) := by omega
  have hTp : ((T : Nat) : Int) ≤ (u2 : Int) := by omega
  have hTm : (((T : Nat) : Int)).toNat = T := Int.toNat_natCast T
  have hE0 : ((0 : Int) == 0) = true := rfl
  have HS := Lib.hid hS
  clear hS
  have RF := Lib.hid (Bs_alloc b1 (.cells #[.int .i64 ps0, .int .i64 pd0, .int .i64 pt0, .int .i64 pn0, .string px0] 23))
  have RM := Lib.hid (Bs_alloc b2 (.cells #[.int .i64 ps0, .int .i64 pd0, .int .i64 pt0, .int .i64 pn0, .string px0] 23))
  have O0 := Lib.hid (ownp_alloc w ps0 pd0 pt0 pn0 px0 23 w.heap.size rfl)
  have HB : Hid (Below w.heap.size w (w.alloc (.cells #[.int .i64 ps0, .int .i64 pd0, .int .i64 pt0, .int .i64 pn0, .string px0] 23))) := (Below.refl _ w).alloc (Nat.le_refl _) _
  have hz60 : ¬ (600 : Int) < (px0.size : Int) := by omega
  have hf200 : ¬ (200 : Int) < (f.length : Int) := by omega
  have hm600 : ¬ (500 : Int) < (m.length : Int) := by omega
  clear b1 b2
  go_enter Try.func5, Try.ntmps5
  go_wp2_with fail
  clear hz60 hf200 hm600
  refine (c21 _ RM.out).mono ?_
  rintro e V1 ⟨rfl, hb⟩
  replace RF := Lib.hid (Bs_below RF.out hb)
  replace RM := Lib.hid (Bs_below RM.out hb)
  replace O0 := Lib.hid (O0.out.below hb)
  replace HB := Lib.hid (HB.out.trans (hb.mono HB.out.size))
  clear hb
  have hal : Below V1.heap.size V1 (V1.alloc (.cells #[.int .i64 y1, .int .i64 y2, .int .i64 y3, .int .i64 y4, .string yx] 23)) := (Below.refl _ V1).alloc (Nat.le_refl _) _
  have O1 := Lib.hid (ownp_alloc V1 y1 y2 y3 y4 yx 23 V1.heap.size rfl)
  replace RF := Lib.hid (Bs_below RF.out hal)
  replace RM := Lib.hid (Bs_below RM.out hal)
  replace O0 := Lib.hid (O0.out.below hal)
  replace HB := Lib.hid (HB.out.trans (hal.mono HB.out.size))
  clear hal
  obtain ⟨b7, hg⟩ : ∃ b7, V1.heap.size = b7 := ⟨_, rfl⟩
  obtain ⟨U1, hU⟩ : ∃ U1, V1.alloc (.cells #[.int .i64 y1, .int .i64 y2, .int .i64 y3, .int .i64 y4, .string yx] 23) = U1 := ⟨_, rfl⟩
  rw [hU] at HB O1 RF RM O0
  rw [hg] at O1
  obtain ⟨⟨p0, p1, p2, p3, p4⟩, -⟩ := O1.out
  go_wp2_with fail
  clear hU hg p0 p1 p2 p3 p4
  refine (cX _).mono ?_
  rintro e V2 ⟨a2, t2_, rfl, hr, hc, hb⟩
  replace RF := Lib.hid (Bs_below RF.out hb)
  replace RM := Lib.hid (Bs_below RM.out hb)
  replace O0 := Lib.hid (O0.out.below hb)
  replace HB := Lib.hid (HB.out.trans (hb.mono HB.out.size))
  have R2 := Lib.hid hr
  clear hr hb hc O1
  go_wp2_with fail
  have hcv1 : ∀ w', Below V2.heap.size V2 w' → (convert 24 9 (.slice a2 X.length t2_)).run Try.prog w' = .ok (.string (strOfNums X)) w' := fun w' h => Bs_conv (Bs_below R2.out h)
  have hcv2 : ∀ w', Below V2.heap.size V2 w' → (convert 24 9 (.slice (some ⟨bm, om, none⟩) T u2)).run Try.prog w' = .ok (.string (strOfNums X)) w' := fun w' h => by
    have hb := bs_take (Bs_below RM.out h) hTl' (by omega)
    rw [HS.out] at hb
    exact Bs_conv hb
  refine wp_region_typed (C := fun w' => Below V2.heap.size V2 w') (X := fun w w' => Below w.heap.size w w') (n := 121) (by kernel_rfl) (by kernel_rfl) rfl (fun w => Below.refl _ w) (Below.refl _ _).drew ?_
  refine w_is (fun w => Below.refl _ w) _ (.inl rfl) (fun ρ w hC hc hfn hf => by have e9 : ρ (.tmp 9) = _ := hf 9 (by decide); (conv => lhs; simp [execOp, go_sem, hc, e9])) ?_
  refine w_is (fun w => Below.refl _ w) _ (.inl rfl) (fun ρ w hC hc hfn hf => by have e42 : ρ (.tmp 42) = _ := hf 42 (by decide); (conv => lhs; simp [execOp, go_sem, hc, e42, hE0])) ?_
  refine w_is (fun w => Below.refl _ w) _ (.inl rfl) (fun ρ w hC hc hfn hf => by have e43 : ρ (.tmp 43) = _ := hf 43 (by decide); (conv => lhs; simp [execOp, go_sem, hc, e43])) ?_
  refine w_is (fun w => Below.refl _ w) _ (.inr ⟨2, 44, true, rfl, rfl, known_is rfl⟩) (fun ρ w hC hc hfn hf => by have e11 : ρ (.tmp 11) = _ := hf 11 (by decide); (conv => lhs; simp [execOp, go_sem, hc, e11])) ?_
  refine w_is (fun w => Below.refl _ w) _ (.inr ⟨2, 44, true, rfl, rfl, known_is rfl⟩) (fun ρ w hC hc hfn hf => by have e9 : ρ (.tmp 9) = _ := hf 9 (by decide); (conv => lhs; simp [execOp, go_sem, hc, e9])) ?_
  refine w_is (fun w => Below.refl _ w) _ (.inr ⟨2, 44, true, rfl, rfl, known_is rfl⟩) (fun ρ w hC hc hfn hf => by have e45 : ρ (.tmp 45) = _ := hf 45 (by decide); have e46 : ρ (.tmp 46) = _ := hf 46 (by decide); (conv => lhs; simp [execOp, go_sem, hc, e45, e46])) ?_
  refine w_is (fun w => Below.refl _ w) _ (.inr ⟨2, 44, true, rfl, rfl, known_is rfl⟩) (fun ρ w hC hc hfn hf => by have e47 : ρ (.tmp 47) = _ := hf 47 (by decide); (conv => lhs; simp [execOp, go_sem, hc, e47])) ?_
  refine w_is (fun w => Below.refl _ w) _ (.inr ⟨6, 48, false, rfl, rfl, known_is rfl⟩) (fun ρ w hC hc hfn hf => by have e8 : ρ (.tmp 8) = _ := hf 8 (by decide); (conv => lhs; simp [execOp, go_sem, hc, e8])) ?_
  refine w_is (fun w => Below.refl _ w) _ (.inr ⟨6, 48, false, rfl, rfl, known_is rfl⟩) (fun ρ w hC hc hfn hf => by have e49 : ρ (.tmp 49) = _ := hf 49 (by decide); (conv => lhs; simp [execOp, go_sem, hc, e49, hT5])) ?_
  refine w_is (fun w => Below.refl _ w) _ (.inr ⟨2, 44, true, rfl, rfl, known_is rfl⟩) (fun ρ w hC hc hfn hf => by have e48 : ρ (.tmp 48) = _ := hf 48 (by decide); have e50 : ρ (.tmp 50) = _ := hf 50 (by decide); (conv => lhs; simp [execOp, go_sem, hc, e48, e50])) ?_
  refine w_is (fun w => Below.refl _ w) _ (.inr ⟨2, 44, true, rfl, rfl, known_is rfl⟩) (fun ρ w hC hc hfn hf => by have e51 : ρ (.tmp 51) = _ := hf 51 (by decide); (conv => lhs; simp [execOp, go_sem, hc, e51])) ?_
  refine w_is (fun w => Below.refl _ w) _ (.inr ⟨10, 52, false, rfl, rfl, known_is rfl⟩) (fun ρ w hC hc hfn hf => by have e8 : ρ (.tmp 8) = _ := hf 8 (by decide); (conv => lhs; simp [execOp, go_sem, hc, e8])) ?_
  refine w_is (fun w => Below.refl _ w) _ (.inr ⟨10, 52, false, rfl, rfl, known_is rfl⟩) (fun ρ w hC hc hfn hf => by have e2 : ρ (.tmp 2) = _ := hf 2 (by decide); (conv => lhs; simp [execOp, go_sem, hc, e2])) ?_
  refine w_is (fun w => Below.refl _ w) _ (.inr ⟨10, 52, false, rfl, rfl, known_is rfl⟩) (fun ρ w hC hc hfn hf => by have e54 : ρ (.tmp 54) = _ := hf 54 (by decide); (conv => lhs; simp [execOp, go_sem, hc, e54])) ?_
  refine w_is (fun w => Below.refl _ w) _ (.inr ⟨10, 52, false, rfl, rfl, known_is rfl⟩) (fun ρ w hC hc hfn hf => by have e53 : ρ (.tmp 53) = _ := hf 53 (by decide); have e55 : ρ (.tmp 55) = _ := hf 55 (by decide); (conv => lhs; simp [execOp, go_sem, hc, e53, e55, hTl])) ?_
  refine w_is (fun w => Below.refl _ w) _ (.inr ⟨2, 44, true, rfl, rfl, known_is rfl⟩) (fun ρ w hC hc hfn hf => by have e52 : ρ (.tmp 52) = _ := hf 52 (by decide); have e56 : ρ (.tmp 56) = _ := hf 56 (by decide); (conv => lhs; simp [execOp, go_sem, hc, e52, e56])) ?_
  refine w_is (fun w => Below.refl _ w) _ (.inr ⟨2, 44, true, rfl, rfl, known_is rfl⟩) (fun ρ w hC hc hfn hf => by have e57 : ρ (.tmp 57) = _ := hf 57 (by decide); (conv => lhs; simp [execOp, go_sem, hc, e57])) ?_
  refine w_is (fun w => Below.refl _ w) _ (.inr ⟨16, 58, false, rfl, rfl, known_is rfl⟩) (fun ρ w hC hc hfn hf => by have e10 : ρ (.tmp 10) = _ := hf 10 (by decide); (conv => lhs; simp [execOp, go_sem, hc, e10])) ?_
  refine w_is (fun w => Below.refl _ w) _ (.inr ⟨16, 58, false, rfl, rfl, known_is rfl⟩) (fun ρ w hC hc hfn hf => by have e59 : ρ (.tmp 59) = _ := hf 59 (by decide); (conv => lhs; simp [execOp, go_sem, hc, e59, hcv1 w hC])) ?_
  refine w_is (fun w => Below.refl _ w) _ (.inr ⟨16, 58, false, rfl, rfl, known_is rfl⟩) (fun ρ w hC hc hfn hf => by have e2 : ρ (.tmp 2) = _ := hf 2 (by decide); (conv => lhs; simp [execOp, go_sem, hc, e2])) ?_
  refine w_is (fun w => Below.refl _ w) _ (.inr ⟨16, 58, false, rfl, rfl, known_is rfl⟩) (fun ρ w hC hc hfn hf => by have e8 : ρ (.tmp 8) = _ := hf 8 (by decide); (conv => lhs; simp [execOp, go_sem, hc, e8])) ?_
  refine w_is (fun w => Below.refl _ w) _ (.inr ⟨16, 58, false, rfl, rfl, known_is rfl⟩) (fun ρ w hC hc hfn hf => by have e61 : ρ (.tmp 61) = _ := hf 61 (by decide); have e62 : ρ (.tmp 62) = _ := hf 62 (by decide); (conv => lhs; simp [execOp, go_sem, hc, e61, e62, hT0, hTp, hTm])) ?_
  refine w_is (fun w => Below.refl _ w) _ (.inr ⟨16, 58, false, rfl, rfl, known_is rfl⟩) (fun ρ w hC hc hfn hf => by have e63 : ρ (.tmp 63) = _ := hf 63 (by decide); (conv => lhs; simp [execOp, go_sem, hc, e63, hcv2 w hC])) ?_
  refine w_is (fun w => Below.refl _ w) _ (.inr ⟨16, 58, false, rfl, rfl, known_is rfl⟩) (fun ρ w hC hc hfn hf => by have e60 : ρ (.tmp 60) = _ := hf 60 (by decide); have e64 : ρ (.tmp 64) = _ := hf 64 (by decide); (conv => lhs; simp [execOp, go_sem, hc, e60, e64])) ?_
  refine w_is (fun w => Below.refl _ w) _ (.inr ⟨2, 44, true, rfl, rfl, known_is rfl⟩) (fun ρ w hC hc hfn hf => by have e58 : ρ (.tmp 58) = _ := hf 58 (by decide); have e65 : ρ (.tmp 65) = _ := hf 65 (by decide); (conv => lhs; simp [execOp, go_sem, hc, e58, e65])) ?_
  refine w_is (fun w => Below.refl _ w) _ (.inl rfl) (fun ρ w hC hc hfn hf => by have e44 : ρ (.tmp 44) = _ := hf 44 (by decide); have e66 : ρ (.tmp 66) = _ := hf 66 (by decide); (conv => lhs; simp [execOp, go_sem, hc, e44, e66])) ?_
  intro A U3 hC hn hd hf
  have y0 : A.eval (.tmp 0) = _ := Eq.trans (hf 0) (by conv => lhs; simp [go_sem])
  have y1 : A.eval (.tmp 1) = _ := Eq.trans (hf 1) (by conv => lhs; simp [go_sem])
  have y2 : A.eval (.tmp 2) = _ := Eq.trans (hf 2) (by conv => lhs; simp [go_sem])
  have y3 : A.eval (.tmp 3) = _ := Eq.trans (hf 3) (by conv => lhs; simp [go_sem])
  have y4 : A.eval (.tmp 4) = _ := Eq.trans (hf 4) (by conv => lhs; simp [go_sem])
  have y5 : A.eval (.tmp 5) = _ := Eq.trans (hf 5) (by conv => lhs; simp [go_sem])
  have y6 : A.eval (.tmp 6) = _ := Eq.trans (hf 6) (by conv => lhs; simp [go_sem])
  have y7 : A.eval (.tmp 7) = _ := Eq.trans (hf 7) (by conv => lhs; simp [go_sem])
  have y8 : A.eval (.tmp 8) = _ := Eq.trans (hf 8) (by conv => lhs; simp [go_sem])
  have y9 : A.eval (.tmp 9) = _ := Eq.trans (hf 9) (by conv => lhs; simp [go_sem])
  have y10 : A.eval (.tmp 10) = _ := Eq.trans (hf 10) (by conv => lhs; simp [go_sem])
  have y11 : A.eval (.tmp 11) = _ := Eq.trans (hf 11) (by conv => lhs; simp [go_sem])
  have y12 : A.eval (.tmp 12) = _ := Eq.trans (hf 12) (by conv => lhs; simp [go_sem])
  have y13 : A.eval (.tmp 13) = _ := Eq.trans (hf 13) (by conv => lhs; simp [go_sem])
  have y14 : A.eval (.tmp 14) = _ := Eq.trans (hf 14) (by conv => lhs; simp [go_sem])
  have y15 : A.eval (.tmp 15) = _ := Eq.trans (hf 15) (by conv => lhs; simp [go_sem])
  have y16 : A.eval (.tmp 16) = _ := Eq.trans (hf 16) (by conv => lhs; simp [go_sem])
  have y17 : A.eval (.tmp 17) = _ := Eq.trans (hf 17) (by conv => lhs; simp [go_sem])
  have y18 : A.eval (.tmp 18) = _ := Eq.trans (hf 18) (by conv => lhs; simp [go_sem])
  have y19 : A.eval (.tmp 19) = _ := Eq.trans (hf 19) (by conv => lhs; simp [go_sem])
  have y20 : A.eval (.tmp 20) = _ := Eq.trans (hf 20) (by conv => lhs; simp [go_sem])
  have y21 : A.eval (.tmp 21) = _ := Eq.trans (hf 21) (by conv => lhs; simp [go_sem])
  have y22 : A.eval (.tmp 22) = _ := Eq.trans (hf 22) (by conv => lhs; simp [go_sem])
  have y23 : A.eval (.tmp 23) = _ := Eq.trans (hf 23) (by conv => lhs; simp [go_sem])
  have y24 : A.eval (.tmp 24) = _ := Eq.trans (hf 24) (by conv => lhs; simp [go_sem])
  have y25 : A.eval (.tmp 25) = _ := Eq.trans (hf 25) (by conv => lhs; simp [go_sem])
  have y26 : A.eval (.tmp 26) = _ := Eq.trans (hf 26) (by conv => lhs; simp [go_sem])
  have y27 : A.eval (.tmp 27) = _ := Eq.trans (hf 27) (by conv => lhs; simp [go_sem])
  have y28 : A.eval (.tmp 28) = _ := Eq.trans (hf 28) (by conv => lhs; simp [go_sem])
  have y29 : A.eval (.tmp 29) = _ := Eq.trans (hf 29) (by conv => lhs; simp [go_sem])
  have y30 : A.eval (.tmp 30) = _ := Eq.trans (hf 30) (by conv => lhs; simp [go_sem])
  have y31 : A.eval (.tmp 31) = _ := Eq.trans (hf 31) (by conv => lhs; simp [go_sem])
  have y32 : A.eval (.tmp 32) = _ := Eq.trans (hf 32) (by conv => lhs; simp [go_sem])
  have y33 : A.eval (.tmp 33) = _ := Eq.trans (hf 33) (by conv => lhs; simp [go_sem])
  have y34 : A.eval (.tmp 34) = _ := Eq.trans (hf 34) (by conv => lhs; simp [go_sem])
  have y35 : A.eval (.tmp 35) = _ := Eq.trans (hf 35) (by conv => lhs; simp [go_sem])
  have y36 : A.eval (.tmp 36) = _ := Eq.trans (hf 36) (by conv => lhs; simp [go_sem])
  have y37 : A.eval (.tmp 37) = _ := Eq.trans (hf 37) (by conv => lhs; simp [go_sem])
  have y38 : A.eval (.tmp 38) = _ := Eq.trans (hf 38) (by conv => lhs; simp [go_sem])
  have y39 : A.eval (.tmp 39) = _ := Eq.trans (hf 39) (by conv => lhs; simp [go_sem])
  have y40 : A.eval (.tmp 40) = _ := Eq.trans (hf 40) (by conv => lhs; simp [go_sem])
  have y41 : A.eval (.tmp 41) = _ := Eq.trans (hf 41) (by conv => lhs; simp [go_sem])
  have y42 : A.eval (.tmp 42) = _ := hf 42
  have y43 : A.eval (.tmp 43) = _ := hf 43
  have y44 : A.eval (.tmp 44) = _ := hf 44
  have y45 : A.eval (.tmp 45) = _ := hf 45
  have y46 : A.eval (.tmp 46) = _ := hf 46
  have y47 : A.eval (.tmp 47) = _ := hf 47
  have y48 : A.eval (.tmp 48) = _ := hf 48
  have y49 : A.eval (.tmp 49) = _ := hf 49
  have y50 : A.eval (.tmp 50) = _ := hf 50
  have y51 : A.eval (.tmp 51) = _ := hf 51
  have y52 : A.eval (.tmp 52) = _ := hf 52
  have y53 : A.eval (.tmp 53) = _ := hf 53
  have y54 : A.eval (.tmp 54) = _ := hf 54
  have y55 : A.eval (.tmp 55) = _ := hf 55
  have y56 : A.eval (.tmp 56) = _ := hf 56
  have y57 : A.eval (.tmp 57) = _ := hf 57
  have y58 : A.eval (.tmp 58) = _ := hf 58
  have y59 : A.eval (.tmp 59) = _ := hf 59
  have y60 : A.eval (.tmp 60) = _ := hf 60
  have y61 : A.eval (.tmp 61) = _ := hf 61
  have y62 : A.eval (.tmp 62) = _ := hf 62
  have y63 : A.eval (.tmp 63) = _ := hf 63
  have y64 : A.eval (.tmp 64) = _ := hf 64
  have y65 : A.eval (.tmp 65) = _ := hf 65
  have y66 : A.eval (.tmp 66) = _ := hf 66
  have y67 : A.eval (.tmp 67) = _ := hf 67
  have y68 : A.eval (.tmp 68) = _ := Eq.trans (hf 68) (by conv => lhs; simp [go_sem])
  have y69 : A.eval (.tmp 69) = _ := Eq.trans (hf 69) (by conv => lhs; simp [go_sem])
  have y70 : A.eval (.tmp 70) = _ := Eq.trans (hf 70) (by conv => lhs; simp [go_sem])
  have y71 : A.eval (.tmp 71) = _ := Eq.trans (hf 71) (by conv => lhs; simp [go_sem])
  have y72 : A.eval (.tmp 72) = _ := Eq.trans (hf 72) (by conv => lhs; simp [go_sem])
  have y73 : A.eval (.tmp 73) = _ := Eq.trans (hf 73) (by conv => lhs; simp [go_sem])
  have y74 : A.eval (.tmp 74) = _ := Eq.trans (hf 74) (by conv => lhs; simp [go_sem])
  have y75 : A.eval (.tmp 75) = _ := Eq.trans (hf 75) (by conv => lhs; simp [go_sem])
  have y76 : A.eval (.tmp 76) = _ := Eq.trans (hf 76) (by conv => lhs; simp [go_sem])
  have y77 : A.eval (.tmp 77) = _ := Eq.trans (hf 77) (by conv => lhs; simp [go_sem])
  have y78 : A.eval (.tmp 78) = _ := Eq.trans (hf 78) (by conv => lhs; simp [go_sem])
  have y79 : A.eval (.tmp 79) = _ := Eq.trans (hf 79) (by conv => lhs; simp [go_sem])
  have y80 : A.eval (.tmp 80) = _ := Eq.trans (hf 80) (by conv => lhs; simp [go_sem])
  have y81 : A.eval (.tmp 81) = _ := Eq.trans (hf 81) (by conv => lhs; simp [go_sem])
  have y82 : A.eval (.tmp 82) = _ := Eq.trans (hf 82) (by conv => lhs; simp [go_sem])
  have y83 : A.eval (.tmp 83) = _ := Eq.trans (hf 83) (by conv => lhs; simp [go_sem])
  have y84 : A.eval (.tmp 84) = _ := Eq.trans (hf 84) (by conv => lhs; simp [go_sem])
  have y85 : A.eval (.tmp 85) = _ := Eq.trans (hf 85) (by conv => lhs; simp [go_sem])
  have y86 : A.eval (.tmp 86) = _ := Eq.trans (hf 86) (by conv => lhs; simp [go_sem])
  have y87 : A.eval (.tmp 87) = _ := Eq.trans (hf 87) (by conv => lhs; simp [go_sem])
  have y88 : A.eval (.tmp 88) = _ := Eq.trans (hf 88) (by conv => lhs; simp [go_sem])
  have y89 : A.eval (.tmp 89) = _ := Eq.trans (hf 89) (by conv => lhs; simp [go_sem])
  have y90 : A.eval (.tmp 90) = _ := Eq.trans (hf 90) (by conv => lhs; simp [go_sem])
  have y91 : A.eval (.tmp 91) = _ := Eq.trans (hf 91) (by conv => lhs; simp [go_sem])
  have y92 : A.eval (.tmp 92) = _ := Eq.trans (hf 92) (by conv => lhs; simp [go_sem])
  have y93 : A.eval (.tmp 93) = _ := Eq.trans (hf 93) (by conv => lhs; simp [go_sem])
  have y94 : A.eval (.tmp 94) = _ := Eq.trans (hf 94) (by conv => lhs; simp [go_sem])
  have y95 : A.eval (.tmp 95) = _ := Eq.trans (hf 95) (by conv => lhs; simp [go_sem])
  have y96 : A.eval (.tmp 96) = _ := Eq.trans (hf 96) (by conv => lhs; simp [go_sem])
  have y97 : A.eval (.tmp 97) = _ := Eq.trans (hf 97) (by conv => lhs; simp [go_sem])
  have y98 : A.eval (.tmp 98) = _ := Eq.trans (hf 98) (by conv => lhs; simp [go_sem])
  have y99 : A.eval (.tmp 99) = _ := Eq.trans (hf 99) (by conv => lhs; simp [go_sem])
  have y100 : A.eval (.tmp 100) = _ := Eq.trans (hf 100) (by conv => lhs; simp [go_sem])
  have y101 : A.eval (.tmp 101) = _ := Eq.trans (hf 101) (by conv => lhs; simp [go_sem])
  have y102 : A.eval (.tmp 102) = _ := Eq.trans (hf 102) (by conv => lhs; simp [go_sem])
  have y103 : A.eval (.tmp 103) = _ := Eq.trans (hf 103) (by conv => lhs; simp [go_sem])
  have y104 : A.eval (.tmp 104) = _ := Eq.trans (hf 104) (by conv => lhs; simp [go_sem])
  have y105 : A.eval (.tmp 105) = _ := Eq.trans (hf 105) (by conv => lhs; simp [go_sem])
  have y106 : A.eval (.tmp 106) = _ := Eq.trans (hf 106) (by conv => lhs; simp [go_sem])
  have y107 : A.eval (.tmp 107) = _ := Eq.trans (hf 107) (by conv => lhs; simp [go_sem])
  have y108 : A.eval (.tmp 108) = _ := Eq.trans (hf 108) (by conv => lhs; simp [go_sem])
  have y109 : A.eval (.tmp 109) = _ := Eq.trans (hf 109) (by conv => lhs; simp [go_sem])
  have y110 : A.eval (.tmp 110) = _ := Eq.trans (hf 110) (by conv => lhs; simp [go_sem])
  have y111 : A.eval (.tmp 111) = _ := Eq.trans (hf 111) (by conv => lhs; simp [go_sem])
  have y112 : A.eval (.tmp 112) = _ := Eq.trans (hf 112) (by conv => lhs; simp [go_sem])
  have y113 : A.eval (.tmp 113) = _ := Eq.trans (hf 113) (by conv => lhs; simp [go_sem])
  have y114 : A.eval (.tmp 114) = _ := Eq.trans (hf 114) (by conv => lhs; simp [go_sem])
  have y115 : A.eval (.tmp 115) = _ := Eq.trans (hf 115) (by conv => lhs; simp [go_sem])
  have y116 : A.eval (.tmp 116) = _ := Eq.trans (hf 116) (by conv => lhs; simp [go_sem])
  have y117 : A.eval (.tmp 117) = _ := Eq.trans (hf 117) (by conv => lhs; simp [go_sem])
  have y118 : A.eval (.tmp 118) = _ := Eq.trans (hf 118) (by conv => lhs; simp [go_sem])
  have y119 : A.eval (.tmp 119) = _ := Eq.trans (hf 119) (by conv => lhs; simp [go_sem])
  have y120 : A.eval (.tmp 120) = _ := Eq.trans (hf 120) (by conv => lhs; simp [go_sem])
  clear hf
  have hA := frame_eq hn
  rw [show List.range 121 = [0, 1, 2, 3, 4, 5, 6, 7, 8, 9, 10, 11, 12, 13, 14, 15, 16, 17, 18, 19, 20, 21, 22, 23, 24, 25, 26, 27, 28, 29, 30, 31, 32, 33, 34, 35, 36, 37, 38, 39, 40, 41, 42, 43, 44, 45, 46, 47, 48, 49, 50, 51, 52, 53, 54, 55, 56, 57, 58, 59, 60, 61, 62, 63, 64, 65, 66, 67, 68, 69, 70, 71, 72, 73, 74, 75, 76, 77, 78, 79, 80, 81, 82, 83, 84, 85, 86, 87, 88, 89, 90, 91, 92, 93, 94, 95, 96, 97, 98, 99, 100, 101, 102, 103, 104, 105, 106, 107, 108, 109, 110, 111, 112, 113, 114, 115, 116, 117, 118, 119, 120] from rfl, hd] at hA
  simp only [List.map_cons, List.map_nil, y0, y1, y2, y3, y4, y5, y6, y7, y8, y9, y10, y11, y12, y13, y14, y15, y16, y17, y18, y19, y20, y21, y22, y23, y24, y25, y26, y27, y28, y29, y30, y31, y32, y33, y34, y35, y36, y37, y38, y39, y40, y41, y42, y43, y44, y45, y46, y47, y48, y49, y50, y51, y52, y53, y54, y55, y56, y57, y58, y59, y60, y61, y62, y63, y64, y65, y66, y67, y68, y69, y70, y71, y72, y73, y74, y75, y76, y77, y78, y79, y80, y81, y82, y83, y84, y85, y86, y87, y88, y89, y90, y91, y92, y93, y94, y95, y96, y97, y98, y99, y100, y101, y102, y103, y104, y105, y106, y107, y108, y109, y110, y111, y112, y113, y114, y115, y116, y117, y118, y119, y120] at hA
  clear y0 y1 y2 y3 y4 y5 y6 y7 y8 y9 y10 y11 y12 y13 y14 y15 y16 y17 y18 y19 y20 y21 y22 y23 y24 y25 y26 y27 y28 y29 y30 y31 y32 y33 y34 y35 y36 y37 y38 y39 y40 y41 y42 y43 y44 y45 y46 y47 y48 y49 y50 y51 y52 y53 y54 y55 y56 y57 y58 y59 y60 y61 y62 y63 y64 y65 y66 y67 y68 y69 y70 y71 y72 y73 y74 y75 y76 y77 y78 y79 y80 y81 y82 y83 y84 y85 y86 y87 y88 y89 y90 y91 y92 y93 y94 y95 y96 y97 y98 y99 y100 y101 y102 y103 y104 y105 y106 y107 y108 y109 y110 y111 y112 y113 y114 y115 y116 y117 y118 y119 y120
  clear hn hd
  subst hA
  replace RF := Lib.hid (Bs_below RF.out hC)
  replace RM := Lib.hid (Bs_below RM.out hC)
  replace O0 := Lib.hid (O0.out.below hC)
  replace HB := Lib.hid (HB.out.trans (hC.mono HB.out.size))
  clear hC R2 hcv1 hcv2
  obtain ⟨⟨p0, p1, p2, p3, p4⟩, -⟩ := O0.out
  go_wp2_with fail
  refine (cB _).mono ?_
  rintro e V4 ⟨a4, t4, rfl, hr, hc, hb⟩
  clear p0 p1 p2 p3 p4
  replace RF := Lib.hid (Bs_below RF.out hb)
  replace RM := Lib.hid (Bs_below RM.out hb)
  replace O0 := Lib.hid (O0.out.below hb)
  replace HB := Lib.hid (HB.out.trans (hb.mono HB.out.size))
  have R4 := Lib.hid hr
  clear hr hb hc
  go_wp2_with fail
  refine (both3_big RF.out R4.out RM.out _ (by omega)).mono ?_
  rintro e V5 ⟨r5, rfl, ho, hx, hb⟩
  have RZ := Lib.hid (Bs_of_own ho hx (by simp only [List.length_append]; omega))
  clear ho hx
  replace hb := (((Below.refl _ _).alloc (Nat.le_refl _) _) : Below V4.heap.size V4 (V4.alloc _)).trans (hb.mono (by simp))
  replace RF := Lib.hid (Bs_below RF.out hb)
  replace RM := Lib.hid (Bs_below RM.out hb)
  replace O0 := Lib.hid (O0.out.below hb)
  replace HB := Lib.hid (HB.out.trans (hb.mono HB.out.size))
  clear hb
  go_wp2_with fail
  refine (c22 _ _ RZ.out).mono ?_
  rintro e V6 ⟨rfl, hb⟩
  replace O0 := Lib.hid (O0.out.below hb)
  replace HB := Lib.hid (HB.out.trans (hb.mono HB.out.size))
  clear hb RZ RF RM R4
  have hal : Below V6.heap.size V6 (V6.alloc (.cells #[.int .i64 ps0, .int .i64 pd0, .int .i64 pt0, .int .i64 pn0, .string px0] 23)) := (Below.refl _ V6).alloc (Nat.le_refl _) _
  have O6 := Lib.hid (ownp_alloc V6 ps0 pd0 pt0 pn0 px0 23 V6.heap.size rfl)
  replace O0 := Lib.hid (O0.out.below hal)
  replace HB := Lib.hid (HB.out.trans (hal.mono HB.out.size))
  clear hal
  obtain ⟨b14, hg⟩ : ∃ b14, V6.heap.size = b14 := ⟨_, rfl⟩
  obtain ⟨U6, hU⟩ : ∃ U6, V6.alloc (.cells #[.int .i64 ps0, .int .i64 pd0, .int .i64 pt0, .int .i64 pn0, .string px0] 23) = U6 := ⟨_, rfl⟩
  rw [hU] at HB O6 O0
  rw [hg] at O6
  have hEq : ∀ w', (binOp .eql 23 (.agg #[.int .i64 ps0, .int .i64 pd0, .int .i64 pt0, .int .i64 pn0, .string px0]) (.agg #[.int .i64 ps0, .int .i64 pd0, .int .i64 pt0, .int .i64 pn0, .string px0])).run Try.prog w' = .ok (.bool true) w' := fun w' => by rw [eqlPK]; simp [eqK]
  have hG := fun op x y xs ys w' => guardPK op x y xs ys w'
  go_wp2_with fail
  clear hU hg
  refine (awake8 H _).mono ?_
  rintro e V7 ⟨rfl, hb⟩
  replace O0 := Lib.hid (O0.out.below hb)
  replace O6 := Lib.hid (O6.out.below hb)
  replace HB := Lib.hid (HB.out.trans (hb.mono HB.out.size))
  clear hb
  obtain ⟨⟨p0, p1, p2, p3, p4⟩, -⟩ := O0.out
  obtain ⟨⟨q0, q1, q2, q3, q4⟩, -⟩ := O6.out
  have hw7 : IntKind.i64.wrap (7 + (px0.size : Int)) = 7 + (px0.size : Int) := by rw [IntKind.wrap_i64]; omega
  have hBL : (B.length : Int) = 7 + (px0.size : Int) := by have := HBL.out; omega
  have hwf : IntKind.i64.wrap ((f.length : Int) + (7 + (px0.size : Int))) = (f.length : Int) + (7 + (px0.size : Int)) := by rw [IntKind.wrap_i64]; omega
  go_wp2_with fail
  go_ret
  exact ⟨by first | rfl | simp, HB.out⟩

set_option maxHeartbeats 32000000 in
theorem case_on (H : Pc) (ps0 pd0 pt0 pn0 : Int) (px0 : ByteArray) (f m : List Int) (c1 : Option Addr) (bm om : Nat) (u1 u2 : Nat) (w : World) (b1 : Bs w (.slice c1 f.length u1) f) (b2 : Bs w (.slice (some ⟨bm, om, none⟩) m.length u2) m) (s0 : (px0.size : Int) ≤ 600) (s1 : (f.length : Int) ≤ 200) (s2 : (m.length : Int) ≤ 500)
    (y1 y2 y3 y4 : Int) (yx : ByteArray) (T : Nat) (X : List Int) (hT5' : 7 ≤ T) (hTl' : T ≤ m.length) (hcap : m.length ≤ u2) (hS : m.take T = X) (B : List Int) (hlB : B.length ≤ 263) (hB0 : B.length = 0) (g1 g2 g3 g4 : Int) (gx : ByteArray) (t2 e2 : Int) (c21 : ∀ W, Bs W (.slice (some ⟨bm, om, none⟩) m.length u2) m → Calls Try.prog 15 #[.slice (some ⟨bm, om, none⟩) m.length u2, .int .i64 0] W fun e w' => e = .returned (.tuple #[.agg #[.int .i64 y1, .int .i64 y2, .int .i64 y3, .int .i64 y4, .string yx], .int .i64 ((T : Nat) : Int), .int .i64 0]) ∧ Below W.heap.size W w') (cX : ∀ W, Calls Try.prog 8 #[.agg #[.int .i64 y1, .int .i64 y2, .int .i64 y3, .int .i64 y4, .string yx]] W (RetK W X 0)) (cB : ∀ W, Calls Try.prog 8 #[.agg #[.int .i64 ps0, .int .i64 pd0, .int .i64 pt0, .int .i64 pn0, .string px0]] W (RetK W B 1)) (c22 : ∀ W v, Bs W v (f ++ (B ++ m)) → Calls Try.prog 15 #[v, .int .i64 f.length] W fun e w' => e = .returned (.tuple #[.agg #[.int .i64 g1, .int .i64 g2, .int .i64 g3, .int .i64 g4, .string gx], .int .i64 t2, .int .i64 e2]) ∧ Below W.heap.size W w') :
    Calls Try.prog 5 #[.agg #[.int .i64 ps0, .int .i64 pd0, .int .i64 pt0, .int .i64 pn0, .string px0], .slice c1 f.length u1, .slice (some ⟨bm, om, none⟩) m.length u2] w fun e w' => e = .returned (.bool true) ∧ Below w.heap.size w w' := by
  have HB0 := Lib.hid hB0
  clear hB0
  have hT5 : ((T : Nat) : Int) < 7 ↔ False := ⟨fun h => by omega, False.elim⟩
  have hTl : (m.length : Int) < ((T : Nat) : Int) ↔ False := ⟨fun h => by omega, False.elim⟩
  have hT0 : (0 : Int) ≤ ((T : Nat) : Int) := by omega
  have hTp : ((T : Nat) : Int) ≤ (u2 : Int) := by omega
  have hTm : (((T : Nat) : Int)).toNat = T := Int.toNat_natCast T
  have hE0 : ((0 : Int) == 0) = true := rfl
  have HS := Lib.hid hS
  clear hS
  have RF := Lib.hid (Bs_alloc b1 (.cells #[.int .i64 ps0, .int .i64 pd0, .int .i64 pt0, .int .i64 pn0, .string px0] 23))
  have RM := Lib.hid (Bs_alloc b2 (.cells #[.int .i64 ps0, .int .i64 pd0, .int .i64 pt0, .int .i64 pn0, .string px0] 23))
  have O0 := Lib.hid (ownp_alloc w ps0 pd0 pt0 pn0 px0 23 w.heap.size rfl)
  have HB : Hid (Below w.heap.size w (w.alloc (.cells #[.int .i64 ps0, .int .i64 pd0, .int .i64 pt0, .int .i64 pn0, .string px0] 23))) := (Below.refl _ w).alloc (Nat.le_refl _) _
  have hz60 : ¬ (600 : Int) < (px0.size : Int) := by omega
  have hf200 : ¬ (200 : Int) < (f.length : Int) := by omega
  have hm600 : ¬ (500 : Int) < (m.length : Int) := by omega
  clear b1 b2
  go_enter Try.func5, Try.ntmps5
  go_wp2_with fail
  clear hz60 hf200 hm600
  refine (c21 _ RM.out).mono ?_
  rintro e V1 ⟨rfl, hb⟩
  replace RF := Lib.hid (Bs_below RF.out hb)
  replace RM := Lib.hid (Bs_below RM.out hb)
  replace O0 := Lib.hid (O0.out.below hb)
  replace HB := Lib.hid (HB.out.trans (hb.mono HB.out.size))
  clear hb
  have hal : Below V1.heap.size V1 (V1.alloc (.cells #[.int .i64 y1, .int .i64 y2, .int .i64 y3, .int .i64 y4, .string yx] 23)) := (Below.refl _ V1).alloc (Nat.le_refl _) _
  have O1 := Lib.hid (ownp_alloc V1 y1 y2 y3 y4 yx 23 V1.heap.size rfl)
  replace RF := Lib.hid (Bs_below RF.out hal)
  replace RM := Lib.hid (Bs_below RM.out hal)
  replace O0 := Lib.hid (O0.out.below hal)
  replace HB := Lib.hid (HB.out.trans (hal.mono HB.out.size))
  clear hal
  obtain ⟨b7, hg⟩ : ∃ b7, V1.heap.size = b7 := ⟨_, rfl⟩
  obtain ⟨U1, hU⟩ : ∃ U1, V1.alloc (.cells #[.int .i64 y1, .int .i64 y2, .int .i64 y3, .int .i64 y4, .string yx] 23) = U1 := ⟨_, rfl⟩
  rw [hU] at HB O1 RF RM O0
  rw [hg] at O1
  obtain ⟨⟨p0, p1, p2, p3, p4⟩, -⟩ := O1.out
  go_wp2_with fail
  clear hU hg p0 p1 p2 p3 p4
  refine (cX _).mono ?_
  rintro e V2 ⟨a2, t2_, rfl, hr, hc, hb⟩
  replace RF := Lib.hid (Bs_below RF.out hb)
  replace RM := Lib.hid (Bs_below RM.out hb)
  replace O0 := Lib.hid (O0.out.below hb)
  replace HB := Lib.hid (HB.out.trans (hb.mono HB.out.size))
  have R2 := Lib.hid hr
  clear hr hb hc O1
  go_wp2_with fail
  have hcv1 : ∀ w', Below V2.heap.size V2 w' → (convert 24 9 (.slice a2 X.length t2_)).run Try.prog w' = .ok (.string (strOfNums X)) w' := fun w' h => Bs_conv (Bs_below R2.out h)
  have hcv2 : ∀ w', Below V2.heap.size V2 w' → (convert 24 9 (.slice (some ⟨bm, om, none⟩) T u2)).run Try.prog w' = .ok (.string (strOfNums X)) w' := fun w' h => by
    have hb := bs_take (Bs_below RM.out h) hTl' (by omega)
    rw [HS.out] at hb
    exact Bs_conv hb
  refine wp_region_typed (C := fun w' => Below V2.heap.size V2 w') (X := fun w w' => Below w.heap.size w w') (n := 121) (by kernel_rfl) (by kernel_rfl) rfl (fun w => Below.refl _ w) (Below.refl _ _).drew ?_
  refine w_is (fun w => Below.refl _ w) _ (.inl rfl) (fun ρ w hC hc hfn hf => by have e9 : ρ (.tmp 9) = _ := hf 9 (by decide); (conv => lhs; simp [execOp, go_sem, hc, e9])) ?_
  refine w_is (fun w => Below.refl _ w) _ (.inl rfl) (fun ρ w hC hc hfn hf => by have e42 : ρ (.tmp 42) = _ := hf 42 (by decide); (conv => lhs; simp [execOp, go_sem, hc, e42, hE0])) ?_
  refine w_is (fun w => Below.refl _ w) _ (.inl rfl) (fun ρ w hC hc hfn hf => by have e43 : ρ (.tmp 43) = _ := hf 43 (by decide); (conv => lhs; simp [execOp, go_sem, hc, e43])) ?_
  refine w_is (fun w => Below.refl _ w) _ (.inr ⟨2, 44, true, rfl, rfl, known_is rfl⟩) (fun ρ w hC hc hfn hf => by have e11 : ρ (.tmp 11) = _ := hf 11 (by decide); (conv => lhs; simp [execOp, go_sem, hc, e11])) ?_
  refine w_is (fun w => Below.refl _ w) _ (.inr ⟨2, 44, true, rfl, rfl, known_is rfl⟩) (fun ρ w hC hc hfn hf => by have e9 : ρ (.tmp 9) = _ := hf 9 (by decide); (conv => lhs; simp [execOp, go_sem, hc, e9])) ?_
  refine w_is (fun w => Below.refl _ w) _ (.inr ⟨2, 44, true, rfl, rfl, known_is rfl⟩) (fun ρ w hC hc hfn hf => by have e45 : ρ (.tmp 45) = _ := hf 45 (by decide); have e46 : ρ (.tmp 46) = _ := hf 46 (by decide); (conv => lhs; simp [execOp, go_sem, hc, e45, e46])) ?_
  refine w_is (fun w => Below.refl _ w) _ (.inr ⟨2, 44, true, rfl, rfl, known_is rfl⟩) (fun ρ w hC hc hfn hf => by have e47 : ρ (.tmp 47) = _ := hf 47 (by decide); (conv => lhs; simp [execOp, go_sem, hc, e47])) ?_
  refine w_is (fun w => Below.refl _ w) _ (.inr ⟨6, 48, false, rfl, rfl, known_is rfl⟩) (fun ρ w hC hc hfn hf => by have e8 : ρ (.tmp 8) = _ := hf 8 (by decide); (conv => lhs; simp [execOp, go_sem, hc, e8])) ?_
  refine w_is (fun w => Below.refl _ w) _ (.inr ⟨6, 48, false, rfl, rfl, known_is rfl⟩) (fun ρ w hC hc hfn hf => by have e49 : ρ (.tmp 49) = _ := hf 49 (by decide); (conv => lhs; simp [execOp, go_sem, hc, e49, hT5])) ?_
  refine w_is (fun w => Below.refl _ w) _ (.inr ⟨2, 44, true, rfl, rfl, known_is rfl⟩) (fun ρ w hC hc hfn hf => by have e48 : ρ (.tmp 48) = _ := hf 48 (by decide); have e50 : ρ (.tmp 50) = _ := hf 50 (by decide); (conv => lhs; simp [execOp, go_sem, hc, e48, e50])) ?_
  refine w_is (fun w => Below.refl _ w) _ (.inr ⟨2, 44, true, rfl, rfl, known_is rfl⟩) (fun ρ w hC hc hfn hf => by have e51 : ρ (.tmp 51) = _ := hf 51 (by decide); (conv => lhs; simp [execOp, go_sem, hc, e51])) ?_
  refine w_is (fun w => Below.refl _ w) _ (.inr ⟨10, 52, false, rfl, rfl, known_is rfl⟩) (fun ρ w hC hc hfn hf => by have e8 : ρ (.tmp 8) = _ := hf 8 (by decide); (conv => lhs; simp [execOp, go_sem, hc, e8])) ?_
  refine w_is (fun w => Below.refl _ w) _ (.inr ⟨10, 52, false, rfl, rfl, known_is rfl⟩) (fun ρ w hC hc hfn hf => by have e2 : ρ (.tmp 2) = _ := hf 2 (by decide); (conv => lhs; simp [execOp, go_sem, hc, e2])) ?_
  refine w_is (fun w => Below.refl _ w) _ (.inr ⟨10, 52, false, rfl, rfl, known_is rfl⟩) (fun ρ w hC hc hfn hf => by have e54 : ρ (.tmp 54) = _ := hf 54 (by decide); (conv => lhs; simp [execOp, go_sem, hc, e54])) ?_
  refine w_is (fun w => Below.refl _ w) _ (.inr ⟨10, 52, false, rfl, rfl, known_is rfl⟩) (fun ρ w hC hc hfn hf => by have e53 : ρ (.tmp 53) = _ := hf 53 (by decide); have e55 : ρ (.tmp 55) = _ := hf 55 (by decide); (conv => lhs; simp [execOp, go_sem, hc, e53, e55, hTl])) ?_
  refine w_is (fun w => Below.refl _ w) _ (.inr ⟨2, 44, true, rfl, rfl, known_is rfl⟩) (fun ρ w hC hc hfn hf => by have e52 : ρ (.tmp 52) = _ := hf 52 (by decide); have e56 : ρ (.tmp 56) = _ := hf 56 (by decide); (conv => lhs; simp [execOp, go_sem, hc, e52, e56])) ?_
  refine w_is (fun w => Below.refl _ w) _ (.inr ⟨2, 44, true, rfl, rfl, known_is rfl⟩) (fun ρ w hC hc hfn hf => by have e57 : ρ (.tmp 57) = _ := hf 57 (by decide); (conv => lhs; simp [execOp, go_sem, hc, e57])) ?_
  refine w_is (fun w => Below.refl _ w) _ (.inr ⟨16, 58, false, rfl, rfl, known_is rfl⟩) (fun ρ w hC hc hfn hf => by have e10 : ρ (.tmp 10) = _ := hf 10 (by decide); (conv => lhs; simp [execOp, go_sem, hc, e10])) ?_
  refine w_is (fun w => Below.refl _ w) _ (.inr ⟨16, 58, false, rfl, rfl, known_is rfl⟩) (fun ρ w hC hc hfn hf => by have e59 : ρ (.tmp 59) = _ := hf 59 (by decide); (conv => lhs; simp [execOp, go_sem, hc, e59, hcv1 w hC])) ?_
  refine w_is (fun w => Below.refl _ w) _ (.inr ⟨16, 58, false, rfl, rfl, known_is rfl⟩) (fun ρ w hC hc hfn hf => by have e2 : ρ (.tmp 2) = _ := hf 2 (by decide); (conv => lhs; simp [execOp, go_sem, hc, e2])) ?_
  refine w_is (fun w => Below.refl _ w) _ (.inr ⟨16, 58, false, rfl, rfl, known_is rfl⟩) (fun ρ w hC hc hfn hf => by have e8 : ρ (.tmp 8) = _ := hf 8 (by decide); (conv => lhs; simp [execOp, go_sem, hc, e8])) ?_
  refine w_is (fun w => Below.refl _ w) _ (.inr ⟨16, 58, false, rfl, rfl, known_is rfl⟩) (fun ρ w hC hc hfn hf => by have e61 : ρ (.tmp 61) = _ := hf 61 (by decide); have e62 : ρ (.tmp 62) = _ := hf 62 (by decide); (conv => lhs; simp [execOp, go_sem, hc, e61, e62, hT0, hTp, hTm])) ?_
  refine w_is (fun w => Below.refl _ w) _ (.inr ⟨16, 58, false, rfl, rfl, known_is rfl⟩) (fun ρ w hC hc hfn hf => by have e63 : ρ (.tmp 63) = _ := hf 63 (by decide); (conv => lhs; simp [execOp, go_sem, hc, e63, hcv2 w hC])) ?_
  refine w_is (fun w => Below.refl _ w) _ (.inr ⟨16, 58, false, rfl, rfl, known_is rfl⟩) (fun ρ w hC hc hfn hf => by have e60 : ρ (.tmp 60) = _ := hf 60 (by decide); have e64 : ρ (.tmp 64) = _ := hf 64 (by decide); (conv => lhs; simp [execOp, go_sem, hc, e60, e64])) ?_
  refine w_is (fun w => Below.refl _ w) _ (.inr ⟨2, 44, true, rfl, rfl, known_is rfl⟩) (fun ρ w hC hc hfn hf => by have e58 : ρ (.tmp 58) = _ := hf 58 (by decide); have e65 : ρ (.tmp 65) = _ := hf 65 (by decide); (conv => lhs; simp [execOp, go_sem, hc, e58, e65])) ?_
  refine w_is (fun w => Below.refl _ w) _ (.inl rfl) (fun ρ w hC hc hfn hf => by have e44 : ρ (.tmp 44) = _ := hf 44 (by decide); have e66 : ρ (.tmp 66) = _ := hf 66 (by decide); (conv => lhs; simp [execOp, go_sem, hc, e44, e66])) ?_
  intro A U3 hC hn hd hf
  have y0 : A.eval (.tmp 0) = _ := Eq.trans (hf 0) (by conv => lhs; simp [go_sem])
  have y1 : A.eval (.tmp 1) = _ := Eq.trans (hf 1) (by conv => lhs; simp [go_sem])
  have y2 : A.eval (.tmp 2) = _ := Eq.trans (hf 2) (by conv => lhs; simp [go_sem])
  have y3 : A.eval (.tmp 3) = _ := Eq.trans (hf 3) (by conv => lhs; simp [go_sem])
  have y4 : A.eval (.tmp 4) = _ := Eq.trans (hf 4) (by conv => lhs; simp [go_sem])
  have y5 : A.eval (.tmp 5) = _ := Eq.trans (hf 5) (by conv => lhs; simp [go_sem])
  have y6 : A.eval (.tmp 6) = _ := Eq.trans (hf 6) (by conv => lhs; simp [go_sem])
  have y7 : A.eval (.tmp 7) = _ := Eq.trans (hf 7) (by conv => lhs; simp [go_sem])
  have y8 : A.eval (.tmp 8) = _ := Eq.trans (hf 8) (by conv => lhs; simp [go_sem])
  have y9 : A.eval (.tmp 9) = _ := Eq.trans (hf 9) (by conv => lhs; simp [go_sem])
  have y10 : A.eval (.tmp 10) = _ := Eq.trans (hf 10) (by conv => lhs; simp [go_sem])
  have y11 : A.eval (.tmp 11) = _ := Eq.trans (hf 11) (by conv => lhs; simp [go_sem])
  have y12 : A.eval (.tmp 12) = _ := Eq.trans (hf 12) (by conv => lhs; simp [go_sem])
  have y13 : A.eval (.tmp 13) = _ := Eq.trans (hf 13) (by conv => lhs; simp [go_sem])
  have y14 : A.eval (.tmp 14) = _ := Eq.trans (hf 14) (by conv => lhs; simp [go_sem])
  have y15 : A.eval (.tmp 15) = _ := Eq.trans (hf 15) (by conv => lhs; simp [go_sem])
  have y16 : A.eval (.tmp 16) = _ := Eq.trans (hf 16) (by conv => lhs; simp [go_sem])
  have y17 : A.eval (.tmp 17) = _ := Eq.trans (hf 17) (by conv => lhs; simp [go_sem])
  have y18 : A.eval (.tmp 18) = _ := Eq.trans (hf 18) (by conv => lhs; simp [go_sem])
  have y19 : A.eval (.tmp 19) = _ := Eq.trans (hf 19) (by conv => lhs; simp [go_sem])
  have y20 : A.eval (.tmp 20) = _ := Eq.trans (hf 20) (by conv => lhs; simp [go_sem])
  have y21 : A.eval (.tmp 21) = _ := Eq.trans (hf 21) (by conv => lhs; simp [go_sem])
  have y22 : A.eval (.tmp 22) = _ := Eq.trans (hf 22) (by conv => lhs; simp [go_sem])
  have y23 : A.eval (.tmp 23) = _ := Eq.trans (hf 23) (by conv => lhs; simp [go_sem])
  have y24 : A.eval (.tmp 24) = _ := Eq.trans (hf 24) (by conv => lhs; simp [go_sem])
  have y25 : A.eval (.tmp 25) = _ := Eq.trans (hf 25) (by conv => lhs; simp [go_sem])
  have y26 : A.eval (.tmp 26) = _ := Eq.trans (hf 26) (by conv => lhs; simp [go_sem])
  have y27 : A.eval (.tmp 27) = _ := Eq.trans (hf 27) (by conv => lhs; simp [go_sem])
  have y28 : A.eval (.tmp 28) = _ := Eq.trans (hf 28) (by conv => lhs; simp [go_sem])
  have y29 : A.eval (.tmp 29) = _ := Eq.trans (hf 29) (by conv => lhs; simp [go_sem])
  have y30 : A.eval (.tmp 30) = _ := Eq.trans (hf 30) (by conv => lhs; simp [go_sem])
  have y31 : A.eval (.tmp 31) = _ := Eq.trans (hf 31) (by conv => lhs; simp [go_sem])
  have y32 : A.eval (.tmp 32) = _ := Eq.trans (hf 32) (by conv => lhs; simp [go_sem])
  have y33 : A.eval (.tmp 33) = _ := Eq.trans (hf 33) (by conv => lhs; simp [go_sem])
  have y34 : A.eval (.tmp 34) = _ := Eq.trans (hf 34) (by conv => lhs; simp [go_sem])
  have y35 : A.eval (.tmp 35) = _ := Eq.trans (hf 35) (by conv => lhs; simp [go_sem])
  have y36 : A.eval (.tmp 36) = _ := Eq.trans (hf 36) (by conv => lhs; simp [go_sem])
  have y37 : A.eval (.tmp 37) = _ := Eq.trans (hf 37) (by conv => lhs; simp [go_sem])
  have y38 : A.eval (.tmp 38) = _ := Eq.trans (hf 38) (by conv => lhs; simp [go_sem])
  have y39 : A.eval (.tmp 39) = _ := Eq.trans (hf 39) (by conv => lhs; simp [go_sem])
  have y40 : A.eval (.tmp 40) = _ := Eq.trans (hf 40) (by conv => lhs; simp [go_sem])
  have y41 : A.eval (.tmp 41) = _ := Eq.trans (hf 41) (by conv => lhs; simp [go_sem])
  have y42 : A.eval (.tmp 42) = _ := hf 42
  have y43 : A.eval (.tmp 43) = _ := hf 43
  have y44 : A.eval (.tmp 44) = _ := hf 44
  have y45 : A.eval (.tmp 45) = _ := hf 45
  have y46 : A.eval (.tmp 46) = _ := hf 46
  have y47 : A.eval (.tmp 47) = _ := hf 47
  have y48 : A.eval (.tmp 48) = _ := hf 48
  have y49 : A.eval (.tmp 49) = _ := hf 49
  have y50 : A.eval (.tmp 50) = _ := hf 50
  have y51 : A.eval (.tmp 51) = _ := hf 51
  have y52 : A.eval (.tmp 52) = _ := hf 52
  have y53 : A.eval (.tmp 53) = _ := hf 53
  have y54 : A.eval (.tmp 54) = _ := hf 54
  have y55 : A.eval (.tmp 55) = _ := hf 55
  have y56 : A.eval (.tmp 56) = _ := hf 56
  have y57 : A.eval (.tmp 57) = _ := hf 57
  have y58 : A.eval (.tmp 58) = _ := hf 58
  have y59 : A.eval (.tmp 59) = _ := hf 59
  have y60 : A.eval (.tmp 60) = _ := hf 60
  have y61 : A.eval (.tmp 61) = _ := hf 61
  have y62 : A.eval (.tmp 62) = _ := hf 62
  have y63 : A.eval (.tmp 63) = _ := hf 63
  have y64 : A.eval (.tmp 64) = _ := hf 64
  have y65 : A.eval (.tmp 65) = _ := hf 65
  have y66 : A.eval (.tmp 66) = _ := hf 66
  have y67 : A.eval (.tmp 67) = _ := hf 67
  have y68 : A.eval (.tmp 68) = _ := Eq.trans (hf 68) (by conv => lhs; simp [go_sem])
  have y69 : A.eval (.tmp 69) = _ := Eq.trans (hf 69) (by conv => lhs; simp [go_sem])
  have y70 : A.eval (.tmp 70) = _ := Eq.trans (hf 70) (by conv => lhs; simp [go_sem])
  have y71 : A.eval (.tmp 71) = _ := Eq.trans (hf 71) (by conv => lhs; simp [go_sem])
  have y72 : A.eval (.tmp 72) = _ := Eq.trans (hf 72) (by conv => lhs; simp [go_sem])
  have y73 : A.eval (.tmp 73) = _ := Eq.trans (hf 73) (by conv => lhs; simp [go_sem])
  have y74 : A.eval (.tmp 74) = _ := Eq.trans (hf 74) (by conv => lhs; simp [go_sem])
  have y75 : A.eval (.tmp 75) = _ := Eq.trans (hf 75) (by conv => lhs; simp [go_sem])
  have y76 : A.eval (.tmp 76) = _ := Eq.trans (hf 76) (by conv => lhs; simp [go_sem])
  have y77 : A.eval (.tmp 77) = _ := Eq.trans (hf 77) (by conv => lhs; simp [go_sem])
  have y78 : A.eval (.tmp 78) = _ := Eq.trans (hf 78) (by conv => lhs; simp [go_sem])
  have y79 : A.eval (.tmp 79) = _ := Eq.trans (hf 79) (by conv => lhs; simp [go_sem])
  have y80 : A.eval (.tmp 80) = _ := Eq.trans (hf 80) (by conv => lhs; simp [go_sem])
  have y81 : A.eval (.tmp 81) = _ := Eq.trans (hf 81) (by conv => lhs; simp [go_sem])
  have y82 : A.eval (.tmp 82) = _ := Eq.trans (hf 82) (by conv => lhs; simp [go_sem])
  have y83 : A.eval (.tmp 83) = _ := Eq.trans (hf 83) (by conv => lhs; simp [go_sem])
  have y84 : A.eval (.tmp 84) = _ := Eq.trans (hf 84) (by conv => lhs; simp [go_sem])
  have y85 : A.eval (.tmp 85) = _ := Eq.trans (hf 85) (by conv => lhs; simp [go_sem])
  have y86 : A.eval (.tmp 86) = _ := Eq.trans (hf 86) (by conv => lhs; simp [go_sem])
  have y87 : A.eval (.tmp 87) = _ := Eq.trans (hf 87) (by conv => lhs; simp [go_sem])
  have y88 : A.eval (.tmp 88) = _ := Eq.trans (hf 88) (by conv => lhs; simp [go_sem])
  have y89 : A.eval (.tmp 89) = _ := Eq.trans (hf 89) (by conv => lhs; simp [go_sem])
  have y90 : A.eval (.tmp 90) = _ := Eq.trans (hf 90) (by conv => lhs; simp [go_sem])
  have y91 : A.eval (.tmp 91) = _ := Eq.trans (hf 91) (by conv => lhs; simp [go_sem])
  have y92 : A.eval (.tmp 92) = _ := Eq.trans (hf 92) (by conv => lhs; simp [go_sem])
  have y93 : A.eval (.tmp 93) = _ := Eq.trans (hf 93) (by conv => lhs; simp [go_sem])
  have y94 : A.eval (.tmp 94) = _ := Eq.trans (hf 94) (by conv => lhs; simp [go_sem])
  have y95 : A.eval (.tmp 95) = _ := Eq.trans (hf 95) (by conv => lhs; simp [go_sem])
  have y96 : A.eval (.tmp 96) = _ := Eq.trans (hf 96) (by conv => lhs; simp [go_sem])
  have y97 : A.eval (.tmp 97) = _ := Eq.trans (hf 97) (by conv => lhs; simp [go_sem])
  have y98 : A.eval (.tmp 98) = _ := Eq.trans (hf 98) (by conv => lhs; simp [go_sem])
  have y99 : A.eval (.tmp 99) = _ := Eq.trans (hf 99) (by conv => lhs; simp [go_sem])
  have y100 : A.eval (.tmp 100) = _ := Eq.trans (hf 100) (by conv => lhs; simp [go_sem])
  have y101 : A.eval (.tmp 101) = _ := Eq.trans (hf 101) (by conv => lhs; simp [go_sem])
  have y102 : A.eval (.tmp 102) = _ := Eq.trans (hf 102) (by conv => lhs; simp [go_sem])
  have y103 : A.eval (.tmp 103) = _ := Eq.trans (hf 103) (by conv => lhs; simp [go_sem])
  have y104 : A.eval (.tmp 104) = _ := Eq.trans (hf 104) (by conv => lhs; simp [go_sem])
  have y105 : A.eval (.tmp 105) = _ := Eq.trans (hf 105) (by conv => lhs; simp [go_sem])
  have y106 : A.eval (.tmp 106) = _ := Eq.trans (hf 106) (by conv => lhs; simp [go_sem])
  have y107 : A.eval (.tmp 107) = _ := Eq.trans (hf 107) (by conv => lhs; simp [go_sem])
  have y108 : A.eval (.tmp 108) = _ := Eq.trans (hf 108) (by conv => lhs; simp [go_sem])
  have y109 : A.eval (.tmp 109) = _ := Eq.trans (hf 109) (by conv => lhs; simp [go_sem])
  have y110 : A.eval (.tmp 110) = _ := Eq.trans (hf 110) (by conv => lhs; simp [go_sem])
  have y111 : A.eval (.tmp 111) = _ := Eq.trans (hf 111) (by conv => lhs; simp [go_sem])
  have y112 : A.eval (.tmp 112) = _ := Eq.trans (hf 112) (by conv => lhs; simp [go_sem])
  have y113 : A.eval (.tmp 113) = _ := Eq.trans (hf 113) (by conv => lhs; simp [go_sem])
  have y114 : A.eval (.tmp 114) = _ := Eq.trans (hf 114) (by conv => lhs; simp [go_sem])
  have y115 : A.eval (.tmp 115) = _ := Eq.trans (hf 115) (by conv => lhs; simp [go_sem])
  have y116 : A.eval (.tmp 116) = _ := Eq.trans (hf 116) (by conv => lhs; simp [go_sem])
  have y117 : A.eval (.tmp 117) = _ := Eq.trans (hf 117) (by conv => lhs; simp [go_sem])
  have y118 : A.eval (.tmp 118) = _ := Eq.trans (hf 118) (by conv => lhs; simp [go_sem])
  have y119 : A.eval (.tmp 119) = _ := Eq.trans (hf 119) (by conv => lhs; simp [go_sem])
  have y120 : A.eval (.tmp 120) = _ := Eq.trans (hf 120) (by conv => lhs; simp [go_sem])
  clear hf
  have hA := frame_eq hn
  rw [show List.range 121 = [0, 1, 2, 3, 4, 5, 6, 7, 8, 9, 10, 11, 12, 13, 14, 15, 16, 17, 18, 19, 20, 21, 22, 23, 24, 25, 26, 27, 28, 29, 30, 31, 32, 33, 34, 35, 36, 37, 38, 39, 40, 41, 42, 43, 44, 45, 46, 47, 48, 49, 50, 51, 52, 53, 54, 55, 56, 57, 58, 59, 60, 61, 62, 63, 64, 65, 66, 67, 68, 69, 70, 71, 72, 73, 74, 75, 76, 77, 78, 79, 80, 81, 82, 83, 84, 85, 86, 87, 88, 89, 90, 91, 92, 93, 94, 95, 96, 97, 98, 99, 100, 101, 102, 103, 104, 105, 106, 107, 108, 109, 110, 111, 112, 113, 114, 115, 116, 117, 118, 119, 120] from rfl, hd] at hA
  simp only [List.map_cons, List.map_nil, y0, y1, y2, y3, y4, y5, y6, y7, y8, y9, y10, y11, y12, y13, y14, y15, y16, y17, y18, y19, y20, y21, y22, y23, y24, y25, y26, y27, y28, y29, y30, y31, y32, y33, y34, y35, y36, y37, y38, y39, y40, y41, y42, y43, y44, y45, y46, y47, y48, y49, y50, y51, y52, y53, y54, y55, y56, y57, y58, y59, y60, y61, y62, y63, y64, y65, y66, y67, y68, y69, y70, y71, y72, y73, y74, y75, y76, y77, y78, y79, y80, y81, y82, y83, y84, y85, y86, y87, y88, y89, y90, y91, y92, y93, y94, y95, y96, y97, y98, y99, y100, y101, y102, y103, y104, y105, y106, y107, y108, y109, y110, y111, y112, y113, y114, y115, y116, y117, y118, y119, y120] at hA
  clear y0 y1 y2 y3 y4 y5 y6 y7 y8 y9 y10 y11 y12 y13 y14 y15 y16 y17 y18 y19 y20 y21 y22 y23 y24 y25 y26 y27 y28 y29 y30 y31 y32 y33 y34 y35 y36 y37 y38 y39 y40 y41 y42 y43 y44 y45 y46 y47 y48 y49 y50 y51 y52 y53 y54 y55 y56 y57 y58 y59 y60 y61 y62 y63 y64 y65 y66 y67 y68 y69 y70 y71 y72 y73 y74 y75 y76 y77 y78 y79 y80 y81 y82 y83 y84 y85 y86 y87 y88 y89 y90 y91 y92 y93 y94 y95 y96 y97 y98 y99 y100 y101 y102 y103 y104 y105 y106 y107 y108 y109 y110 y111 y112 y113 y114 y115 y116 y117 y118 y119 y120
  clear hn hd
  subst hA
  replace RF := Lib.hid (Bs_below RF.out hC)
  replace RM := Lib.hid (Bs_below RM.out hC)
  replace O0 := Lib.hid (O0.out.below hC)
  replace HB := Lib.hid (HB.out.trans (hC.mono HB.out.size))
  clear hC R2 hcv1 hcv2
  obtain ⟨⟨p0, p1, p2, p3, p4⟩, -⟩ := O0.out
  go_wp2_with fail
  refine (cB _).mono ?_
  rintro e V4 ⟨a4, t4, rfl, hr, hc, hb⟩
  clear p0 p1 p2 p3 p4
  replace RF := Lib.hid (Bs_below RF.out hb)
  replace RM := Lib.hid (Bs_below RM.out hb)
  replace O0 := Lib.hid (O0.out.below hb)
  replace HB := Lib.hid (HB.out.trans (hb.mono HB.out.size))
  have R4 := Lib.hid hr
  clear hr hb hc
  go_wp2_with fail
  refine (both3_big RF.out R4.out RM.out _ (by omega)).mono ?_
  rintro e V5 ⟨r5, rfl, ho, hx, hb⟩
  have RZ := Lib.hid (Bs_of_own ho hx (by simp only [List.length_append]; omega))
  clear ho hx
  replace hb := (((Below.refl _ _).alloc (Nat.le_refl _) _) : Below V4.heap.size V4 (V4.alloc _)).trans (hb.mono (by simp))
  replace RF := Lib.hid (Bs_below RF.out hb)
  replace RM := Lib.hid (Bs_below RM.out hb)
  replace O0 := Lib.hid (O0.out.below hb)
  replace HB := Lib.hid (HB.out.trans (hb.mono HB.out.size))
  clear hb
  go_wp2_with fail
  refine (c22 _ _ RZ.out).mono ?_
  rintro e V6 ⟨rfl, hb⟩
  replace O0 := Lib.hid (O0.out.below hb)
  replace HB := Lib.hid (HB.out.trans (hb.mono HB.out.size))
  clear hb RZ RF RM R4
  have hal : Below V6.heap.size V6 (V6.alloc (.cells #[.int .i64 g1, .int .i64 g2, .int .i64 g3, .int .i64 g4, .string gx] 23)) := (Below.refl _ V6).alloc (Nat.le_refl _) _
  have O6 := Lib.hid (ownp_alloc V6 g1 g2 g3 g4 gx 23 V6.heap.size rfl)
  replace O0 := Lib.hid (O0.out.below hal)
  replace HB := Lib.hid (HB.out.trans (hal.mono HB.out.size))
  clear hal
  obtain ⟨b14, hg⟩ : ∃ b14, V6.heap.size = b14 := ⟨_, rfl⟩
  obtain ⟨U6, hU⟩ : ∃ U6, V6.alloc (.cells #[.int .i64 g1, .int .i64 g2, .int .i64 g3, .int .i64 g4, .string gx] 23) = U6 := ⟨_, rfl⟩
  rw [hU] at HB O6 O0
  rw [hg] at O6
  have hB0 : (B.length : Int) = 0 := (by have := HB0.out; omega)
  go_wp2_with fail
  clear hU hg
  refine (awake8 H _).mono ?_
  rintro e V7 ⟨rfl, hb⟩
  replace HB := Lib.hid (HB.out.trans (hb.mono HB.out.size))
  clear hb
  go_wp2_with fail
  go_ret
  exact ⟨rfl, HB.out⟩

theorem pk_inr {xs : List Int} {k : Int} (h : pkE (pkPF xs k) = 0) : ∃ r to, pkPF xs k = .inr (r, to) := by
  cases hp : pkPF xs k with
  | inr r => exact ⟨r.1, r.2, rfl⟩
  | inl e =>
    exfalso
    rw [hp] at h
    have he : e = 0 := h
    subst he
    have h5 : ∀ j, pE xs k j ≠ 0 → ¬ (Sum.inl (pE xs k j) : Int ⊕ (Pk × Int)) = .inl 0 := fun j hj e => hj (Sum.inl.inj e)
    unfold pkPF at hp
    split at hp
    · rename_i h0; exact h5 0 h0 hp
    · split at hp
      · rename_i h0; exact h5 1 h0 hp
      · split at hp
        · rename_i h0; exact h5 2 h0 hp
        · split at hp
          · rename_i h0; exact h5 3 h0 hp
          · split at hp
            · rename_i h0; exact h5 4 h0 hp
            · unfold endP at hp
              split at hp
              · simp at hp
              · split at hp
                · simp at hp
                · split at hp
                  · cases hp
                  · simp at hp
theorem pk_size {xs : List Int} {k : Int} : (pkR (pkPF xs k)).2.2.2.2.size ≤ 256 := by
  cases hp : pkPF xs k with
  | inl e => show (⟨#[]⟩ : ByteArray).size ≤ 256; decide
  | inr r =>
    obtain ⟨⟨s, d, t, n, x⟩, to⟩ := r
    show x.size ≤ 256
    have hi : ∀ (a b c e g q : Int), endP xs a b c e g q = .inr ((s, d, t, n, x), to) → x.size ≤ 256 := fun a b c e g q h => by
      unfold endP at h
      split at h
      · cases h
      · split at h
        · cases h
        · split at h
          · rename_i hok
            simp only [Sum.inr.injEq, Prod.mk.injEq] at h
            obtain ⟨⟨rfl, rfl, rfl, rfl, rfl⟩, _⟩ := h
            exact hok.2.2.2.2
          · cases h
    unfold pkPF at hp
    split at hp
    · cases hp
    · split at hp
      · cases hp
      · split at hp
        · cases hp
        · split at hp
          · cases hp
          · split at hp
            · cases hp
            · exact hi _ _ _ _ _ _ hp

set_option maxHeartbeats 4000000 in
theorem walk (H : Pc) (ps0 pd0 pt0 pn0 : Int) (px0 : ByteArray) (a1 : Option Addr) (len1 cap1 : Nat) (z1 : List Int) (a2 : Option Addr) (len2 cap2 : Nat) (z2 : List Int) (w : World) (w1 : IsRow .u8 w a1 len1 cap1 z1) (w2 : IsRow .u8 w a2 len2 cap2 z2) :
    Calls Try.prog 5 #[.agg #[.int .i64 ps0, .int .i64 pd0, .int .i64 pt0, .int .i64 pn0, .string px0], .slice a1 len1 cap1, .slice a2 len2 cap2] w fun e w' => e = .returned (.bool true) ∧ Below w.heap.size w w' := by
  obtain ⟨b1, l1⟩ := bs_of w1
  obtain ⟨b2, l2⟩ := bs_of w2
  generalize z1.take len1 = f at b1 l1
  generalize z2.take len2 = m at b2 l2
  subst l1 l2
  clear w1 w2
  by_cases h0 : (600 : Int) < (px0.size : Int)
  · exact early0 ps0 pd0 pt0 pn0 px0 f m a1 a2 cap1 cap2 w h0
  by_cases h1 : (200 : Int) < (f.length : Int)
  · exact early1 ps0 pd0 pt0 pn0 px0 f m a1 a2 cap1 cap2 w h0 h1
  by_cases h2 : (500 : Int) < (m.length : Int)
  · exact early2 ps0 pd0 pt0 pn0 px0 f m a1 a2 cap1 cap2 w h0 h1 h2
  by_cases he : pkE (pkPF m 0) = 0
  · obtain ⟨⟨s, d, t, n, x⟩, to, hp⟩ := pk_inr he
    obtain ⟨hq, T', hT', h3, hT, hS⟩ := pkPF_inv b2.1 hp
    subst hT'
    obtain ⟨h1', h2', ⟨a, cap, hv, -, hm⟩ | ⟨b, o, cap, hv, hc, hcell⟩⟩ := id b2
    · rw [hm] at hT; simp at hT; omega
    · simp only [Value.slice.injEq, true_and] at hv
      obtain ⟨rfl, rfl⟩ := hv
      by_cases hA : PkOk ps0 pd0 pt0 pn0 px0
      · exact case_oo H ps0 pd0 pt0 pn0 px0 f m a1 b o cap1 cap2 w b1 b2 (by omega) (by omega) (by omega) s d t n x T' (byP s d t n x) h3 hT hc (by rw [byP, if_pos hq]; exact hS.symm) (byP ps0 pd0 pt0 pn0 px0) (byP_len ps0 pd0 pt0 pn0 px0) (by rw [byP, if_pos hA]; exact pkB_len ps0 pd0 pt0 pn0 px0)
          (fun W h => by have := H.par _ m 0 W h; rw [hp] at this; exact this)
          (fun W => by have := H.byt s d t n x W (by have := hq.2.2.2.2; omega); rw [show kP s d t n x = 0 from if_pos hq] at this; exact this)
          (fun W => by have := H.byt ps0 pd0 pt0 pn0 px0 W (by omega); rw [show kP ps0 pd0 pt0 pn0 px0 = 0 from if_pos hA] at this; exact this)
          (fun W v h => by have := H.par v _ f.length W h; rw [show byP ps0 pd0 pt0 pn0 px0 = pkB ps0 pd0 pt0 pn0 px0 from if_pos hA] at this ⊢; rw [pkPF_fwd hA] at this; rw [pkB_len]; exact this)
      · exact case_on H ps0 pd0 pt0 pn0 px0 f m a1 b o cap1 cap2 w b1 b2 (by omega) (by omega) (by omega) s d t n x T' (byP s d t n x) h3 hT hc (by rw [byP, if_pos hq]; exact hS.symm) (byP ps0 pd0 pt0 pn0 px0) (byP_len ps0 pd0 pt0 pn0 px0) (by rw [byP, if_neg hA]; rfl) (pkR (pkPF (f ++ (byP ps0 pd0 pt0 pn0 px0 ++ m)) f.length)).1 (pkR (pkPF (f ++ (byP ps0 pd0 pt0 pn0 px0 ++ m)) f.length)).2.1 (pkR (pkPF (f ++ (byP ps0 pd0 pt0 pn0 px0 ++ m)) f.length)).2.2.1 (pkR (pkPF (f ++ (byP ps0 pd0 pt0 pn0 px0 ++ m)) f.length)).2.2.2.1 (pkR (pkPF (f ++ (byP ps0 pd0 pt0 pn0 px0 ++ m)) f.length)).2.2.2.2 (pkT (pkPF (f ++ (byP ps0 pd0 pt0 pn0 px0 ++ m)) f.length)) (pkE (pkPF (f ++ (byP ps0 pd0 pt0 pn0 px0 ++ m)) f.length))
          (fun W h => by have := H.par _ m 0 W h; rw [hp] at this; exact this)
          (fun W => by have := H.byt s d t n x W (by have := hq.2.2.2.2; omega); rw [show kP s d t n x = 0 from if_pos hq] at this; exact this)
          (fun W => by have := H.byt ps0 pd0 pt0 pn0 px0 W (by omega); rw [show kP ps0 pd0 pt0 pn0 px0 = 1 from if_neg hA] at this; exact this)
          (fun W v h => H.par v _ f.length W h)
  · by_cases hA : PkOk ps0 pd0 pt0 pn0 px0
    · exact case_eo H ps0 pd0 pt0 pn0 px0 f m a1 a2 cap1 cap2 w b1 b2 (by omega) (by omega) (by omega) _ _ _ _ _ (pkT (pkPF m 0)) (pkE (pkPF m 0)) (kP (pkR (pkPF m 0)).1 (pkR (pkPF m 0)).2.1 (pkR (pkPF m 0)).2.2.1 (pkR (pkPF m 0)).2.2.2.1 (pkR (pkPF m 0)).2.2.2.2) (byP (pkR (pkPF m 0)).1 (pkR (pkPF m 0)).2.1 (pkR (pkPF m 0)).2.2.1 (pkR (pkPF m 0)).2.2.2.1 (pkR (pkPF m 0)).2.2.2.2) he (byP ps0 pd0 pt0 pn0 px0) (byP_len ps0 pd0 pt0 pn0 px0) (by rw [byP, if_pos hA]; exact pkB_len ps0 pd0 pt0 pn0 px0)
        (fun W h => H.par _ m 0 W h)
        (fun W => H.byt _ _ _ _ _ W (Nat.le_trans pk_size (by decide)))
        (fun W => by have := H.byt ps0 pd0 pt0 pn0 px0 W (by omega); rw [show kP ps0 pd0 pt0 pn0 px0 = 0 from if_pos hA] at this; exact this)
        (fun W v h => by have := H.par v _ f.length W h; rw [show byP ps0 pd0 pt0 pn0 px0 = pkB ps0 pd0 pt0 pn0 px0 from if_pos hA] at this ⊢; rw [pkPF_fwd hA] at this; rw [pkB_len]; exact this)
    · exact case_en H ps0 pd0 pt0 pn0 px0 f m a1 a2 cap1 cap2 w b1 b2 (by omega) (by omega) (by omega) _ _ _ _ _ (pkT (pkPF m 0)) (pkE (pkPF m 0)) (kP (pkR (pkPF m 0)).1 (pkR (pkPF m 0)).2.1 (pkR (pkPF m 0)).2.2.1 (pkR (pkPF m 0)).2.2.2.1 (pkR (pkPF m 0)).2.2.2.2) (byP (pkR (pkPF m 0)).1 (pkR (pkPF m 0)).2.1 (pkR (pkPF m 0)).2.2.1 (pkR (pkPF m 0)).2.2.2.1 (pkR (pkPF m 0)).2.2.2.2) he (byP ps0 pd0 pt0 pn0 px0) (byP_len ps0 pd0 pt0 pn0 px0) (by rw [byP, if_neg hA]; rfl) (pkR (pkPF (f ++ (byP ps0 pd0 pt0 pn0 px0 ++ m)) f.length)).1 (pkR (pkPF (f ++ (byP ps0 pd0 pt0 pn0 px0 ++ m)) f.length)).2.1 (pkR (pkPF (f ++ (byP ps0 pd0 pt0 pn0 px0 ++ m)) f.length)).2.2.1 (pkR (pkPF (f ++ (byP ps0 pd0 pt0 pn0 px0 ++ m)) f.length)).2.2.2.1 (pkR (pkPF (f ++ (byP ps0 pd0 pt0 pn0 px0 ++ m)) f.length)).2.2.2.2 (pkT (pkPF (f ++ (byP ps0 pd0 pt0 pn0 px0 ++ m)) f.length)) (pkE (pkPF (f ++ (byP ps0 pd0 pt0 pn0 px0 ++ m)) f.length))
        (fun W h => H.par _ m 0 W h)
        (fun W => H.byt _ _ _ _ _ W (Nat.le_trans pk_size (by decide)))
        (fun W => by have := H.byt ps0 pd0 pt0 pn0 px0 W (by omega); rw [show kP ps0 pd0 pt0 pn0 px0 = 1 from if_neg hA] at this; exact this)
        (fun W v h => H.par v _ f.length W h)

set_option maxRecDepth 100000 in
theorem lifted (os : _root_.Go.Os) (started : os.Started) (H : Type) (enc : TypeId × Value → H) :
    ReturnsInHanded {} Try.checked os 5 .any (Rows.packetBackSpec.pre6 enc Try.prog Try.f5 Rows.packetBackRow.domain false) (Rows.packetBackSpec.post enc Try.prog Try.f5 false true false false) := by
  refine returnsInHanded_of_change (C := Try.checked) own started (by kernel_rfl) Try.func5
    (ChangeSpec.witness6 (enc := enc) (C := Try.checked) false ⟨#[], #[.agg #[.int .i64 0, .int .i64 0, .int .i64 0, .int .i64 0, .string ⟨#[]⟩], .slice none 0 0, .slice none 0 0], []⟩ 16 (by kernel_rfl) (by kernel_rfl) (by kernel_rfl) (by kernel_rfl)) ?_
  intro W base args ds gs before hval0 hW hcnd _
  have hval : ∀ (j : Nat) t v, Try.f5.params[j]? = some t → args[j]? = some v → Value.okWide Try.prog W .any base t v := hval0
  have hW' := hW
  obtain ⟨p, q, hA0, hV, rfl, hfz, hnd⟩ := hW
  have hA : DataW.TrodAll enc Try.prog W 0 (fun _ => true) true Try.f5.params.toList args.toList ds p := hA0
  rw [Try.params5] at hA hval
  obtain ⟨v0, vs0, e0, ds0, p0, q0, hargs, rfl, rfl, h0, x0⟩ := trodAll_cons hA
  obtain ⟨v1, vs1, e1, ds1, p1, q1, rfl, rfl, rfl, h1, x1⟩ := trodAll_cons x0
  obtain ⟨v2, vs2, e2, ds2, p2, q2, rfl, rfl, rfl, h2, x2⟩ := trodAll_cons x1
  obtain ⟨rfl, rfl, rfl⟩ := trodAll_nil x2
  obtain rfl : args = #[v0, v1, v2] := by cases args; simp_all
  obtain ⟨rfl, rfl⟩ := trodVars_none hV
  have k0 := h0
  have lt0 : ∀ x ∈ p0, x.block < W.heap.size := by obtain ⟨m, hm⟩ := k0; exact DataW.trod_lt m _ _ _ hm
  obtain ⟨ps0, pd0, pt0, pn0, px0, rfl, _, _⟩ := pk_form (hval 0 23 v0 rfl rfl) h0
  have k1 := h1
  have lt1 : ∀ x ∈ p1, x.block < W.heap.size := by obtain ⟨m, hm⟩ := k1; exact DataW.trod_lt m _ _ _ hm
  obtain ⟨a1, len1, cap1, rfl⟩ := okWide_slice Try.underlying24 (hval 1 24 v1 rfl rfl)
  obtain ⟨z1, w1⟩ : ∃ zs, IsRow .u8 W a1 len1 cap1 zs := by
    obtain ⟨fuel, hf⟩ := h1
    rcases open_ints Try.underlying24 Try.underlying5 (by kernel_rfl) hf with ⟨hcs, _⟩ | ⟨x, l, c, zs, hcs, _, hl, hm, hz, _, hcell, hwz⟩
    · simp [Value.cells] at hcs
      obtain ⟨rfl, rfl, rfl⟩ := hcs
      exact ⟨[], .inl ⟨rfl, rfl, rfl, rfl⟩⟩
    · simp [Value.cells] at hcs
      obtain ⟨rfl, rfl, rfl⟩ := hcs
      exact ⟨zs, .inr ⟨_, rfl, hl, hm, by simpa using hz, hcell, hwz⟩⟩
  have k2 := h2
  have lt2 : ∀ x ∈ p2, x.block < W.heap.size := by obtain ⟨m, hm⟩ := k2; exact DataW.trod_lt m _ _ _ hm
  obtain ⟨a2, len2, cap2, rfl⟩ := okWide_slice Try.underlying24 (hval 2 24 v2 rfl rfl)
  obtain ⟨z2, w2⟩ : ∃ zs, IsRow .u8 W a2 len2 cap2 zs := by
    obtain ⟨fuel, hf⟩ := h2
    rcases open_ints Try.underlying24 Try.underlying5 (by kernel_rfl) hf with ⟨hcs, _⟩ | ⟨x, l, c, zs, hcs, _, hl, hm, hz, _, hcell, hwz⟩
    · simp [Value.cells] at hcs
      obtain ⟨rfl, rfl, rfl⟩ := hcs
      exact ⟨[], .inl ⟨rfl, rfl, rfl, rfl⟩⟩
    · simp [Value.cells] at hcs
      obtain ⟨rfl, rfl, rfl⟩ := hcs
      exact ⟨zs, .inr ⟨_, rfl, hl, hm, by simpa using hz, hcell, hwz⟩⟩
  clear hA0 hval0
  refine (walk pc ps0 pd0 pt0 pn0 px0 a1 len1 cap1 z1 a2 len2 cap2 z2 W w1 w2).mono fun e W' ⟨he, bel⟩ => ?_
  subst he
  exact ⟨_, rfl, _, _, _, [], _, [], hW', trodAll_mk1 (shut_bool Try.underlying4 _), (trodAll_cons_mk (Below.trod laidOut (by kernel_rfl) (of_decide_eq_true (by kernel_rfl)) k0 bel lt0) (trodAll_cons_mk (Below.trod laidOut (by kernel_rfl) (of_decide_eq_true (by kernel_rfl)) k1 bel lt1) (trodAll_cons_mk (Below.trod laidOut (by kernel_rfl) (of_decide_eq_true (by kernel_rfl)) k2 bel lt2) trodAll_mk0))), rfl, bel.frame _, fun h => by cases h⟩

theorem over : Rows.packetBackRow.holds Try.pinned (OpenSpec.ofChange Rows.packetBackSpec) :=
  OpenClaim.holds_of_wide 5 Try.f5 rfl rfl rfl rfl rfl rfl rfl ⟨rfl, rfl, rfl, rfl, rfl⟩ rfl rfl rfl rfl rfl (by kernel_rfl) Try.func5 (by kernel_rfl)
    (of_decide_eq_true (by kernel_rfl)) (by unfold Func.isWrapper; first | (rw [if_pos (by decide +kernel)]; kernel_rfl) | (rw [if_neg (by decide +kernel)]; exact ⟨rfl, rfl⟩))
    (fun os started H enc _ => lifted os started H enc)

theorem proved : Rows.PacketBackSaid := over
#print axioms proved
end Go.Proofs.Yteleedpiadcfjaa.packetBack
