/- The reference's views: which order they are listed in. No conditions but on lengths. -/
import Derived.Test.YtahhhegknmiinaaVrl
namespace Go.Proofs.Ytahhhegknmiinaa
set_option maxRecDepth 100000
open Go.RowKit

theorem infoI : (Try.prog.info? 3).map (fun i => (i.zero, i.size, i.bytes)) = some (some (.int .i64 0), 1, 8) := by kernel_rfl
theorem underIS : Try.prog.underlying 44 = some (.slice 3) := by kernel_rfl
theorem cellsI : Try.prog.cellsOf 3 = 1 := by kernel_rfl
noncomputable def RI : RowT where
  α := Int
  d := 0
  cl := fun x => [.int .i64 x]
  K := 1
  T := 3
  SL := 44
  zero := .int .i64 0
  bytes := 8
  hcl := fun _ => rfl
  hK := by decide
  hone := fun y u hu => by
    simp only [List.mem_cons, List.not_mem_nil, or_false] at hu
    rcases hu with rfl
    rfl
  hSL := underIS
  hinfo := infoI
  hz := rfl
  hb := by decide
  hc := cellsI
def OwI (w : World) (S : Nat) (v : Value) (l : List Int) : Prop := w.ownsRow S RI.T RI.K v l.length (gflat RI l)
theorem OwI_nil (w : World) (S : Nat) : OwI w S (.slice none 0 0) [] := gown_nil (R := RI) w S
theorem OwI.below {w w' : World} {S : Nat} {v : Value} {l : List Int} (h : OwI w S v l) (hb : Below w.heap.size w w') : OwI w' S v l := gown_below h hb
theorem OwI.mono {w : World} {S S' : Nat} {v : Value} {l : List Int} (h : OwI w S v l) (hS : S' ≤ S) : OwI w S' v l := gown_mono h hS
theorem OwI.form {w : World} {S : Nat} {v : Value} {l : List Int} (h : OwI w S v l) : ∃ a c, v = .slice a l.length c := gown_form h
theorem OwI.zs {w : World} {S : Nat} {v : Value} {l : List Int} (h : OwI w S v l) (hl : l.length ≤ 4000) : Zs w v l := by
  refine ⟨by omega, ?_⟩
  rcases (Gs_of_own (R := RI) h).1 with ⟨a, cap, h1, h2, h3⟩ | ⟨b, off, cap, h1, h2, h3, h4⟩
  · exact .inl ⟨a, cap, h1, h2, h3⟩
  · refine .inr ⟨b, off, cap, h1, h2, fun i hi => ?_⟩
    have h5 := h4 i hi 0 (show 0 < 1 by decide)
    have e : off + i * RI.K + 0 = off + i := by show off + i * 1 + 0 = off + i; omega
    rw [e] at h5
    exact h5
theorem iapp1_any {ops : Array Oper} {rest : List Oper} {o : Oper} {a : Act} {Q : Exit → Act → World → Prop} {W : World} (hgd : o.guard = none) (s x : Operand)
    (ho : o.op = .call { callee := .builtin .append, args := #[s, x], argTypes := #[44, 44] }) (w : World) (y : Int) (hW : W = w.alloc (.cells #[.int .i64 y] 3)) (S : Nat) (v : Value) (xs : List Int)
    (hs : a.eval s = v) (hx : a.eval x = .slice (some ⟨w.heap.size, 0, none⟩) 1 1) (hown : OwI w S v xs) (hl : xs.length ≤ 3000) (hS : S ≤ w.heap.size)
    (h : ∀ g cap w', OwI w' S (.slice (some ⟨g, 0, none⟩) (xs.length + 1) cap) (xs ++ [y]) → Below S w w' → wpList Try.prog ops Q rest (a.put o.dst (.slice (some ⟨g, 0, none⟩) (xs.length + 1) cap)) w') : wpList Try.prog ops Q (o :: rest) a W :=
  gapp1_any (R := RI) hgd s x ho w y 3 hW S v xs hs hx hown hl hS h
/-- A view put ahead of the first one that it is less than. -/
def in1 (y : Vw) (acc : List Vw × Bool) (x : Vw) : List Vw × Bool := if acc.2 = false ∧ lsx y.2 x.2 = true then (acc.1 ++ [y], true) else acc
def inS (y : Vw) (acc : List Vw × Bool) (x : Vw) : List Vw × Bool := ((in1 y acc x).1 ++ [x], (in1 y acc x).2)
def inF (y : Vw) (r : List Vw × Bool) : List Vw := if r.2 = true then r.1 else r.1 ++ [y]
def insO (y : Vw) (xs : List Vw) : List Vw := inF y (xs.foldl (inS y) ([], false))
def vordL (l : List Vw) : List Vw := l.foldl (fun xs y => insO y xs) []
theorem inS_len (y : Vw) (acc : List Vw × Bool) (x : Vw) (n : Nat) (hn : acc.1.length = n + acc.2.toNat) : (inS y acc x).1.length = n + 1 + (inS y acc x).2.toNat := by
  unfold inS in1
  by_cases h1 : acc.2 = false ∧ lsx y.2 x.2 = true
  · simp only [if_pos h1, List.length_append, List.length_cons, List.length_nil, Bool.toNat_true]
    rw [h1.1] at hn
    simp only [Bool.toNat_false, Nat.add_zero] at hn
    omega
  · simp only [if_neg h1, List.length_append, List.length_cons, List.length_nil]
    omega
theorem infold_len (y : Vw) (xs : List Vw) (acc : List Vw × Bool) (n : Nat) (hn : acc.1.length = n + acc.2.toNat) : (xs.foldl (inS y) acc).1.length = n + xs.length + (xs.foldl (inS y) acc).2.toNat := by
  induction xs generalizing acc n with
  | nil => exact hn
  | cons x r ih =>
    have := ih (inS y acc x) (n + 1) (inS_len y acc x n hn)
    rw [List.foldl_cons, List.length_cons]
    omega
theorem insO_len (y : Vw) (xs : List Vw) : (insO y xs).length = xs.length + 1 := by
  have h1 := infold_len y xs ([], false) 0 rfl
  unfold insO inF
  cases h2 : (xs.foldl (inS y) ([], false)).2 with
  | true =>
    rw [if_pos rfl]
    rw [h2] at h1
    simp only [Bool.toNat_true] at h1
    omega
  | false =>
    rw [if_neg (by simp), List.length_append]
    rw [h2] at h1
    simp only [Bool.toNat_false] at h1
    simp only [List.length_cons, List.length_nil]
    omega
theorem vord_step (l : List Vw) (k : Nat) (h : k < l.length) : vordL (l.take (k + 1)) = insO (l.getD k zVw) (vordL (l.take k)) := by
  rw [vtake_succ l k h]
  unfold vordL
  rw [List.foldl_append]
  rfl
theorem vord_len (l : List Vw) (k : Nat) (h : k ≤ l.length) : (vordL (l.take k)).length = k := by
  induction k with
  | zero => rfl
  | succ k ih => rw [vord_step l k h, insO_len, ih (by omega)]
set_option maxHeartbeats 4000000 in
theorem rvord_any (v : Value) (l : List Vw) (w : World) (hv : Vs w v l) (hl : l.length ≤ 1000) :
    Calls Try.prog 42 #[v] w fun e w' => (∃ a c, e = .returned (.slice a ((vordL l).map (·.1)).length c) ∧ OwI w' w.heap.size (.slice a ((vordL l).map (·.1)).length c) ((vordL l).map (·.1))) ∧ Below w.heap.size w w' := by
  obtain ⟨a, c, rfl⟩ := hv.form
  have HV := Lib.hid hv
  clear hv
  go_enter Try.func42, Try.ntmps42
  go_wp2_with fail
  go_loopw [3, 4] (fun ov i wr => ∃ (k : Nat) (ax : Option Addr) (cx : Nat) (xs : List Vw), k ≤ l.length ∧ i = .int .i64 k ∧ ov = .slice ax xs.length cx ∧ Hid (vordL (l.take k) = xs) ∧ Hid (OwV wr w.heap.size (.slice ax xs.length cx) xs) ∧ Hid (Below w.heap.size w wr)) (fun _ i _ => l.length - (intOf i).toNat)
  case atStart => exact ⟨0, none, 0, [], Nat.zero_le _, rfl, rfl, rfl, OwV_nil w _, Below.refl _ _⟩
  case round =>
    obtain ⟨k, ax, cx, xs, hk, rfl, rfl, HF, HO, HBO⟩ := hrel
    obtain ⟨wo, hwo⟩ : ∃ wo, wo = wr := ⟨_, rfl⟩
    subst hwo
    have hxl : xs.length ≤ 1000 := by
      have := vord_len l k hk
      rw [HF.out] at this
      omega
    by_cases hlt : k < l.length
    · have hst := vord_step l k hlt
      rw [HF.out] at hst
      obtain ⟨b2, off, rfl⟩ : ∃ b2 off, a = some ⟨b2, off, none⟩ := by
        obtain ⟨b2, off, h, _⟩ := HV.out.at hlt
        exact ⟨b2, off, h⟩
      have HVO := Lib.hid (HV.out.below HBO.out)
      obtain ⟨y, hy⟩ : ∃ y, l.getD k zVw = y := ⟨_, rfl⟩
      rw [hy] at hst
      have HY := Lib.hid hy
      have HINS := Lib.hid hst
      clear hy hst
      go_wp2_with fail
      go_loopw [5, 6, 7] (fun mv dv iv wr => ∃ (j : Nat) (am : Option Addr) (cm : Nat) (ms : List Vw) (dn : Bool), j ≤ xs.length ∧ iv = .int .i64 j ∧ mv = .slice am ms.length cm ∧ dv = .bool dn ∧ Hid ((xs.take j).foldl (inS y) ([], false) = (ms, dn)) ∧ Hid (OwV wr wo.heap.size (.slice am ms.length cm) ms) ∧ Hid (Below wo.heap.size wo wr)) (fun _ _ iv _ => xs.length - (intOf iv).toNat)
      case atStart => exact ⟨0, none, 0, [], false, Nat.zero_le _, rfl, rfl, rfl, rfl, OwV_nil wo _, Below.refl _ _⟩
      case round =>
        obtain ⟨j, am, cm, ms, dn, hj, rfl, rfl, rfl, HG, HM, HB⟩ := hrel
        have hml : ms.length ≤ 1001 := by
          have h1 := infold_len y (xs.take j) ([], false) 0 rfl
          rw [HG.out, List.length_take] at h1
          have h2 : dn.toNat ≤ 1 := Bool.toNat_le dn
          simp only at h1
          omega
        by_cases hjt : j < xs.length
        · obtain ⟨b3, off3, rfl⟩ : ∃ b3 off3, ax = some ⟨b3, off3, none⟩ := by
            obtain ⟨b3, off3, h, _⟩ := HO.out.vs.at hjt
            exact ⟨b3, off3, h⟩
          have HOX := Lib.hid HO.out
          obtain ⟨x, hx⟩ : ∃ x, xs.getD j zVw = x := ⟨_, rfl⟩
          have hstep : (xs.take (j + 1)).foldl (inS y) ([], false) = inS y (ms, dn) x := by
            rw [vtake_succ xs j hjt, List.foldl_append, HG.out, hx]
            rfl
          have HX := Lib.hid hx
          clear hx
          have kc : ∀ w', Below wr.heap.size wr w' → C7 w' b2 (off + k * 7) y ∧ C7 w' b3 (off3 + j * 7) x := fun w' hb => by
            have h1 := (HVO.out.below (HB.out.trans (hb.mono HB.out.size))).all hlt
            have h2 := (HOX.out.below (HB.out.trans (hb.mono HB.out.size))).vs.all hjt
            rw [HY.out] at h1
            rw [HX.out] at h2
            exact ⟨h1.2, h2.2⟩
          simp only [C7] at kc
          cases dn with
          | true =>
            have HST : Hid ((xs.take (j + 1)).foldl (inS y) ([], false) = (ms ++ [x], true)) := by
              show _ = _
              rw [hstep]
              simp [inS, in1]
            clear hstep
            go_upto_region 10 with (fail)
            refine wp_region_typed (C := fun w' => Below wr.heap.size wr w') (X := fun w w' => Below w.heap.size w w') (n := 76) (by kernel_rfl) (by kernel_rfl) rfl (fun w => Below.refl _ w) (Below.refl _ _).drew ?_
            refine w_is (fun w => Below.refl _ w) _ (.inl rfl) (fun ρ w hC hc hfn hf => by have e6 : ρ (.tmp 6) = _ := hf 6 (by decide); (conv => lhs; simp [execOp, go_sem, hc, e6])) ?_
            refine w_is (fun w => Below.refl _ w) _ (.inl rfl) (fun ρ w hC hc hfn hf => by have e22 : ρ (.tmp 22) = _ := hf 22 (by decide); (conv => lhs; simp [execOp, go_sem, hc, e22])) ?_
            refine w_is (fun w => Below.refl _ w) _ (.inl rfl) (fun ρ w hC hc hfn hf => by have e23 : ρ (.tmp 23) = _ := hf 23 (by decide); (conv => lhs; simp [execOp, go_sem, hc, e23])) ?_
            refine w_skip rfl rfl (known_is rfl) ?_
            refine w_skip rfl rfl (known_is rfl) ?_
            refine w_skip rfl rfl (known_is rfl) ?_
            refine w_skip rfl rfl (known_is rfl) ?_
            refine w_skip rfl rfl (known_is rfl) ?_
            refine w_skip rfl rfl (known_is rfl) ?_
            refine w_skip rfl rfl (known_is rfl) ?_
            refine w_skip rfl rfl (known_is rfl) ?_
            refine w_skip rfl rfl (known_is rfl) ?_
            refine w_skip rfl rfl (known_is rfl) ?_
            refine w_skip rfl rfl (known_is rfl) ?_
            refine w_is (fun w => Below.refl _ w) _ (.inl rfl) (fun ρ w hC hc hfn hf => by have e24 : ρ (.tmp 24) = _ := hf 24 (by decide); have e35 : ρ (.tmp 35) = _ := hf 35 (by decide); (conv => lhs; simp [execOp, go_sem, hc, e24, e35])) ?_
            intro A V5 hC hn hd hf
            have y0 : A.eval (.tmp 0) = _ := Eq.trans (hf 0) (by conv => lhs; simp [go_sem])
            have y1 : A.eval (.tmp 1) = _ := Eq.trans (hf 1) (by conv => lhs; simp [go_sem])
            have y2 : A.eval (.tmp 2) = _ := Eq.trans (hf 2) (by conv => lhs; simp [go_sem])
            have y3 : A.eval (.tmp 3) = _ := Eq.trans (hf 3) (by conv => lhs; simp [go_sem])
            have y4 : A.eval (.tmp 4) = _ := Eq.trans (hf 4) (by conv => lhs; simp [go_sem])
            have y5 : A.eval (.tmp 5) = _ := Eq.trans (hf 5) (by conv => lhs; simp [go_sem])
            have y6 : A.eval (.tmp 6) = _ := Eq.trans (hf 6) (by conv => lhs; simp [go_sem])
            have y7 : A.eval (.tmp 7) = _ := Eq.trans (hf 7) (by conv => lhs; simp [go_sem])
            have y8 : A.eval (.tmp 8) = _ := Eq.trans (hf 8) (by conv => lhs; simp [go_sem])
            have y9 : A.eval (.tmp 9) = _ := Eq.trans (hf 9) (by conv => lhs; simp [go_sem])
            have y10 : A.eval (.tmp 10) = _ := Eq.trans (hf 10) (by conv => lhs; simp [go_sem])
            have y11 : A.eval (.tmp 11) = _ := Eq.trans (hf 11) (by conv => lhs; simp [go_sem])
            have y12 : A.eval (.tmp 12) = _ := Eq.trans (hf 12) (by conv => lhs; simp [go_sem])
            have y13 : A.eval (.tmp 13) = _ := Eq.trans (hf 13) (by conv => lhs; simp [go_sem])
            have y14 : A.eval (.tmp 14) = _ := Eq.trans (hf 14) (by conv => lhs; simp [go_sem])
            have y15 : A.eval (.tmp 15) = _ := Eq.trans (hf 15) (by conv => lhs; simp [go_sem])
            have y16 : A.eval (.tmp 16) = _ := Eq.trans (hf 16) (by conv => lhs; simp [go_sem])
            have y17 : A.eval (.tmp 17) = _ := Eq.trans (hf 17) (by conv => lhs; simp [go_sem])
            have y18 : A.eval (.tmp 18) = _ := Eq.trans (hf 18) (by conv => lhs; simp [go_sem])
            have y19 : A.eval (.tmp 19) = _ := Eq.trans (hf 19) (by conv => lhs; simp [go_sem])
            have y20 : A.eval (.tmp 20) = _ := Eq.trans (hf 20) (by conv => lhs; simp [go_sem])
            have y21 : A.eval (.tmp 21) = _ := Eq.trans (hf 21) (by conv => lhs; simp [go_sem])
            have y22 : A.eval (.tmp 22) = _ := hf 22
            have y23 : A.eval (.tmp 23) = _ := hf 23
            have y24 : A.eval (.tmp 24) = _ := hf 24
            have y25 : A.eval (.tmp 25) = _ := hf 25
            have y26 : A.eval (.tmp 26) = _ := hf 26
            have y27 : A.eval (.tmp 27) = _ := hf 27
            have y28 : A.eval (.tmp 28) = _ := hf 28
            have y29 : A.eval (.tmp 29) = _ := hf 29
            have y30 : A.eval (.tmp 30) = _ := hf 30
            have y31 : A.eval (.tmp 31) = _ := hf 31
            have y32 : A.eval (.tmp 32) = _ := hf 32
            have y33 : A.eval (.tmp 33) = _ := hf 33
            have y34 : A.eval (.tmp 34) = _ := hf 34
            have y35 : A.eval (.tmp 35) = _ := hf 35
            have y36 : A.eval (.tmp 36) = _ := hf 36
            have y37 : A.eval (.tmp 37) = _ := Eq.trans (hf 37) (by conv => lhs; simp [go_sem])
            have y38 : A.eval (.tmp 38) = _ := Eq.trans (hf 38) (by conv => lhs; simp [go_sem])
            have y39 : A.eval (.tmp 39) = _ := Eq.trans (hf 39) (by conv => lhs; simp [go_sem])
            have y40 : A.eval (.tmp 40) = _ := Eq.trans (hf 40) (by conv => lhs; simp [go_sem])
            have y41 : A.eval (.tmp 41) = _ := Eq.trans (hf 41) (by conv => lhs; simp [go_sem])
            have y42 : A.eval (.tmp 42) = _ := Eq.trans (hf 42) (by conv => lhs; simp [go_sem])
            have y43 : A.eval (.tmp 43) = _ := Eq.trans (hf 43) (by conv => lhs; simp [go_sem])
            have y44 : A.eval (.tmp 44) = _ := Eq.trans (hf 44) (by conv => lhs; simp [go_sem])
            have y45 : A.eval (.tmp 45) = _ := Eq.trans (hf 45) (by conv => lhs; simp [go_sem])
            have y46 : A.eval (.tmp 46) = _ := Eq.trans (hf 46) (by conv => lhs; simp [go_sem])
            have y47 : A.eval (.tmp 47) = _ := Eq.trans (hf 47) (by conv => lhs; simp [go_sem])
            have y48 : A.eval (.tmp 48) = _ := Eq.trans (hf 48) (by conv => lhs; simp [go_sem])
            have y49 : A.eval (.tmp 49) = _ := Eq.trans (hf 49) (by conv => lhs; simp [go_sem])
            have y50 : A.eval (.tmp 50) = _ := Eq.trans (hf 50) (by conv => lhs; simp [go_sem])
            have y51 : A.eval (.tmp 51) = _ := Eq.trans (hf 51) (by conv => lhs; simp [go_sem])
            have y52 : A.eval (.tmp 52) = _ := Eq.trans (hf 52) (by conv => lhs; simp [go_sem])
            have y53 : A.eval (.tmp 53) = _ := Eq.trans (hf 53) (by conv => lhs; simp [go_sem])
            have y54 : A.eval (.tmp 54) = _ := Eq.trans (hf 54) (by conv => lhs; simp [go_sem])
            have y55 : A.eval (.tmp 55) = _ := Eq.trans (hf 55) (by conv => lhs; simp [go_sem])
            have y56 : A.eval (.tmp 56) = _ := Eq.trans (hf 56) (by conv => lhs; simp [go_sem])
            have y57 : A.eval (.tmp 57) = _ := Eq.trans (hf 57) (by conv => lhs; simp [go_sem])
            have y58 : A.eval (.tmp 58) = _ := Eq.trans (hf 58) (by conv => lhs; simp [go_sem])
            have y59 : A.eval (.tmp 59) = _ := Eq.trans (hf 59) (by conv => lhs; simp [go_sem])
            have y60 : A.eval (.tmp 60) = _ := Eq.trans (hf 60) (by conv => lhs; simp [go_sem])
            have y61 : A.eval (.tmp 61) = _ := Eq.trans (hf 61) (by conv => lhs; simp [go_sem])
            have y62 : A.eval (.tmp 62) = _ := Eq.trans (hf 62) (by conv => lhs; simp [go_sem])
            have y63 : A.eval (.tmp 63) = _ := Eq.trans (hf 63) (by conv => lhs; simp [go_sem])
            have y64 : A.eval (.tmp 64) = _ := Eq.trans (hf 64) (by conv => lhs; simp [go_sem])
            have y65 : A.eval (.tmp 65) = _ := Eq.trans (hf 65) (by conv => lhs; simp [go_sem])
            have y66 : A.eval (.tmp 66) = _ := Eq.trans (hf 66) (by conv => lhs; simp [go_sem])
            have y67 : A.eval (.tmp 67) = _ := Eq.trans (hf 67) (by conv => lhs; simp [go_sem])
            have y68 : A.eval (.tmp 68) = _ := Eq.trans (hf 68) (by conv => lhs; simp [go_sem])
            have y69 : A.eval (.tmp 69) = _ := Eq.trans (hf 69) (by conv => lhs; simp [go_sem])
            have y70 : A.eval (.tmp 70) = _ := Eq.trans (hf 70) (by conv => lhs; simp [go_sem])
            have y71 : A.eval (.tmp 71) = _ := Eq.trans (hf 71) (by conv => lhs; simp [go_sem])
            have y72 : A.eval (.tmp 72) = _ := Eq.trans (hf 72) (by conv => lhs; simp [go_sem])
            have y73 : A.eval (.tmp 73) = _ := Eq.trans (hf 73) (by conv => lhs; simp [go_sem])
            have y74 : A.eval (.tmp 74) = _ := Eq.trans (hf 74) (by conv => lhs; simp [go_sem])
            have y75 : A.eval (.tmp 75) = _ := Eq.trans (hf 75) (by conv => lhs; simp [go_sem])
            clear hf
            have hA := frame_eq hn
            rw [show List.range 76 = [0, 1, 2, 3, 4, 5, 6, 7, 8, 9, 10, 11, 12, 13, 14, 15, 16, 17, 18, 19, 20, 21, 22, 23, 24, 25, 26, 27, 28, 29, 30, 31, 32, 33, 34, 35, 36, 37, 38, 39, 40, 41, 42, 43, 44, 45, 46, 47, 48, 49, 50, 51, 52, 53, 54, 55, 56, 57, 58, 59, 60, 61, 62, 63, 64, 65, 66, 67, 68, 69, 70, 71, 72, 73, 74, 75] from rfl, hd] at hA
            simp only [List.map_cons, List.map_nil, y0, y1, y2, y3, y4, y5, y6, y7, y8, y9, y10, y11, y12, y13, y14, y15, y16, y17, y18, y19, y20, y21, y22, y23, y24, y25, y26, y27, y28, y29, y30, y31, y32, y33, y34, y35, y36, y37, y38, y39, y40, y41, y42, y43, y44, y45, y46, y47, y48, y49, y50, y51, y52, y53, y54, y55, y56, y57, y58, y59, y60, y61, y62, y63, y64, y65, y66, y67, y68, y69, y70, y71, y72, y73, y74, y75] at hA
            clear y0 y1 y2 y3 y4 y5 y6 y7 y8 y9 y10 y11 y12 y13 y14 y15 y16 y17 y18 y19 y20 y21 y22 y23 y24 y25 y26 y27 y28 y29 y30 y31 y32 y33 y34 y35 y36 y37 y38 y39 y40 y41 y42 y43 y44 y45 y46 y47 y48 y49 y50 y51 y52 y53 y54 y55 y56 y57 y58 y59 y60 y61 y62 y63 y64 y65 y66 y67 y68 y69 y70 y71 y72 y73 y74 y75
            clear hn hd
            subst hA
            have HB5 := Lib.hid (HB.out.trans (hC.mono HB.out.size))
            have HM5 := Lib.hid (HM.out.below hC)
            have HSW : Hid (wo.heap.size ≤ V5.heap.size) := HB5.out.size
            clear hC
            obtain ⟨hB8, p0, p1, p2, p3, p4, p5, p6⟩ := (HVO.out.below HB5.out).all hlt
            rw [HY.out] at p0 p1 p2 p3 p4 p5 p6
            obtain ⟨hB9, q0, q1, q2, q3, q4, q5, q6⟩ := (HOX.out.below HB5.out).vs.all hjt
            rw [HX.out] at q0 q1 q2 q3 q4 q5 q6
            have HLE1 : Hid (ms.length ≤ 3000) := by show _ ≤ _; omega
            go_wp2_with (at_builtin; refine vapp1_any rfl (.tmp 44) (.tmp 49) rfl V5 x rfl wo.heap.size (.slice am ms.length cm) ms rfl rfl HM5.out HLE1.out HSW.out ?_; intro g1 cap1 wa ho9 hb9; have HO1 := Lib.hid ho9; have HA1 := Lib.hid hb9; clear ho9 hb9)
            go_roundw
            case rel => exact ⟨j + 1, some ⟨g1, 0, none⟩, cap1, ms ++ [x], true, by omega, by go_num, by rw [List.length_append]; rfl, rfl, HST.out, by have h9 := HO1.out; rw [List.length_append]; exact h9, HB5.out.trans HA1.out⟩
            case measure => simp [intOf]; omega
          | false =>
            have cX := fun W => rless_any y.2.1 y.2.2.1 y.2.2.2.1 y.2.2.2.2.1 y.2.2.2.2.2.1 y.2.2.2.2.2.2 x.2.1 x.2.2.1 x.2.2.2.1 x.2.2.2.2.1 x.2.2.2.2.2.1 x.2.2.2.2.2.2 W
            cases g3 : lsx y.2 x.2 with
            | true =>
              rw [show lessB y.2.1 y.2.2.1 y.2.2.2.1 y.2.2.2.2.1 y.2.2.2.2.2.1 y.2.2.2.2.2.2 x.2.1 x.2.2.1 x.2.2.2.1 x.2.2.2.2.1 x.2.2.2.2.2.1 x.2.2.2.2.2.2 = true from g3] at cX
              have HST : Hid ((xs.take (j + 1)).foldl (inS y) ([], false) = (ms ++ [y] ++ [x], true)) := by
                show _ = _
                rw [hstep]
                simp [inS, in1, g3]
              clear hstep
              go_upto_region 10 with (fail)
              refine wp_region_typed (C := fun w' => Below wr.heap.size wr w') (X := fun w w' => Below w.heap.size w w') (n := 76) (by kernel_rfl) (by kernel_rfl) rfl (fun w => Below.refl _ w) (Below.refl _ _).drew ?_
              refine w_is (fun w => Below.refl _ w) _ (.inl rfl) (fun ρ w hC hc hfn hf => by have e6 : ρ (.tmp 6) = _ := hf 6 (by decide); (conv => lhs; simp [execOp, go_sem, hc, e6])) ?_
              refine w_is (fun w => Below.refl _ w) _ (.inl rfl) (fun ρ w hC hc hfn hf => by have e22 : ρ (.tmp 22) = _ := hf 22 (by decide); (conv => lhs; simp [execOp, go_sem, hc, e22])) ?_
              refine w_is (fun w => Below.refl _ w) _ (.inl rfl) (fun ρ w hC hc hfn hf => by have e23 : ρ (.tmp 23) = _ := hf 23 (by decide); (conv => lhs; simp [execOp, go_sem, hc, e23])) ?_
              refine w_is (fun w => Below.refl _ w) _ (.inr ⟨2, 24, true, rfl, rfl, known_is rfl⟩) (fun ρ w hC hc hfn hf => by have e0 : ρ (.tmp 0) = _ := hf 0 (by decide); (conv => lhs; simp [execOp, go_sem, hc, e0])) ?_
              refine w_is (fun w => Below.refl _ w) _ (.inr ⟨2, 24, true, rfl, rfl, known_is rfl⟩) (fun ρ w hC hc hfn hf => by have e4 : ρ (.tmp 4) = _ := hf 4 (by decide); (conv => lhs; simp [execOp, go_sem, hc, e4])) ?_
              refine w_is (fun w => Below.refl _ w) _ (.inr ⟨2, 24, true, rfl, rfl, known_is rfl⟩) (fun ρ w hC hc hfn hf => by have e25 : ρ (.tmp 25) = _ := hf 25 (by decide); have e26 : ρ (.tmp 26) = _ := hf 26 (by decide); (conv => lhs; simp [execOp, go_sem, hc, e25, e26, hlt])) ?_
              refine w_is (fun w => Below.refl _ w) _ (.inr ⟨2, 24, true, rfl, rfl, known_is rfl⟩) (fun ρ w hC hc hfn hf => by have e27 : ρ (.tmp 27) = _ := hf 27 (by decide); (conv => lhs; simp [execOp, go_sem, hc, e27])) ?_
              refine w_is (fun w => Below.refl _ w) _ (.inr ⟨2, 24, true, rfl, rfl, known_is rfl⟩) (fun ρ w hC hc hfn hf => by have e28 : ρ (.tmp 28) = _ := hf 28 (by decide); (conv => lhs; simp [execOp, go_sem, hc, e28, kc w hC])) ?_
              refine w_is (fun w => Below.refl _ w) _ (.inr ⟨2, 24, true, rfl, rfl, known_is rfl⟩) (fun ρ w hC hc hfn hf => by have e3 : ρ (.tmp 3) = _ := hf 3 (by decide); (conv => lhs; simp [execOp, go_sem, hc, e3])) ?_
              refine w_is (fun w => Below.refl _ w) _ (.inr ⟨2, 24, true, rfl, rfl, known_is rfl⟩) (fun ρ w hC hc hfn hf => by have e7 : ρ (.tmp 7) = _ := hf 7 (by decide); (conv => lhs; simp [execOp, go_sem, hc, e7])) ?_
              refine w_is (fun w => Below.refl _ w) _ (.inr ⟨2, 24, true, rfl, rfl, known_is rfl⟩) (fun ρ w hC hc hfn hf => by have e30 : ρ (.tmp 30) = _ := hf 30 (by decide); have e31 : ρ (.tmp 31) = _ := hf 31 (by decide); (conv => lhs; simp [execOp, go_sem, hc, e30, e31, hjt])) ?_
              refine w_is (fun w => Below.refl _ w) _ (.inr ⟨2, 24, true, rfl, rfl, known_is rfl⟩) (fun ρ w hC hc hfn hf => by have e32 : ρ (.tmp 32) = _ := hf 32 (by decide); (conv => lhs; simp [execOp, go_sem, hc, e32])) ?_
              refine w_is (fun w => Below.refl _ w) _ (.inr ⟨2, 24, true, rfl, rfl, known_is rfl⟩) (fun ρ w hC hc hfn hf => by have e33 : ρ (.tmp 33) = _ := hf 33 (by decide); (conv => lhs; simp [execOp, go_sem, hc, e33, kc w hC])) ?_
              refine w_call (Is _) (fun _ _ _ h _ => h) 39 (.inr ⟨2, 24, true, rfl, rfl, known_is rfl⟩) (fun ρ w hC hc hfn hf => by have e29 : ρ (.tmp 29) = _ := hf 29 (by decide); have e34 : ρ (.tmp 34) = _ := hf 34 (by decide); exact ⟨_, by (conv => lhs; simp [execOp, resolve, invoke, go_sem, hc, hfn, e29, e34]), tc_below hC (cX w)⟩) ?_
              refine w_is (fun w => Below.refl _ w) _ (.inl rfl) (fun ρ w hC hc hfn hf => by have e24 : ρ (.tmp 24) = _ := hf 24 (by decide); have e35 : ρ (.tmp 35) = _ := hf 35 (by decide); (conv => lhs; simp [execOp, go_sem, hc, e24, e35])) ?_
              intro A V5 hC hn hd hf
              have y0 : A.eval (.tmp 0) = _ := Eq.trans (hf 0) (by conv => lhs; simp [go_sem])
              have y1 : A.eval (.tmp 1) = _ := Eq.trans (hf 1) (by conv => lhs; simp [go_sem])
              have y2 : A.eval (.tmp 2) = _ := Eq.trans (hf 2) (by conv => lhs; simp [go_sem])
              have y3 : A.eval (.tmp 3) = _ := Eq.trans (hf 3) (by conv => lhs; simp [go_sem])
              have y4 : A.eval (.tmp 4) = _ := Eq.trans (hf 4) (by conv => lhs; simp [go_sem])
              have y5 : A.eval (.tmp 5) = _ := Eq.trans (hf 5) (by conv => lhs; simp [go_sem])
              have y6 : A.eval (.tmp 6) = _ := Eq.trans (hf 6) (by conv => lhs; simp [go_sem])
              have y7 : A.eval (.tmp 7) = _ := Eq.trans (hf 7) (by conv => lhs; simp [go_sem])
              have y8 : A.eval (.tmp 8) = _ := Eq.trans (hf 8) (by conv => lhs; simp [go_sem])
              have y9 : A.eval (.tmp 9) = _ := Eq.trans (hf 9) (by conv => lhs; simp [go_sem])
              have y10 : A.eval (.tmp 10) = _ := Eq.trans (hf 10) (by conv => lhs; simp [go_sem])
              have y11 : A.eval (.tmp 11) = _ := Eq.trans (hf 11) (by conv => lhs; simp [go_sem])
              have y12 : A.eval (.tmp 12) = _ := Eq.trans (hf 12) (by conv => lhs; simp [go_sem])
              have y13 : A.eval (.tmp 13) = _ := Eq.trans (hf 13) (by conv => lhs; simp [go_sem])
              have y14 : A.eval (.tmp 14) = _ := Eq.trans (hf 14) (by conv => lhs; simp [go_sem])
              have y15 : A.eval (.tmp 15) = _ := Eq.trans (hf 15) (by conv => lhs; simp [go_sem])
              have y16 : A.eval (.tmp 16) = _ := Eq.trans (hf 16) (by conv => lhs; simp [go_sem])
              have y17 : A.eval (.tmp 17) = _ := Eq.trans (hf 17) (by conv => lhs; simp [go_sem])
              have y18 : A.eval (.tmp 18) = _ := Eq.trans (hf 18) (by conv => lhs; simp [go_sem])
              have y19 : A.eval (.tmp 19) = _ := Eq.trans (hf 19) (by conv => lhs; simp [go_sem])
              have y20 : A.eval (.tmp 20) = _ := Eq.trans (hf 20) (by conv => lhs; simp [go_sem])
              have y21 : A.eval (.tmp 21) = _ := Eq.trans (hf 21) (by conv => lhs; simp [go_sem])
              have y22 : A.eval (.tmp 22) = _ := hf 22
              have y23 : A.eval (.tmp 23) = _ := hf 23
              have y24 : A.eval (.tmp 24) = _ := hf 24
              have y25 : A.eval (.tmp 25) = _ := hf 25
              have y26 : A.eval (.tmp 26) = _ := hf 26
              have y27 : A.eval (.tmp 27) = _ := hf 27
              have y28 : A.eval (.tmp 28) = _ := hf 28
              have y29 : A.eval (.tmp 29) = _ := hf 29
              have y30 : A.eval (.tmp 30) = _ := hf 30
              have y31 : A.eval (.tmp 31) = _ := hf 31
              have y32 : A.eval (.tmp 32) = _ := hf 32
              have y33 : A.eval (.tmp 33) = _ := hf 33
              have y34 : A.eval (.tmp 34) = _ := hf 34
              have y35 : A.eval (.tmp 35) = _ := hf 35
              have y36 : A.eval (.tmp 36) = _ := hf 36
              have y37 : A.eval (.tmp 37) = _ := Eq.trans (hf 37) (by conv => lhs; simp [go_sem])
              have y38 : A.eval (.tmp 38) = _ := Eq.trans (hf 38) (by conv => lhs; simp [go_sem])
              have y39 : A.eval (.tmp 39) = _ := Eq.trans (hf 39) (by conv => lhs; simp [go_sem])
              have y40 : A.eval (.tmp 40) = _ := Eq.trans (hf 40) (by conv => lhs; simp [go_sem])
              have y41 : A.eval (.tmp 41) = _ := Eq.trans (hf 41) (by conv => lhs; simp [go_sem])
              have y42 : A.eval (.tmp 42) = _ := Eq.trans (hf 42) (by conv => lhs; simp [go_sem])
              have y43 : A.eval (.tmp 43) = _ := Eq.trans (hf 43) (by conv => lhs; simp [go_sem])
              have y44 : A.eval (.tmp 44) = _ := Eq.trans (hf 44) (by conv => lhs; simp [go_sem])
              have y45 : A.eval (.tmp 45) = _ := Eq.trans (hf 45) (by conv => lhs; simp [go_sem])
              have y46 : A.eval (.tmp 46) = _ := Eq.trans (hf 46) (by conv => lhs; simp [go_sem])
              have y47 : A.eval (.tmp 47) = _ := Eq.trans (hf 47) (by conv => lhs; simp [go_sem])
              have y48 : A.eval (.tmp 48) = _ := Eq.trans (hf 48) (by conv => lhs; simp [go_sem])
              have y49 : A.eval (.tmp 49) = _ := Eq.trans (hf 49) (by conv => lhs; simp [go_sem])
              have y50 : A.eval (.tmp 50) = _ := Eq.trans (hf 50) (by conv => lhs; simp [go_sem])
              have y51 : A.eval (.tmp 51) = _ := Eq.trans (hf 51) (by conv => lhs; simp [go_sem])
              have y52 : A.eval (.tmp 52) = _ := Eq.trans (hf 52) (by conv => lhs; simp [go_sem])
              have y53 : A.eval (.tmp 53) = _ := Eq.trans (hf 53) (by conv => lhs; simp [go_sem])
              have y54 : A.eval (.tmp 54) = _ := Eq.trans (hf 54) (by conv => lhs; simp [go_sem])
              have y55 : A.eval (.tmp 55) = _ := Eq.trans (hf 55) (by conv => lhs; simp [go_sem])
              have y56 : A.eval (.tmp 56) = _ := Eq.trans (hf 56) (by conv => lhs; simp [go_sem])
              have y57 : A.eval (.tmp 57) = _ := Eq.trans (hf 57) (by conv => lhs; simp [go_sem])
              have y58 : A.eval (.tmp 58) = _ := Eq.trans (hf 58) (by conv => lhs; simp [go_sem])
              have y59 : A.eval (.tmp 59) = _ := Eq.trans (hf 59) (by conv => lhs; simp [go_sem])
              have y60 : A.eval (.tmp 60) = _ := Eq.trans (hf 60) (by conv => lhs; simp [go_sem])
              have y61 : A.eval (.tmp 61) = _ := Eq.trans (hf 61) (by conv => lhs; simp [go_sem])
              have y62 : A.eval (.tmp 62) = _ := Eq.trans (hf 62) (by conv => lhs; simp [go_sem])
              have y63 : A.eval (.tmp 63) = _ := Eq.trans (hf 63) (by conv => lhs; simp [go_sem])
              have y64 : A.eval (.tmp 64) = _ := Eq.trans (hf 64) (by conv => lhs; simp [go_sem])
              have y65 : A.eval (.tmp 65) = _ := Eq.trans (hf 65) (by conv => lhs; simp [go_sem])
              have y66 : A.eval (.tmp 66) = _ := Eq.trans (hf 66) (by conv => lhs; simp [go_sem])
              have y67 : A.eval (.tmp 67) = _ := Eq.trans (hf 67) (by conv => lhs; simp [go_sem])
              have y68 : A.eval (.tmp 68) = _ := Eq.trans (hf 68) (by conv => lhs; simp [go_sem])
              have y69 : A.eval (.tmp 69) = _ := Eq.trans (hf 69) (by conv => lhs; simp [go_sem])
              have y70 : A.eval (.tmp 70) = _ := Eq.trans (hf 70) (by conv => lhs; simp [go_sem])
              have y71 : A.eval (.tmp 71) = _ := Eq.trans (hf 71) (by conv => lhs; simp [go_sem])
              have y72 : A.eval (.tmp 72) = _ := Eq.trans (hf 72) (by conv => lhs; simp [go_sem])
              have y73 : A.eval (.tmp 73) = _ := Eq.trans (hf 73) (by conv => lhs; simp [go_sem])
              have y74 : A.eval (.tmp 74) = _ := Eq.trans (hf 74) (by conv => lhs; simp [go_sem])
              have y75 : A.eval (.tmp 75) = _ := Eq.trans (hf 75) (by conv => lhs; simp [go_sem])
              clear hf
              have hA := frame_eq hn
              rw [show List.range 76 = [0, 1, 2, 3, 4, 5, 6, 7, 8, 9, 10, 11, 12, 13, 14, 15, 16, 17, 18, 19, 20, 21, 22, 23, 24, 25, 26, 27, 28, 29, 30, 31, 32, 33, 34, 35, 36, 37, 38, 39, 40, 41, 42, 43, 44, 45, 46, 47, 48, 49, 50, 51, 52, 53, 54, 55, 56, 57, 58, 59, 60, 61, 62, 63, 64, 65, 66, 67, 68, 69, 70, 71, 72, 73, 74, 75] from rfl, hd] at hA
              simp only [List.map_cons, List.map_nil, y0, y1, y2, y3, y4, y5, y6, y7, y8, y9, y10, y11, y12, y13, y14, y15, y16, y17, y18, y19, y20, y21, y22, y23, y24, y25, y26, y27, y28, y29, y30, y31, y32, y33, y34, y35, y36, y37, y38, y39, y40, y41, y42, y43, y44, y45, y46, y47, y48, y49, y50, y51, y52, y53, y54, y55, y56, y57, y58, y59, y60, y61, y62, y63, y64, y65, y66, y67, y68, y69, y70, y71, y72, y73, y74, y75] at hA
              clear y0 y1 y2 y3 y4 y5 y6 y7 y8 y9 y10 y11 y12 y13 y14 y15 y16 y17 y18 y19 y20 y21 y22 y23 y24 y25 y26 y27 y28 y29 y30 y31 y32 y33 y34 y35 y36 y37 y38 y39 y40 y41 y42 y43 y44 y45 y46 y47 y48 y49 y50 y51 y52 y53 y54 y55 y56 y57 y58 y59 y60 y61 y62 y63 y64 y65 y66 y67 y68 y69 y70 y71 y72 y73 y74 y75
              clear hn hd
              subst hA
              have HB5 := Lib.hid (HB.out.trans (hC.mono HB.out.size))
              have HM5 := Lib.hid (HM.out.below hC)
              have HSW : Hid (wo.heap.size ≤ V5.heap.size) := HB5.out.size
              clear hC
              obtain ⟨hB8, p0, p1, p2, p3, p4, p5, p6⟩ := (HVO.out.below HB5.out).all hlt
              rw [HY.out] at p0 p1 p2 p3 p4 p5 p6
              obtain ⟨hB9, q0, q1, q2, q3, q4, q5, q6⟩ := (HOX.out.below HB5.out).vs.all hjt
              rw [HX.out] at q0 q1 q2 q3 q4 q5 q6
              have HLE1 : Hid (ms.length ≤ 3000) := by show _ ≤ _; omega
              go_upto_region 12 with (at_builtin; refine vapp1_any rfl (.tmp 37) (.tmp 42) rfl V5 y rfl wo.heap.size (.slice am ms.length cm) ms rfl rfl HM5.out HLE1.out HSW.out ?_; intro g1 cap1 wa ho9 hb9; have HO1 := Lib.hid ho9; have HA1 := Lib.hid hb9; clear ho9 hb9)
              clear p0 p1 p2 p3 p4 p5 p6 q0 q1 q2 q3 q4 q5 q6 hB8 hB9
              have HB6 := Lib.hid (HB5.out.trans HA1.out)
              have HSW6 : Hid (wo.heap.size ≤ wa.heap.size) := HB6.out.size
              obtain ⟨hB8, p0, p1, p2, p3, p4, p5, p6⟩ := (HVO.out.below HB6.out).all hlt
              rw [HY.out] at p0 p1 p2 p3 p4 p5 p6
              obtain ⟨hB9, q0, q1, q2, q3, q4, q5, q6⟩ := (HOX.out.below HB6.out).vs.all hjt
              rw [HX.out] at q0 q1 q2 q3 q4 q5 q6
              obtain ⟨ms2, hms2⟩ : ∃ ms2, ms ++ [y] = ms2 := ⟨_, rfl⟩
              have hml2 : ms.length + 1 = ms2.length := by rw [← hms2, List.length_append]; rfl
              rw [hml2] at HO1 ⊢
              rw [hms2] at HO1 HST
              have HLE2 : Hid (ms2.length ≤ 3000) := by show _ ≤ _; omega
              clear hml2 hms2
              go_wp2_with (at_builtin; refine vapp1_any rfl (.tmp 44) (.tmp 49) rfl wa x rfl wo.heap.size (.slice (some ⟨g1, 0, none⟩) ms2.length cap1) ms2 rfl rfl HO1.out HLE2.out HSW6.out ?_; intro g2 cap2 wb ho9 hb9; have HO2 := Lib.hid ho9; have HA2 := Lib.hid hb9; clear ho9 hb9)
              go_roundw
              case rel => exact ⟨j + 1, some ⟨g2, 0, none⟩, cap2, ms2 ++ [x], true, by omega, by go_num, by rw [List.length_append]; rfl, rfl, HST.out, by have h9 := HO2.out; rw [List.length_append]; exact h9, HB6.out.trans HA2.out⟩
              case measure => simp [intOf]; omega
            | false =>
              rw [show lessB y.2.1 y.2.2.1 y.2.2.2.1 y.2.2.2.2.1 y.2.2.2.2.2.1 y.2.2.2.2.2.2 x.2.1 x.2.2.1 x.2.2.2.1 x.2.2.2.2.1 x.2.2.2.2.2.1 x.2.2.2.2.2.2 = false from g3] at cX
              have HST : Hid ((xs.take (j + 1)).foldl (inS y) ([], false) = (ms ++ [x], false)) := by
                show _ = _
                rw [hstep]
                simp [inS, in1, g3]
              clear hstep
              go_upto_region 10 with (fail)
              refine wp_region_typed (C := fun w' => Below wr.heap.size wr w') (X := fun w w' => Below w.heap.size w w') (n := 76) (by kernel_rfl) (by kernel_rfl) rfl (fun w => Below.refl _ w) (Below.refl _ _).drew ?_
              refine w_is (fun w => Below.refl _ w) _ (.inl rfl) (fun ρ w hC hc hfn hf => by have e6 : ρ (.tmp 6) = _ := hf 6 (by decide); (conv => lhs; simp [execOp, go_sem, hc, e6])) ?_
              refine w_is (fun w => Below.refl _ w) _ (.inl rfl) (fun ρ w hC hc hfn hf => by have e22 : ρ (.tmp 22) = _ := hf 22 (by decide); (conv => lhs; simp [execOp, go_sem, hc, e22])) ?_
              refine w_is (fun w => Below.refl _ w) _ (.inl rfl) (fun ρ w hC hc hfn hf => by have e23 : ρ (.tmp 23) = _ := hf 23 (by decide); (conv => lhs; simp [execOp, go_sem, hc, e23])) ?_
              refine w_is (fun w => Below.refl _ w) _ (.inr ⟨2, 24, true, rfl, rfl, known_is rfl⟩) (fun ρ w hC hc hfn hf => by have e0 : ρ (.tmp 0) = _ := hf 0 (by decide); (conv => lhs; simp [execOp, go_sem, hc, e0])) ?_
              refine w_is (fun w => Below.refl _ w) _ (.inr ⟨2, 24, true, rfl, rfl, known_is rfl⟩) (fun ρ w hC hc hfn hf => by have e4 : ρ (.tmp 4) = _ := hf 4 (by decide); (conv => lhs; simp [execOp, go_sem, hc, e4])) ?_
              refine w_is (fun w => Below.refl _ w) _ (.inr ⟨2, 24, true, rfl, rfl, known_is rfl⟩) (fun ρ w hC hc hfn hf => by have e25 : ρ (.tmp 25) = _ := hf 25 (by decide); have e26 : ρ (.tmp 26) = _ := hf 26 (by decide); (conv => lhs; simp [execOp, go_sem, hc, e25, e26, hlt])) ?_
              refine w_is (fun w => Below.refl _ w) _ (.inr ⟨2, 24, true, rfl, rfl, known_is rfl⟩) (fun ρ w hC hc hfn hf => by have e27 : ρ (.tmp 27) = _ := hf 27 (by decide); (conv => lhs; simp [execOp, go_sem, hc, e27])) ?_
              refine w_is (fun w => Below.refl _ w) _ (.inr ⟨2, 24, true, rfl, rfl, known_is rfl⟩) (fun ρ w hC hc hfn hf => by have e28 : ρ (.tmp 28) = _ := hf 28 (by decide); (conv => lhs; simp [execOp, go_sem, hc, e28, kc w hC])) ?_
              refine w_is (fun w => Below.refl _ w) _ (.inr ⟨2, 24, true, rfl, rfl, known_is rfl⟩) (fun ρ w hC hc hfn hf => by have e3 : ρ (.tmp 3) = _ := hf 3 (by decide); (conv => lhs; simp [execOp, go_sem, hc, e3])) ?_
              refine w_is (fun w => Below.refl _ w) _ (.inr ⟨2, 24, true, rfl, rfl, known_is rfl⟩) (fun ρ w hC hc hfn hf => by have e7 : ρ (.tmp 7) = _ := hf 7 (by decide); (conv => lhs; simp [execOp, go_sem, hc, e7])) ?_
              refine w_is (fun w => Below.refl _ w) _ (.inr ⟨2, 24, true, rfl, rfl, known_is rfl⟩) (fun ρ w hC hc hfn hf => by have e30 : ρ (.tmp 30) = _ := hf 30 (by decide); have e31 : ρ (.tmp 31) = _ := hf 31 (by decide); (conv => lhs; simp [execOp, go_sem, hc, e30, e31, hjt])) ?_
              refine w_is (fun w => Below.refl _ w) _ (.inr ⟨2, 24, true, rfl, rfl, known_is rfl⟩) (fun ρ w hC hc hfn hf => by have e32 : ρ (.tmp 32) = _ := hf 32 (by decide); (conv => lhs; simp [execOp, go_sem, hc, e32])) ?_
              refine w_is (fun w => Below.refl _ w) _ (.inr ⟨2, 24, true, rfl, rfl, known_is rfl⟩) (fun ρ w hC hc hfn hf => by have e33 : ρ (.tmp 33) = _ := hf 33 (by decide); (conv => lhs; simp [execOp, go_sem, hc, e33, kc w hC])) ?_
              refine w_call (Is _) (fun _ _ _ h _ => h) 39 (.inr ⟨2, 24, true, rfl, rfl, known_is rfl⟩) (fun ρ w hC hc hfn hf => by have e29 : ρ (.tmp 29) = _ := hf 29 (by decide); have e34 : ρ (.tmp 34) = _ := hf 34 (by decide); exact ⟨_, by (conv => lhs; simp [execOp, resolve, invoke, go_sem, hc, hfn, e29, e34]), tc_below hC (cX w)⟩) ?_
              refine w_is (fun w => Below.refl _ w) _ (.inl rfl) (fun ρ w hC hc hfn hf => by have e24 : ρ (.tmp 24) = _ := hf 24 (by decide); have e35 : ρ (.tmp 35) = _ := hf 35 (by decide); (conv => lhs; simp [execOp, go_sem, hc, e24, e35])) ?_
              intro A V5 hC hn hd hf
              have y0 : A.eval (.tmp 0) = _ := Eq.trans (hf 0) (by conv => lhs; simp [go_sem])
              have y1 : A.eval (.tmp 1) = _ := Eq.trans (hf 1) (by conv => lhs; simp [go_sem])
              have y2 : A.eval (.tmp 2) = _ := Eq.trans (hf 2) (by conv => lhs; simp [go_sem])
              have y3 : A.eval (.tmp 3) = _ := Eq.trans (hf 3) (by conv => lhs; simp [go_sem])
              have y4 : A.eval (.tmp 4) = _ := Eq.trans (hf 4) (by conv => lhs; simp [go_sem])
              have y5 : A.eval (.tmp 5) = _ := Eq.trans (hf 5) (by conv => lhs; simp [go_sem])
              have y6 : A.eval (.tmp 6) = _ := Eq.trans (hf 6) (by conv => lhs; simp [go_sem])
              have y7 : A.eval (.tmp 7) = _ := Eq.trans (hf 7) (by conv => lhs; simp [go_sem])
              have y8 : A.eval (.tmp 8) = _ := Eq.trans (hf 8) (by conv => lhs; simp [go_sem])
              have y9 : A.eval (.tmp 9) = _ := Eq.trans (hf 9) (by conv => lhs; simp [go_sem])
              have y10 : A.eval (.tmp 10) = _ := Eq.trans (hf 10) (by conv => lhs; simp [go_sem])
              have y11 : A.eval (.tmp 11) = _ := Eq.trans (hf 11) (by conv => lhs; simp [go_sem])
              have y12 : A.eval (.tmp 12) = _ := Eq.trans (hf 12) (by conv => lhs; simp [go_sem])
              have y13 : A.eval (.tmp 13) = _ := Eq.trans (hf 13) (by conv => lhs; simp [go_sem])
              have y14 : A.eval (.tmp 14) = _ := Eq.trans (hf 14) (by conv => lhs; simp [go_sem])
              have y15 : A.eval (.tmp 15) = _ := Eq.trans (hf 15) (by conv => lhs; simp [go_sem])
              have y16 : A.eval (.tmp 16) = _ := Eq.trans (hf 16) (by conv => lhs; simp [go_sem])
              have y17 : A.eval (.tmp 17) = _ := Eq.trans (hf 17) (by conv => lhs; simp [go_sem])
              have y18 : A.eval (.tmp 18) = _ := Eq.trans (hf 18) (by conv => lhs; simp [go_sem])
              have y19 : A.eval (.tmp 19) = _ := Eq.trans (hf 19) (by conv => lhs; simp [go_sem])
              have y20 : A.eval (.tmp 20) = _ := Eq.trans (hf 20) (by conv => lhs; simp [go_sem])
              have y21 : A.eval (.tmp 21) = _ := Eq.trans (hf 21) (by conv => lhs; simp [go_sem])
              have y22 : A.eval (.tmp 22) = _ := hf 22
              have y23 : A.eval (.tmp 23) = _ := hf 23
              have y24 : A.eval (.tmp 24) = _ := hf 24
              have y25 : A.eval (.tmp 25) = _ := hf 25
              have y26 : A.eval (.tmp 26) = _ := hf 26
              have y27 : A.eval (.tmp 27) = _ := hf 27
              have y28 : A.eval (.tmp 28) = _ := hf 28
              have y29 : A.eval (.tmp 29) = _ := hf 29
              have y30 : A.eval (.tmp 30) = _ := hf 30
              have y31 : A.eval (.tmp 31) = _ := hf 31
              have y32 : A.eval (.tmp 32) = _ := hf 32
              have y33 : A.eval (.tmp 33) = _ := hf 33
              have y34 : A.eval (.tmp 34) = _ := hf 34
              have y35 : A.eval (.tmp 35) = _ := hf 35
              have y36 : A.eval (.tmp 36) = _ := hf 36
              have y37 : A.eval (.tmp 37) = _ := Eq.trans (hf 37) (by conv => lhs; simp [go_sem])
              have y38 : A.eval (.tmp 38) = _ := Eq.trans (hf 38) (by conv => lhs; simp [go_sem])
              have y39 : A.eval (.tmp 39) = _ := Eq.trans (hf 39) (by conv => lhs; simp [go_sem])
              have y40 : A.eval (.tmp 40) = _ := Eq.trans (hf 40) (by conv => lhs; simp [go_sem])
              have y41 : A.eval (.tmp 41) = _ := Eq.trans (hf 41) (by conv => lhs; simp [go_sem])
              have y42 : A.eval (.tmp 42) = _ := Eq.trans (hf 42) (by conv => lhs; simp [go_sem])
              have y43 : A.eval (.tmp 43) = _ := Eq.trans (hf 43) (by conv => lhs; simp [go_sem])
              have y44 : A.eval (.tmp 44) = _ := Eq.trans (hf 44) (by conv => lhs; simp [go_sem])
              have y45 : A.eval (.tmp 45) = _ := Eq.trans (hf 45) (by conv => lhs; simp [go_sem])
              have y46 : A.eval (.tmp 46) = _ := Eq.trans (hf 46) (by conv => lhs; simp [go_sem])
              have y47 : A.eval (.tmp 47) = _ := Eq.trans (hf 47) (by conv => lhs; simp [go_sem])
              have y48 : A.eval (.tmp 48) = _ := Eq.trans (hf 48) (by conv => lhs; simp [go_sem])
              have y49 : A.eval (.tmp 49) = _ := Eq.trans (hf 49) (by conv => lhs; simp [go_sem])
              have y50 : A.eval (.tmp 50) = _ := Eq.trans (hf 50) (by conv => lhs; simp [go_sem])
              have y51 : A.eval (.tmp 51) = _ := Eq.trans (hf 51) (by conv => lhs; simp [go_sem])
              have y52 : A.eval (.tmp 52) = _ := Eq.trans (hf 52) (by conv => lhs; simp [go_sem])
              have y53 : A.eval (.tmp 53) = _ := Eq.trans (hf 53) (by conv => lhs; simp [go_sem])
              have y54 : A.eval (.tmp 54) = _ := Eq.trans (hf 54) (by conv => lhs; simp [go_sem])
              have y55 : A.eval (.tmp 55) = _ := Eq.trans (hf 55) (by conv => lhs; simp [go_sem])
              have y56 : A.eval (.tmp 56) = _ := Eq.trans (hf 56) (by conv => lhs; simp [go_sem])
              have y57 : A.eval (.tmp 57) = _ := Eq.trans (hf 57) (by conv => lhs; simp [go_sem])
              have y58 : A.eval (.tmp 58) = _ := Eq.trans (hf 58) (by conv => lhs; simp [go_sem])
              have y59 : A.eval (.tmp 59) = _ := Eq.trans (hf 59) (by conv => lhs; simp [go_sem])
              have y60 : A.eval (.tmp 60) = _ := Eq.trans (hf 60) (by conv => lhs; simp [go_sem])
              have y61 : A.eval (.tmp 61) = _ := Eq.trans (hf 61) (by conv => lhs; simp [go_sem])
              have y62 : A.eval (.tmp 62) = _ := Eq.trans (hf 62) (by conv => lhs; simp [go_sem])
              have y63 : A.eval (.tmp 63) = _ := Eq.trans (hf 63) (by conv => lhs; simp [go_sem])
              have y64 : A.eval (.tmp 64) = _ := Eq.trans (hf 64) (by conv => lhs; simp [go_sem])
              have y65 : A.eval (.tmp 65) = _ := Eq.trans (hf 65) (by conv => lhs; simp [go_sem])
              have y66 : A.eval (.tmp 66) = _ := Eq.trans (hf 66) (by conv => lhs; simp [go_sem])
              have y67 : A.eval (.tmp 67) = _ := Eq.trans (hf 67) (by conv => lhs; simp [go_sem])
              have y68 : A.eval (.tmp 68) = _ := Eq.trans (hf 68) (by conv => lhs; simp [go_sem])
              have y69 : A.eval (.tmp 69) = _ := Eq.trans (hf 69) (by conv => lhs; simp [go_sem])
              have y70 : A.eval (.tmp 70) = _ := Eq.trans (hf 70) (by conv => lhs; simp [go_sem])
              have y71 : A.eval (.tmp 71) = _ := Eq.trans (hf 71) (by conv => lhs; simp [go_sem])
              have y72 : A.eval (.tmp 72) = _ := Eq.trans (hf 72) (by conv => lhs; simp [go_sem])
              have y73 : A.eval (.tmp 73) = _ := Eq.trans (hf 73) (by conv => lhs; simp [go_sem])
              have y74 : A.eval (.tmp 74) = _ := Eq.trans (hf 74) (by conv => lhs; simp [go_sem])
              have y75 : A.eval (.tmp 75) = _ := Eq.trans (hf 75) (by conv => lhs; simp [go_sem])
              clear hf
              have hA := frame_eq hn
              rw [show List.range 76 = [0, 1, 2, 3, 4, 5, 6, 7, 8, 9, 10, 11, 12, 13, 14, 15, 16, 17, 18, 19, 20, 21, 22, 23, 24, 25, 26, 27, 28, 29, 30, 31, 32, 33, 34, 35, 36, 37, 38, 39, 40, 41, 42, 43, 44, 45, 46, 47, 48, 49, 50, 51, 52, 53, 54, 55, 56, 57, 58, 59, 60, 61, 62, 63, 64, 65, 66, 67, 68, 69, 70, 71, 72, 73, 74, 75] from rfl, hd] at hA
              simp only [List.map_cons, List.map_nil, y0, y1, y2, y3, y4, y5, y6, y7, y8, y9, y10, y11, y12, y13, y14, y15, y16, y17, y18, y19, y20, y21, y22, y23, y24, y25, y26, y27, y28, y29, y30, y31, y32, y33, y34, y35, y36, y37, y38, y39, y40, y41, y42, y43, y44, y45, y46, y47, y48, y49, y50, y51, y52, y53, y54, y55, y56, y57, y58, y59, y60, y61, y62, y63, y64, y65, y66, y67, y68, y69, y70, y71, y72, y73, y74, y75] at hA
              clear y0 y1 y2 y3 y4 y5 y6 y7 y8 y9 y10 y11 y12 y13 y14 y15 y16 y17 y18 y19 y20 y21 y22 y23 y24 y25 y26 y27 y28 y29 y30 y31 y32 y33 y34 y35 y36 y37 y38 y39 y40 y41 y42 y43 y44 y45 y46 y47 y48 y49 y50 y51 y52 y53 y54 y55 y56 y57 y58 y59 y60 y61 y62 y63 y64 y65 y66 y67 y68 y69 y70 y71 y72 y73 y74 y75
              clear hn hd
              subst hA
              have HB5 := Lib.hid (HB.out.trans (hC.mono HB.out.size))
              have HM5 := Lib.hid (HM.out.below hC)
              have HSW : Hid (wo.heap.size ≤ V5.heap.size) := HB5.out.size
              clear hC
              obtain ⟨hB8, p0, p1, p2, p3, p4, p5, p6⟩ := (HVO.out.below HB5.out).all hlt
              rw [HY.out] at p0 p1 p2 p3 p4 p5 p6
              obtain ⟨hB9, q0, q1, q2, q3, q4, q5, q6⟩ := (HOX.out.below HB5.out).vs.all hjt
              rw [HX.out] at q0 q1 q2 q3 q4 q5 q6
              have HLE1 : Hid (ms.length ≤ 3000) := by show _ ≤ _; omega
              go_wp2_with (at_builtin; refine vapp1_any rfl (.tmp 44) (.tmp 49) rfl V5 x rfl wo.heap.size (.slice am ms.length cm) ms rfl rfl HM5.out HLE1.out HSW.out ?_; intro g1 cap1 wa ho9 hb9; have HO1 := Lib.hid ho9; have HA1 := Lib.hid hb9; clear ho9 hb9)
              go_roundw
              case rel => exact ⟨j + 1, some ⟨g1, 0, none⟩, cap1, ms ++ [x], false, by omega, by go_num, by rw [List.length_append]; rfl, rfl, HST.out, by have h9 := HO1.out; rw [List.length_append]; exact h9, HB5.out.trans HA1.out⟩
              case measure => simp [intOf]; omega
        · obtain rfl : j = xs.length := by omega
          rw [List.take_length] at HG
          have HBX := Lib.hid (HBO.out.trans (HB.out.mono HBO.out.size))
          cases dn with
          | true =>
            have HN : Hid (vordL (l.take (k + 1)) = ms) := by
              show _ = _
              rw [HINS.out]
              unfold insO inF
              rw [HG.out, if_pos rfl]
            have HM2 := Lib.hid (HM.out.mono HBO.out.size)
            go_wp2_with fail
            go_roundw
            case rel => exact ⟨k + 1, am, cm, ms, by omega, by go_num, rfl, HN.out, HM2.out, HBX.out⟩
            case measure => simp [intOf]; omega
          | false =>
            have HN : Hid (vordL (l.take (k + 1)) = ms ++ [y]) := by
              show _ = _
              rw [HINS.out]
              unfold insO inF
              rw [HG.out, if_neg (by simp)]
            obtain ⟨hB8, p0, p1, p2, p3, p4, p5, p6⟩ := (HVO.out.below HB.out).all hlt
            rw [HY.out] at p0 p1 p2 p3 p4 p5 p6
            have HLE1 : Hid (ms.length ≤ 3000) := by show _ ≤ _; omega
            have HSW : Hid (wo.heap.size ≤ wr.heap.size) := HB.out.size
            go_wp2_with (at_builtin; refine vapp1_any rfl (.tmp 53) (.tmp 58) rfl wr y rfl wo.heap.size (.slice am ms.length cm) ms rfl rfl HM.out HLE1.out HSW.out ?_; intro g1 cap1 wa ho9 hb9; have HO1 := Lib.hid ho9; have HA1 := Lib.hid hb9; clear ho9 hb9)
            have HM2 := Lib.hid (HO1.out.mono HBO.out.size)
            have HB2 := Lib.hid (HBO.out.trans ((HB.out.trans HA1.out).mono HBO.out.size))
            go_roundw
            case rel => exact ⟨k + 1, some ⟨g1, 0, none⟩, cap1, ms ++ [y], by omega, by go_num, by rw [List.length_append]; rfl, HN.out, by have h9 := HM2.out; rw [List.length_append]; exact h9, HB2.out⟩
            case measure => simp [intOf]; omega
    · obtain rfl : k = l.length := by omega
      rw [List.take_length] at HF
      have HVX := Lib.hid HO.out.vs
      go_wp2_with fail
      go_loopw [8, 9] (fun sv i wr => ∃ (j : Nat) (am : Option Addr) (cm : Nat), j ≤ xs.length ∧ i = .int .i64 j ∧ sv = .slice am j cm ∧ Hid (OwI wr wo.heap.size (.slice am j cm) ((xs.take j).map (·.1))) ∧ Hid (Below wo.heap.size wo wr)) (fun _ i _ => xs.length - (intOf i).toNat)
      case atStart => exact ⟨0, none, 0, Nat.zero_le _, rfl, rfl, OwI_nil wo _, Below.refl _ _⟩
      case round =>
        obtain ⟨j, am, cm, hj, rfl, rfl, HM, HB⟩ := hrel
        by_cases hjt : j < xs.length
        · obtain ⟨b3, off3, rfl, hB9, q0, q1, q2, q3, q4, q5, q6⟩ := (HVX.out.below HB.out).at hjt
          have htk := vtake_succ xs j hjt
          obtain ⟨x, hx⟩ : ∃ x, xs.getD j zVw = x := ⟨_, rfl⟩
          rw [hx] at q0 q1 q2 q3 q4 q5 q6 htk
          have HTK := Lib.hid htk
          clear htk hx
          have hml : ((xs.take j).map (·.1)).length = j := by rw [List.length_map, List.length_take]; omega
          have HML := Lib.hid hml
          have HLE1 : Hid (((xs.take j).map (·.1)).length ≤ 3000) := by show _ ≤ _; rw [hml]; omega
          have HSW : Hid (wo.heap.size ≤ wr.heap.size) := HB.out.size
          clear hml
          go_wp2_with (at_builtin; refine iapp1_any rfl (.tmp 67) (.tmp 73) rfl wr x.1 rfl wo.heap.size (.slice am j cm) ((xs.take j).map (·.1)) rfl rfl HM.out HLE1.out HSW.out ?_; intro g1 cap1 wa ho9 hb9; rw [HML.out]; rw [HML.out] at ho9; have HO1 := Lib.hid ho9; have HA1 := Lib.hid hb9; clear ho9 hb9)
          go_roundw
          case rel => exact ⟨j + 1, some ⟨g1, 0, none⟩, cap1, by omega, by go_num, rfl, by rw [HTK.out, List.map_append]; exact HO1.out, HB.out.trans HA1.out⟩
          case measure => simp [intOf]; omega
        · obtain rfl : j = xs.length := by omega
          rw [List.take_length] at HM
          have HL9 : Hid ((xs.map (·.1)).length = xs.length) := List.length_map _
          have HMX := Lib.hid (HM.out.mono HBO.out.size)
          have HBX := Lib.hid (HBO.out.trans (HB.out.mono HBO.out.size))
          go_wp2_with fail
          go_ret
          rw [HF.out, HL9.out]
          exact ⟨⟨_, _, rfl, HMX.out⟩, HBX.out⟩
end Go.Proofs.Ytahhhegknmiinaa
