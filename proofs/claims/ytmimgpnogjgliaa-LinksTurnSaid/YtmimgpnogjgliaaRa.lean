/- The reference's links: Order of levels; of: the views of a direction, one by one. Conditions on lengths. The reference's links: Downs, Ups, Next, Levels, Same. Conditions on lengths. -/
import Derived.Test.YtmimgpnogjgliaaMa
import Derived.Test.YtmimgpnogjgliaaVb
namespace Go.Proofs.Ytmimgpnogjgliaa
set_option maxRecDepth 100000
open Go.RowKit

set_option maxHeartbeats 4000000 in
theorem rorder_any (t o r t' o' r' : Int) (w : World) :
    Calls Try.prog 42 #[.agg #[.int .i64 t, .int .i64 o, .int .i64 r], .agg #[.int .i64 t', .int .i64 o', .int .i64 r']] w fun e w' => e = .returned (.int .i64 (ordL t o r t' o' r')) ∧ Below w.heap.size w w' := by
  go_enter Try.func42, Try.ntmps42
  go_wp2_with (go_at_call 55; refine (rcompare_any _ _ [t, o, r] [t', o', r'] _ ((ints3 ((w.alloc (.cells #[.int .i64 t, .int .i64 o, .int .i64 r] 49)).alloc (.cells #[.int .i64 t', .int .i64 o', .int .i64 r'] 49)) t o r 3 _ (by simp)).below ((Below.refl _ _).alloc (Nat.le_refl _) _)) (ints3 (((w.alloc (.cells #[.int .i64 t, .int .i64 o, .int .i64 r] 49)).alloc (.cells #[.int .i64 t', .int .i64 o', .int .i64 r'] 49)).alloc (.cells #[.int .i64 t, .int .i64 o, .int .i64 r] 3)) t' o' r' 3 _ (by simp)) rfl).mono ?_; rintro e w' ⟨rfl, hb⟩)
  go_ret
  exact ⟨rfl, (((((Below.refl _ w).alloc (Nat.le_refl _) _).alloc (by simp) _).alloc (by simp; omega) _).alloc (by simp; omega) _).trans (hb.mono (by simp; omega))⟩


theorem iapp3_any {ops : Array Oper} {rest : List Oper} {o : Oper} {a : Act} {Q : Exit → Act → World → Prop} {W : World} (hgd : o.guard = none) (s x : Operand)
    (ho : o.op = .call { callee := .builtin .append, args := #[s, x], argTypes := #[30, 30] }) (w : World) (y : Int) (hW : W = w.alloc (.cells #[.int .i64 y] 3)) (S : Nat) (v : Value) (xs : List Int)
    (hs : a.eval s = v) (hx : a.eval x = .slice (some ⟨w.heap.size, 0, none⟩) 1 1) (hown : OwI w S v xs) (hl : xs.length ≤ 3000) (hS : S ≤ w.heap.size)
    (h : ∀ g cap w', OwI w' S (.slice (some ⟨g, 0, none⟩) (xs.length + 1) cap) (xs ++ [y]) → Below S w w' → (∀ S2 u (ys : List Vw), OwV w S2 u ys → (∀ k, v.ownBlock = some k → u.ownBlock ≠ some k) → OwV w' S2 u ys) → wpList Try.prog ops Q rest (a.put o.dst (.slice (some ⟨g, 0, none⟩) (xs.length + 1) cap)) w') : wpList Try.prog ops Q (o :: rest) a W := by
  subst hW
  have hb : Below S w (w.alloc (.cells #[.int .i64 y] 3)) := (Below.refl S w).alloc hS _
  have hown' : (w.alloc (.cells #[.int .i64 y] 3)).ownsRow S RI.T RI.K v xs.length (gflat RI xs) := World.ownsRow.alloc hown _
  obtain ⟨g, cap, w', hr, h2, h3, _⟩ := run_gapp (R := RI) (w.alloc (.cells #[.int .i64 y] 3)) o.type S v xs hown' w.heap.size y (gc_alloc RI w y _ rfl 3) hl (by simp; omega)
  refine wpList_plain hgd fun K hK => ?_
  unfold Oper.wp
  rw [gexec_append ho hs hx hr]
  refine hK _ _ (h g cap w' h2 (hb.grown h3 (by simp; omega) (fun k hk => (World.ownsRow.lt hown' k hk).1)) fun S2 u ys hu hne => ?_)
  have hu2 : OwV (w.alloc (.cells #[.int .i64 y] 3)) S2 u ys := hu.below ((Below.refl _ w).alloc (Nat.le_refl _) _)
  refine World.ownsRow.kept hu2 h3 ?_
  cases e : v.ownBlock with
  | none =>
    cases e2 : u.ownBlock with
    | none => exact .inl rfl
    | some k => exact .inr (by simp)
  | some k => exact .inr (hne k e)
/-- How long a slice is. -/
def slLen : Value → Nat
  | .slice _ n _ => n
  | _ => 0
set_option maxHeartbeats 16000000 in
theorem rof_any (v : Value) (l : List Vw) (own : Hx) (way : Int) (hway : way = 1 ∨ way = 2) (w : World) (hv : Vs w v l) (hl : l.length ≤ 1000) :
    Calls Try.prog 38 #[v, hxV own, .int .i64 way] w fun e w' => ∃ r, e = .returned r ∧ Zs w' r (dirI l own way) ∧ Below w.heap.size w w' := by
  obtain ⟨R, hR⟩ : ∃ R, dirI l own way = R := ⟨_, rfl⟩
  rw [hR]
  obtain ⟨a, c, rfl⟩ := hv.form
  obtain ⟨w1, hw1⟩ : ∃ w1, w.alloc (.cells #[.bool own.1, .int .i64 own.2.1, .int .i64 own.2.2.1, .int .i64 own.2.2.2.1, .int .i64 own.2.2.2.2.1, .int .i64 own.2.2.2.2.2] 24) = w1 := ⟨_, rfl⟩
  have hb0 : Below w.heap.size w w1 := hw1 ▸ (Below.refl _ w).alloc (Nat.le_refl _) _
  have ov : Own6 w1 w.heap.size own.1 own.2.1 own.2.2.1 own.2.2.2.1 own.2.2.2.2.1 own.2.2.2.2.2 := hw1 ▸ own6_alloc w own.1 own.2.1 own.2.2.1 own.2.2.2.1 own.2.2.2.2.1 own.2.2.2.2.2 24 w.heap.size rfl
  have hlt : w.heap.size < w1.heap.size := World.block_lt_of_cell? w1 _ ov.1.1
  have HR := Lib.hid hR
  have HV := Lib.hid (hv.below hb0)
  have HB0 := Lib.hid hb0
  have HO0 := Lib.hid ov
  have HS1 := Lib.hid hlt
  have HW1 := Lib.hid hw1
  have HFF := Lib.hid (fun h hb => dirB_tld (own := own) hway h hb)
  clear hv hb0 hw1 hR ov hlt hway
  go_enter Try.func38, Try.ntmps38
  go_upto_region 2 with (fail)
  rw [HW1.out]
  go_wp2_with fail
  go_loopw [7, 8] (fun ov i wr => ∃ (k : Nat) (ax : Option Addr) (cx : Nat) (xs : List Vw), k ≤ l.length ∧ i = .int .i64 k ∧ ov = .slice ax xs.length cx ∧ Hid (dirL (l.take k) own way = xs) ∧ Hid (OwV wr w1.heap.size (.slice ax xs.length cx) xs) ∧ Hid (Below w1.heap.size w1 wr)) (fun _ i _ => l.length - (intOf i).toNat)
  case atStart => exact ⟨0, none, 0, [], Nat.zero_le _, rfl, rfl, rfl, OwV_nil w1 _, Below.refl _ _⟩
  case round =>
    obtain ⟨k, ax, cx, xs, hk, rfl, rfl, HF, HO, HB⟩ := hrel
    have hxl : xs.length ≤ k := by
      have h1 := dirL_le (l.take k) own way
      rw [HF.out, List.length_take] at h1
      omega
    have HLE1 : Hid (xs.length ≤ 3000) := by show _ ≤ _; omega
    by_cases hlt : k < l.length
    · have hst := dir_step l own way k hlt
      rw [HF.out] at hst
      obtain ⟨b2, off, rfl, hB, p0, p1, p2, p3, p4, p5, p6⟩ := (HV.out.below HB.out).at hlt
      obtain ⟨y, hy⟩ : ∃ y, l.getD k zVw = y := ⟨_, rfl⟩
      rw [hy] at p0 p1 p2 p3 p4 p5 p6 hst
      have HY := Lib.hid hy
      clear hy
      obtain ⟨z, hz⟩ : ∃ z, dirF own y.2 = z := ⟨_, rfl⟩
      have cD := fun W => rdir_any own y.2 W
      rw [hz] at cD
      have hdb : dirB own way y.2 = (z == way) := by unfold dirB; rw [hz]
      rw [hdb] at hst
      have hov : Own6 wr w.heap.size own.1 own.2.1 own.2.2.1 own.2.2.2.1 own.2.2.2.2.1 own.2.2.2.2.2 := by
        refine ⟨?_, fun k => (HB.out.frozen (p := ⟨w.heap.size, k, none⟩) HS1.out).trans (HO0.out.2 k)⟩
        obtain ⟨h0, h1, h2, h3, h4, h5⟩ := HO0.out.1
        exact ⟨(HB.out.cell (p := ⟨w.heap.size, 0, none⟩) HS1.out).trans h0, (HB.out.cell (p := ⟨w.heap.size, 1, none⟩) HS1.out).trans h1, (HB.out.cell (p := ⟨w.heap.size, 2, none⟩) HS1.out).trans h2, (HB.out.cell (p := ⟨w.heap.size, 3, none⟩) HS1.out).trans h3, (HB.out.cell (p := ⟨w.heap.size, 4, none⟩) HS1.out).trans h4, (HB.out.cell (p := ⟨w.heap.size, 5, none⟩) HS1.out).trans h5⟩
      obtain ⟨⟨q0, q1, q2, q3, q4, q5⟩, _⟩ := hov
      have hlw : w.heap.size < wr.heap.size := World.block_lt_of_cell? wr _ q0
      have kc : ∀ w', Below wr.heap.size wr w' → (w'.cell? ⟨w.heap.size, 0, none⟩ = some (.bool own.1) ∧ w'.cell? ⟨w.heap.size, 1, none⟩ = some (.int .i64 own.2.1) ∧ w'.cell? ⟨w.heap.size, 2, none⟩ = some (.int .i64 own.2.2.1) ∧ w'.cell? ⟨w.heap.size, 3, none⟩ = some (.int .i64 own.2.2.2.1) ∧ w'.cell? ⟨w.heap.size, 4, none⟩ = some (.int .i64 own.2.2.2.2.1) ∧ w'.cell? ⟨w.heap.size, 5, none⟩ = some (.int .i64 own.2.2.2.2.2)) ∧ (w'.cell? ⟨b2, off + k * 7, none⟩ = some (.int .i64 y.1) ∧ w'.cell? ⟨b2, off + k * 7 + 1, none⟩ = some (.bool y.2.1) ∧ w'.cell? ⟨b2, off + k * 7 + 2, none⟩ = some (.int .i64 y.2.2.1) ∧ w'.cell? ⟨b2, off + k * 7 + 3, none⟩ = some (.int .i64 y.2.2.2.1) ∧ w'.cell? ⟨b2, off + k * 7 + 4, none⟩ = some (.int .i64 y.2.2.2.2.1) ∧ w'.cell? ⟨b2, off + k * 7 + 5, none⟩ = some (.int .i64 y.2.2.2.2.2.1) ∧ w'.cell? ⟨b2, off + k * 7 + 6, none⟩ = some (.int .i64 y.2.2.2.2.2.2)) := fun w' hb =>
        ⟨⟨(hb.cell (p := ⟨w.heap.size, 0, none⟩) hlw).trans q0, (hb.cell (p := ⟨w.heap.size, 1, none⟩) hlw).trans q1, (hb.cell (p := ⟨w.heap.size, 2, none⟩) hlw).trans q2, (hb.cell (p := ⟨w.heap.size, 3, none⟩) hlw).trans q3, (hb.cell (p := ⟨w.heap.size, 4, none⟩) hlw).trans q4, (hb.cell (p := ⟨w.heap.size, 5, none⟩) hlw).trans q5⟩, C7.below ⟨p0, p1, p2, p3, p4, p5, p6⟩ hb hB⟩
      clear p0 p1 p2 p3 p4 p5 p6 q0 q1 q2 q3 q4 q5 hz hdb hB hlw
      cases g3 : (z == way) with
      | true =>
        rw [g3, if_pos rfl] at hst
        have HST := Lib.hid hst
        clear hst
        go_upto_region 5 with (fail)
        refine wp_region_typed (C := fun w' => Below wr.heap.size wr w') (X := fun w w' => Below w.heap.size w w') (n := 75) (by kernel_rfl) (by kernel_rfl) rfl (fun w => Below.refl _ w) (Below.refl _ _).drew ?_
        refine w_is (fun w => Below.refl _ w) _ (.inl rfl) (fun ρ w hC hc hfn hf => by have e4 : ρ (.tmp 4) = _ := hf 4 (by decide); (conv => lhs; simp [execOp, go_sem, hc, e4, kc w hC])) ?_
        refine w_is (fun w => Below.refl _ w) _ (.inl rfl) (fun ρ w hC hc hfn hf => by have e0 : ρ (.tmp 0) = _ := hf 0 (by decide); (conv => lhs; simp [execOp, go_sem, hc, e0])) ?_
        refine w_is (fun w => Below.refl _ w) _ (.inl rfl) (fun ρ w hC hc hfn hf => by have e8 : ρ (.tmp 8) = _ := hf 8 (by decide); (conv => lhs; simp [execOp, go_sem, hc, e8])) ?_
        refine w_is (fun w => Below.refl _ w) _ (.inl rfl) (fun ρ w hC hc hfn hf => by have e22 : ρ (.tmp 22) = _ := hf 22 (by decide); have e23 : ρ (.tmp 23) = _ := hf 23 (by decide); (conv => lhs; simp [execOp, go_sem, hc, e22, e23, hlt])) ?_
        refine w_is (fun w => Below.refl _ w) _ (.inl rfl) (fun ρ w hC hc hfn hf => by have e24 : ρ (.tmp 24) = _ := hf 24 (by decide); (conv => lhs; simp [execOp, go_sem, hc, e24])) ?_
        refine w_is (fun w => Below.refl _ w) _ (.inl rfl) (fun ρ w hC hc hfn hf => by have e25 : ρ (.tmp 25) = _ := hf 25 (by decide); (conv => lhs; simp [execOp, go_sem, hc, e25, kc w hC])) ?_
        refine w_call (Is _) (fun _ _ _ h _ => h) 12 (.inl rfl) (fun ρ w hC hc hfn hf => by have e21 : ρ (.tmp 21) = _ := hf 21 (by decide); have e26 : ρ (.tmp 26) = _ := hf 26 (by decide); exact ⟨_, by (conv => lhs; simp [execOp, resolve, invoke, go_sem, hc, hfn, e21, e26]), tc_below hC (cD w)⟩) ?_
        refine w_is (fun w => Below.refl _ w) _ (.inl rfl) (fun ρ w hC hc hfn hf => by have e2 : ρ (.tmp 2) = _ := hf 2 (by decide); (conv => lhs; simp [execOp, go_sem, hc, e2])) ?_
        refine w_is (fun w => Below.refl _ w) _ (.inl rfl) (fun ρ w hC hc hfn hf => by have e27 : ρ (.tmp 27) = _ := hf 27 (by decide); have e28 : ρ (.tmp 28) = _ := hf 28 (by decide); (conv => lhs; simp [execOp, go_sem, hc, e27, e28, g3])) ?_
        intro A V5 hC hn hd hf
        have y0 : A.eval (.tmp 0) = _ := Eq.trans (hf 0) (by conv => lhs; simp [go_sem])
        have y1 : A.eval (.tmp 1) = _ := Eq.trans (hf 1) (by conv => lhs; simp [go_sem])
        have y2 : A.eval (.tmp 2) = _ := Eq.trans (hf 2) (by conv => lhs; simp [go_sem])
        have y3 : A.eval (.tmp 3) = _ := Eq.trans (hf 3) (by conv => lhs; simp [go_sem])
        have y4 : A.eval (.tmp 4) = _ := Eq.trans (hf 4) (by conv => lhs; simp [go_sem])
        have y5 : A.eval (.tmp 5) = _ := Eq.trans (hf 5) (by conv => lhs; simp [go_sem])
        have y6 : A.eval (.tmp 6) = _ := Eq.trans (hf 6) (by conv => lhs; simp [go_sem])
        have y7 : A.eval (.tmp 7) = _ := Eq.trans (hf 7) (by conv => lhs; simp [go_sem])
        have y8 : A.eval (.tmp 8) = _ := Eq.trans (hf 8) (by conv => lhs; simp [go_sem])
        have y9 : A.eval (.tmp 9) = _ := Eq.trans (hf 9) (by conv => lhs; simp [go_sem])
        have y10 : A.eval (.tmp 10) = _ := Eq.trans (hf 10) (by conv => lhs; simp [go_sem])
        have y11 : A.eval (.tmp 11) = _ := Eq.trans (hf 11) (by conv => lhs; simp [go_sem])
        have y12 : A.eval (.tmp 12) = _ := Eq.trans (hf 12) (by conv => lhs; simp [go_sem])
        have y13 : A.eval (.tmp 13) = _ := Eq.trans (hf 13) (by conv => lhs; simp [go_sem])
        have y14 : A.eval (.tmp 14) = _ := Eq.trans (hf 14) (by conv => lhs; simp [go_sem])
        have y15 : A.eval (.tmp 15) = _ := Eq.trans (hf 15) (by conv => lhs; simp [go_sem])
        have y16 : A.eval (.tmp 16) = _ := Eq.trans (hf 16) (by conv => lhs; simp [go_sem])
        have y17 : A.eval (.tmp 17) = _ := Eq.trans (hf 17) (by conv => lhs; simp [go_sem])
        have y18 : A.eval (.tmp 18) = _ := Eq.trans (hf 18) (by conv => lhs; simp [go_sem])
        have y19 : A.eval (.tmp 19) = _ := Eq.trans (hf 19) (by conv => lhs; simp [go_sem])
        have y20 : A.eval (.tmp 20) = _ := Eq.trans (hf 20) (by conv => lhs; simp [go_sem])
        have y21 : A.eval (.tmp 21) = _ := hf 21
        have y22 : A.eval (.tmp 22) = _ := hf 22
        have y23 : A.eval (.tmp 23) = _ := hf 23
        have y24 : A.eval (.tmp 24) = _ := hf 24
        have y25 : A.eval (.tmp 25) = _ := hf 25
        have y26 : A.eval (.tmp 26) = _ := hf 26
        have y27 : A.eval (.tmp 27) = _ := hf 27
        have y28 : A.eval (.tmp 28) = _ := hf 28
        have y29 : A.eval (.tmp 29) = _ := hf 29
        have y30 : A.eval (.tmp 30) = _ := Eq.trans (hf 30) (by conv => lhs; simp [go_sem])
        have y31 : A.eval (.tmp 31) = _ := Eq.trans (hf 31) (by conv => lhs; simp [go_sem])
        have y32 : A.eval (.tmp 32) = _ := Eq.trans (hf 32) (by conv => lhs; simp [go_sem])
        have y33 : A.eval (.tmp 33) = _ := Eq.trans (hf 33) (by conv => lhs; simp [go_sem])
        have y34 : A.eval (.tmp 34) = _ := Eq.trans (hf 34) (by conv => lhs; simp [go_sem])
        have y35 : A.eval (.tmp 35) = _ := Eq.trans (hf 35) (by conv => lhs; simp [go_sem])
        have y36 : A.eval (.tmp 36) = _ := Eq.trans (hf 36) (by conv => lhs; simp [go_sem])
        have y37 : A.eval (.tmp 37) = _ := Eq.trans (hf 37) (by conv => lhs; simp [go_sem])
        have y38 : A.eval (.tmp 38) = _ := Eq.trans (hf 38) (by conv => lhs; simp [go_sem])
        have y39 : A.eval (.tmp 39) = _ := Eq.trans (hf 39) (by conv => lhs; simp [go_sem])
        have y40 : A.eval (.tmp 40) = _ := Eq.trans (hf 40) (by conv => lhs; simp [go_sem])
        have y41 : A.eval (.tmp 41) = _ := Eq.trans (hf 41) (by conv => lhs; simp [go_sem])
        have y42 : A.eval (.tmp 42) = _ := Eq.trans (hf 42) (by conv => lhs; simp [go_sem])
        have y43 : A.eval (.tmp 43) = _ := Eq.trans (hf 43) (by conv => lhs; simp [go_sem])
        have y44 : A.eval (.tmp 44) = _ := Eq.trans (hf 44) (by conv => lhs; simp [go_sem])
        have y45 : A.eval (.tmp 45) = _ := Eq.trans (hf 45) (by conv => lhs; simp [go_sem])
        have y46 : A.eval (.tmp 46) = _ := Eq.trans (hf 46) (by conv => lhs; simp [go_sem])
        have y47 : A.eval (.tmp 47) = _ := Eq.trans (hf 47) (by conv => lhs; simp [go_sem])
        have y48 : A.eval (.tmp 48) = _ := Eq.trans (hf 48) (by conv => lhs; simp [go_sem])
        have y49 : A.eval (.tmp 49) = _ := Eq.trans (hf 49) (by conv => lhs; simp [go_sem])
        have y50 : A.eval (.tmp 50) = _ := Eq.trans (hf 50) (by conv => lhs; simp [go_sem])
        have y51 : A.eval (.tmp 51) = _ := Eq.trans (hf 51) (by conv => lhs; simp [go_sem])
        have y52 : A.eval (.tmp 52) = _ := Eq.trans (hf 52) (by conv => lhs; simp [go_sem])
        have y53 : A.eval (.tmp 53) = _ := Eq.trans (hf 53) (by conv => lhs; simp [go_sem])
        have y54 : A.eval (.tmp 54) = _ := Eq.trans (hf 54) (by conv => lhs; simp [go_sem])
        have y55 : A.eval (.tmp 55) = _ := Eq.trans (hf 55) (by conv => lhs; simp [go_sem])
        have y56 : A.eval (.tmp 56) = _ := Eq.trans (hf 56) (by conv => lhs; simp [go_sem])
        have y57 : A.eval (.tmp 57) = _ := Eq.trans (hf 57) (by conv => lhs; simp [go_sem])
        have y58 : A.eval (.tmp 58) = _ := Eq.trans (hf 58) (by conv => lhs; simp [go_sem])
        have y59 : A.eval (.tmp 59) = _ := Eq.trans (hf 59) (by conv => lhs; simp [go_sem])
        have y60 : A.eval (.tmp 60) = _ := Eq.trans (hf 60) (by conv => lhs; simp [go_sem])
        have y61 : A.eval (.tmp 61) = _ := Eq.trans (hf 61) (by conv => lhs; simp [go_sem])
        have y62 : A.eval (.tmp 62) = _ := Eq.trans (hf 62) (by conv => lhs; simp [go_sem])
        have y63 : A.eval (.tmp 63) = _ := Eq.trans (hf 63) (by conv => lhs; simp [go_sem])
        have y64 : A.eval (.tmp 64) = _ := Eq.trans (hf 64) (by conv => lhs; simp [go_sem])
        have y65 : A.eval (.tmp 65) = _ := Eq.trans (hf 65) (by conv => lhs; simp [go_sem])
        have y66 : A.eval (.tmp 66) = _ := Eq.trans (hf 66) (by conv => lhs; simp [go_sem])
        have y67 : A.eval (.tmp 67) = _ := Eq.trans (hf 67) (by conv => lhs; simp [go_sem])
        have y68 : A.eval (.tmp 68) = _ := Eq.trans (hf 68) (by conv => lhs; simp [go_sem])
        have y69 : A.eval (.tmp 69) = _ := Eq.trans (hf 69) (by conv => lhs; simp [go_sem])
        have y70 : A.eval (.tmp 70) = _ := Eq.trans (hf 70) (by conv => lhs; simp [go_sem])
        have y71 : A.eval (.tmp 71) = _ := Eq.trans (hf 71) (by conv => lhs; simp [go_sem])
        have y72 : A.eval (.tmp 72) = _ := Eq.trans (hf 72) (by conv => lhs; simp [go_sem])
        have y73 : A.eval (.tmp 73) = _ := Eq.trans (hf 73) (by conv => lhs; simp [go_sem])
        have y74 : A.eval (.tmp 74) = _ := Eq.trans (hf 74) (by conv => lhs; simp [go_sem])
        clear hf
        have hA := frame_eq hn
        rw [show List.range 75 = [0, 1, 2, 3, 4, 5, 6, 7, 8, 9, 10, 11, 12, 13, 14, 15, 16, 17, 18, 19, 20, 21, 22, 23, 24, 25, 26, 27, 28, 29, 30, 31, 32, 33, 34, 35, 36, 37, 38, 39, 40, 41, 42, 43, 44, 45, 46, 47, 48, 49, 50, 51, 52, 53, 54, 55, 56, 57, 58, 59, 60, 61, 62, 63, 64, 65, 66, 67, 68, 69, 70, 71, 72, 73, 74] from rfl, hd] at hA
        simp only [List.map_cons, List.map_nil, y0, y1, y2, y3, y4, y5, y6, y7, y8, y9, y10, y11, y12, y13, y14, y15, y16, y17, y18, y19, y20, y21, y22, y23, y24, y25, y26, y27, y28, y29, y30, y31, y32, y33, y34, y35, y36, y37, y38, y39, y40, y41, y42, y43, y44, y45, y46, y47, y48, y49, y50, y51, y52, y53, y54, y55, y56, y57, y58, y59, y60, y61, y62, y63, y64, y65, y66, y67, y68, y69, y70, y71, y72, y73, y74] at hA
        clear y0 y1 y2 y3 y4 y5 y6 y7 y8 y9 y10 y11 y12 y13 y14 y15 y16 y17 y18 y19 y20 y21 y22 y23 y24 y25 y26 y27 y28 y29 y30 y31 y32 y33 y34 y35 y36 y37 y38 y39 y40 y41 y42 y43 y44 y45 y46 y47 y48 y49 y50 y51 y52 y53 y54 y55 y56 y57 y58 y59 y60 y61 y62 y63 y64 y65 y66 y67 y68 y69 y70 y71 y72 y73 y74
        clear hn hd
        subst hA
        have HB5 := Lib.hid (HB.out.trans (hC.mono HB.out.size))
        have HO5 := Lib.hid (HO.out.below hC)
        have HSW : Hid (w1.heap.size ≤ V5.heap.size) := HB5.out.size
        obtain ⟨_, p0, p1, p2, p3, p4, p5, p6⟩ := kc V5 hC
        clear hC kc HB HO cD
        go_wp2_with (at_builtin; refine vapp1_any rfl (.tmp 30) (.tmp 35) rfl V5 y rfl w1.heap.size (.slice ax xs.length cx) xs rfl rfl HO5.out HLE1.out HSW.out ?_; intro g1 cap1 wa ho9 hb9; have HO1 := Lib.hid ho9; have HA1 := Lib.hid hb9; clear ho9 hb9)
        go_roundw
        case rel => exact ⟨k + 1, some ⟨g1, 0, none⟩, cap1, xs ++ [y], by omega, by go_num, by rw [List.length_append]; rfl, HST.out, by have h9 := HO1.out; rw [List.length_append]; exact h9, HB5.out.trans HA1.out⟩
        case measure => simp [intOf]; omega
      | false =>
        rw [g3, if_neg (by simp), List.append_nil] at hst
        have HST := Lib.hid hst
        clear hst
        go_upto_region 5 with (fail)
        refine wp_region_typed (C := fun w' => Below wr.heap.size wr w') (X := fun w w' => Below w.heap.size w w') (n := 75) (by kernel_rfl) (by kernel_rfl) rfl (fun w => Below.refl _ w) (Below.refl _ _).drew ?_
        refine w_is (fun w => Below.refl _ w) _ (.inl rfl) (fun ρ w hC hc hfn hf => by have e4 : ρ (.tmp 4) = _ := hf 4 (by decide); (conv => lhs; simp [execOp, go_sem, hc, e4, kc w hC])) ?_
        refine w_is (fun w => Below.refl _ w) _ (.inl rfl) (fun ρ w hC hc hfn hf => by have e0 : ρ (.tmp 0) = _ := hf 0 (by decide); (conv => lhs; simp [execOp, go_sem, hc, e0])) ?_
        refine w_is (fun w => Below.refl _ w) _ (.inl rfl) (fun ρ w hC hc hfn hf => by have e8 : ρ (.tmp 8) = _ := hf 8 (by decide); (conv => lhs; simp [execOp, go_sem, hc, e8])) ?_
        refine w_is (fun w => Below.refl _ w) _ (.inl rfl) (fun ρ w hC hc hfn hf => by have e22 : ρ (.tmp 22) = _ := hf 22 (by decide); have e23 : ρ (.tmp 23) = _ := hf 23 (by decide); (conv => lhs; simp [execOp, go_sem, hc, e22, e23, hlt])) ?_
        refine w_is (fun w => Below.refl _ w) _ (.inl rfl) (fun ρ w hC hc hfn hf => by have e24 : ρ (.tmp 24) = _ := hf 24 (by decide); (conv => lhs; simp [execOp, go_sem, hc, e24])) ?_
        refine w_is (fun w => Below.refl _ w) _ (.inl rfl) (fun ρ w hC hc hfn hf => by have e25 : ρ (.tmp 25) = _ := hf 25 (by decide); (conv => lhs; simp [execOp, go_sem, hc, e25, kc w hC])) ?_
        refine w_call (Is _) (fun _ _ _ h _ => h) 12 (.inl rfl) (fun ρ w hC hc hfn hf => by have e21 : ρ (.tmp 21) = _ := hf 21 (by decide); have e26 : ρ (.tmp 26) = _ := hf 26 (by decide); exact ⟨_, by (conv => lhs; simp [execOp, resolve, invoke, go_sem, hc, hfn, e21, e26]), tc_below hC (cD w)⟩) ?_
        refine w_is (fun w => Below.refl _ w) _ (.inl rfl) (fun ρ w hC hc hfn hf => by have e2 : ρ (.tmp 2) = _ := hf 2 (by decide); (conv => lhs; simp [execOp, go_sem, hc, e2])) ?_
        refine w_is (fun w => Below.refl _ w) _ (.inl rfl) (fun ρ w hC hc hfn hf => by have e27 : ρ (.tmp 27) = _ := hf 27 (by decide); have e28 : ρ (.tmp 28) = _ := hf 28 (by decide); (conv => lhs; simp [execOp, go_sem, hc, e27, e28, g3])) ?_
        intro A V5 hC hn hd hf
        have y0 : A.eval (.tmp 0) = _ := Eq.trans (hf 0) (by conv => lhs; simp [go_sem])
        have y1 : A.eval (.tmp 1) = _ := Eq.trans (hf 1) (by conv => lhs; simp [go_sem])
        have y2 : A.eval (.tmp 2) = _ := Eq.trans (hf 2) (by conv => lhs; simp [go_sem])
        have y3 : A.eval (.tmp 3) = _ := Eq.trans (hf 3) (by conv => lhs; simp [go_sem])
        have y4 : A.eval (.tmp 4) = _ := Eq.trans (hf 4) (by conv => lhs; simp [go_sem])
        have y5 : A.eval (.tmp 5) = _ := Eq.trans (hf 5) (by conv => lhs; simp [go_sem])
        have y6 : A.eval (.tmp 6) = _ := Eq.trans (hf 6) (by conv => lhs; simp [go_sem])
        have y7 : A.eval (.tmp 7) = _ := Eq.trans (hf 7) (by conv => lhs; simp [go_sem])
        have y8 : A.eval (.tmp 8) = _ := Eq.trans (hf 8) (by conv => lhs; simp [go_sem])
        have y9 : A.eval (.tmp 9) = _ := Eq.trans (hf 9) (by conv => lhs; simp [go_sem])
        have y10 : A.eval (.tmp 10) = _ := Eq.trans (hf 10) (by conv => lhs; simp [go_sem])
        have y11 : A.eval (.tmp 11) = _ := Eq.trans (hf 11) (by conv => lhs; simp [go_sem])
        have y12 : A.eval (.tmp 12) = _ := Eq.trans (hf 12) (by conv => lhs; simp [go_sem])
        have y13 : A.eval (.tmp 13) = _ := Eq.trans (hf 13) (by conv => lhs; simp [go_sem])
        have y14 : A.eval (.tmp 14) = _ := Eq.trans (hf 14) (by conv => lhs; simp [go_sem])
        have y15 : A.eval (.tmp 15) = _ := Eq.trans (hf 15) (by conv => lhs; simp [go_sem])
        have y16 : A.eval (.tmp 16) = _ := Eq.trans (hf 16) (by conv => lhs; simp [go_sem])
        have y17 : A.eval (.tmp 17) = _ := Eq.trans (hf 17) (by conv => lhs; simp [go_sem])
        have y18 : A.eval (.tmp 18) = _ := Eq.trans (hf 18) (by conv => lhs; simp [go_sem])
        have y19 : A.eval (.tmp 19) = _ := Eq.trans (hf 19) (by conv => lhs; simp [go_sem])
        have y20 : A.eval (.tmp 20) = _ := Eq.trans (hf 20) (by conv => lhs; simp [go_sem])
        have y21 : A.eval (.tmp 21) = _ := hf 21
        have y22 : A.eval (.tmp 22) = _ := hf 22
        have y23 : A.eval (.tmp 23) = _ := hf 23
        have y24 : A.eval (.tmp 24) = _ := hf 24
        have y25 : A.eval (.tmp 25) = _ := hf 25
        have y26 : A.eval (.tmp 26) = _ := hf 26
        have y27 : A.eval (.tmp 27) = _ := hf 27
        have y28 : A.eval (.tmp 28) = _ := hf 28
        have y29 : A.eval (.tmp 29) = _ := hf 29
        have y30 : A.eval (.tmp 30) = _ := Eq.trans (hf 30) (by conv => lhs; simp [go_sem])
        have y31 : A.eval (.tmp 31) = _ := Eq.trans (hf 31) (by conv => lhs; simp [go_sem])
        have y32 : A.eval (.tmp 32) = _ := Eq.trans (hf 32) (by conv => lhs; simp [go_sem])
        have y33 : A.eval (.tmp 33) = _ := Eq.trans (hf 33) (by conv => lhs; simp [go_sem])
        have y34 : A.eval (.tmp 34) = _ := Eq.trans (hf 34) (by conv => lhs; simp [go_sem])
        have y35 : A.eval (.tmp 35) = _ := Eq.trans (hf 35) (by conv => lhs; simp [go_sem])
        have y36 : A.eval (.tmp 36) = _ := Eq.trans (hf 36) (by conv => lhs; simp [go_sem])
        have y37 : A.eval (.tmp 37) = _ := Eq.trans (hf 37) (by conv => lhs; simp [go_sem])
        have y38 : A.eval (.tmp 38) = _ := Eq.trans (hf 38) (by conv => lhs; simp [go_sem])
        have y39 : A.eval (.tmp 39) = _ := Eq.trans (hf 39) (by conv => lhs; simp [go_sem])
        have y40 : A.eval (.tmp 40) = _ := Eq.trans (hf 40) (by conv => lhs; simp [go_sem])
        have y41 : A.eval (.tmp 41) = _ := Eq.trans (hf 41) (by conv => lhs; simp [go_sem])
        have y42 : A.eval (.tmp 42) = _ := Eq.trans (hf 42) (by conv => lhs; simp [go_sem])
        have y43 : A.eval (.tmp 43) = _ := Eq.trans (hf 43) (by conv => lhs; simp [go_sem])
        have y44 : A.eval (.tmp 44) = _ := Eq.trans (hf 44) (by conv => lhs; simp [go_sem])
        have y45 : A.eval (.tmp 45) = _ := Eq.trans (hf 45) (by conv => lhs; simp [go_sem])
        have y46 : A.eval (.tmp 46) = _ := Eq.trans (hf 46) (by conv => lhs; simp [go_sem])
        have y47 : A.eval (.tmp 47) = _ := Eq.trans (hf 47) (by conv => lhs; simp [go_sem])
        have y48 : A.eval (.tmp 48) = _ := Eq.trans (hf 48) (by conv => lhs; simp [go_sem])
        have y49 : A.eval (.tmp 49) = _ := Eq.trans (hf 49) (by conv => lhs; simp [go_sem])
        have y50 : A.eval (.tmp 50) = _ := Eq.trans (hf 50) (by conv => lhs; simp [go_sem])
        have y51 : A.eval (.tmp 51) = _ := Eq.trans (hf 51) (by conv => lhs; simp [go_sem])
        have y52 : A.eval (.tmp 52) = _ := Eq.trans (hf 52) (by conv => lhs; simp [go_sem])
        have y53 : A.eval (.tmp 53) = _ := Eq.trans (hf 53) (by conv => lhs; simp [go_sem])
        have y54 : A.eval (.tmp 54) = _ := Eq.trans (hf 54) (by conv => lhs; simp [go_sem])
        have y55 : A.eval (.tmp 55) = _ := Eq.trans (hf 55) (by conv => lhs; simp [go_sem])
        have y56 : A.eval (.tmp 56) = _ := Eq.trans (hf 56) (by conv => lhs; simp [go_sem])
        have y57 : A.eval (.tmp 57) = _ := Eq.trans (hf 57) (by conv => lhs; simp [go_sem])
        have y58 : A.eval (.tmp 58) = _ := Eq.trans (hf 58) (by conv => lhs; simp [go_sem])
        have y59 : A.eval (.tmp 59) = _ := Eq.trans (hf 59) (by conv => lhs; simp [go_sem])
        have y60 : A.eval (.tmp 60) = _ := Eq.trans (hf 60) (by conv => lhs; simp [go_sem])
        have y61 : A.eval (.tmp 61) = _ := Eq.trans (hf 61) (by conv => lhs; simp [go_sem])
        have y62 : A.eval (.tmp 62) = _ := Eq.trans (hf 62) (by conv => lhs; simp [go_sem])
        have y63 : A.eval (.tmp 63) = _ := Eq.trans (hf 63) (by conv => lhs; simp [go_sem])
        have y64 : A.eval (.tmp 64) = _ := Eq.trans (hf 64) (by conv => lhs; simp [go_sem])
        have y65 : A.eval (.tmp 65) = _ := Eq.trans (hf 65) (by conv => lhs; simp [go_sem])
        have y66 : A.eval (.tmp 66) = _ := Eq.trans (hf 66) (by conv => lhs; simp [go_sem])
        have y67 : A.eval (.tmp 67) = _ := Eq.trans (hf 67) (by conv => lhs; simp [go_sem])
        have y68 : A.eval (.tmp 68) = _ := Eq.trans (hf 68) (by conv => lhs; simp [go_sem])
        have y69 : A.eval (.tmp 69) = _ := Eq.trans (hf 69) (by conv => lhs; simp [go_sem])
        have y70 : A.eval (.tmp 70) = _ := Eq.trans (hf 70) (by conv => lhs; simp [go_sem])
        have y71 : A.eval (.tmp 71) = _ := Eq.trans (hf 71) (by conv => lhs; simp [go_sem])
        have y72 : A.eval (.tmp 72) = _ := Eq.trans (hf 72) (by conv => lhs; simp [go_sem])
        have y73 : A.eval (.tmp 73) = _ := Eq.trans (hf 73) (by conv => lhs; simp [go_sem])
        have y74 : A.eval (.tmp 74) = _ := Eq.trans (hf 74) (by conv => lhs; simp [go_sem])
        clear hf
        have hA := frame_eq hn
        rw [show List.range 75 = [0, 1, 2, 3, 4, 5, 6, 7, 8, 9, 10, 11, 12, 13, 14, 15, 16, 17, 18, 19, 20, 21, 22, 23, 24, 25, 26, 27, 28, 29, 30, 31, 32, 33, 34, 35, 36, 37, 38, 39, 40, 41, 42, 43, 44, 45, 46, 47, 48, 49, 50, 51, 52, 53, 54, 55, 56, 57, 58, 59, 60, 61, 62, 63, 64, 65, 66, 67, 68, 69, 70, 71, 72, 73, 74] from rfl, hd] at hA
        simp only [List.map_cons, List.map_nil, y0, y1, y2, y3, y4, y5, y6, y7, y8, y9, y10, y11, y12, y13, y14, y15, y16, y17, y18, y19, y20, y21, y22, y23, y24, y25, y26, y27, y28, y29, y30, y31, y32, y33, y34, y35, y36, y37, y38, y39, y40, y41, y42, y43, y44, y45, y46, y47, y48, y49, y50, y51, y52, y53, y54, y55, y56, y57, y58, y59, y60, y61, y62, y63, y64, y65, y66, y67, y68, y69, y70, y71, y72, y73, y74] at hA
        clear y0 y1 y2 y3 y4 y5 y6 y7 y8 y9 y10 y11 y12 y13 y14 y15 y16 y17 y18 y19 y20 y21 y22 y23 y24 y25 y26 y27 y28 y29 y30 y31 y32 y33 y34 y35 y36 y37 y38 y39 y40 y41 y42 y43 y44 y45 y46 y47 y48 y49 y50 y51 y52 y53 y54 y55 y56 y57 y58 y59 y60 y61 y62 y63 y64 y65 y66 y67 y68 y69 y70 y71 y72 y73 y74
        clear hn hd
        subst hA
        have HB5 := Lib.hid (HB.out.trans (hC.mono HB.out.size))
        have HO5 := Lib.hid (HO.out.below hC)
        clear hC kc HB HO cD
        go_wp2_with fail
        go_roundw
        case rel => exact ⟨k + 1, ax, cx, xs, by omega, by go_num, rfl, HST.out, HO5.out, HB5.out⟩
        case measure => simp [intOf]; omega
    · obtain rfl : k = l.length := by omega
      have hxs := HF.out
      rw [List.take_length] at hxs
      have htl : ∀ y ∈ xs, tld y.2 = true := fun y hy => by
        rw [← hxs] at hy
        exact HFF.out _ (List.mem_filter.1 hy).2
      have hres : [] ++ (vordL xs).map (·.1) = R := by rw [← HR.out, ← hxs]; rfl
      have HT := Lib.hid htl
      have HRS := Lib.hid hres
      have HXL := Lib.hid hxl
      obtain ⟨wo, hwo⟩ : ∃ wo, wo = wr := ⟨_, rfl⟩
      subst hwo
      clear htl hres hxs hxl HF HFF HR
      go_wp2_with fail
      go_loopw [7, 9] (fun sv ov wr => ∃ (sa : Option Addr) (sc : Nat) (ss : List Vw) (oa : Option Addr) (oc : Nat) (os : List Int), sv = .slice sa ss.length sc ∧ ov = .slice oa os.length oc ∧ Hid (∀ y ∈ ss, tld y.2 = true) ∧ Hid (Vs wr (.slice sa ss.length sc) ss) ∧ Hid (OwI wr w1.heap.size (.slice oa os.length oc) os) ∧ Hid (os ++ (vordL ss).map (·.1) = R) ∧ Hid (os.length + ss.length ≤ 1000) ∧ Hid (Below w1.heap.size w1 wr)) (fun sv _ _ => slLen sv)
      case atStart => exact ⟨ax, cx, xs, none, 0, [], rfl, rfl, HT.out, HO.out.vs, OwI_nil wo _, HRS.out, by have := HXL.out; show _ + _ ≤ _; simp only [List.length_nil]; omega, HB.out⟩
      case round =>
        clear HT HO HRS HB HXL HLE1
        obtain ⟨sa, sc, ss, oa, oc, os, rfl, rfl, HT, HVS, HO, HRS, HLN, HB⟩ := hrel
        obtain ⟨wA, hwA⟩ : ∃ x, x = wr := ⟨_, rfl⟩
        subst hwA
        by_cases hs0 : ss = []
        · have hz : Zs wA (.slice oa os.length oc) R := by
            have h1 := HRS.out
            rw [hs0] at h1
            rw [← h1, show (vordL []).map (·.1) = ([] : List Int) from rfl, List.append_nil]
            exact HO.out.zs (by have := HLN.out; omega)
          have HZ := Lib.hid hz
          have HBX := Lib.hid (HB0.out.trans (HB.out.mono HB0.out.size))
          have hl0 : ss.length = 0 := by rw [hs0]; rfl
          clear hz hs0
          go_wp2_with fail
          go_ret
          exact ⟨_, rfl, HZ.out, HBX.out⟩
        · have hpos : 0 < ss.length := List.length_pos_iff.2 hs0
          obtain ⟨lw, hlw⟩ : ∃ z, (lowF ss).1 = z := ⟨_, rfl⟩
          obtain ⟨lb, hlb⟩ : ∃ z, (lowF ss).2 = z := ⟨_, rfl⟩
          have hvd := low_vord ss HT.out hs0
          rw [hlw] at hvd
          have C := Lib.hid (rvlow_any _ ss wA HVS.out (by have := HLN.out; omega))
          rw [hlw, hlb] at C
          have HVD := Lib.hid hvd
          obtain ⟨ns, hns⟩ : ∃ ns, ss.length = ns := ⟨_, rfl⟩
          have hnz : (0 : Int) < (ns : Int) := by omega
          have HNS := Lib.hid hns
          have hnb : ns ≤ 1000 := by have := HLN.out; omega
          rw [hns] at C ⊢
          clear hvd hlw hlb hs0 hpos hns
          go_wp2_with fail
          refine C.out.mono ?_
          rintro e V1 ⟨rfl, hb⟩
          obtain ⟨VL, hVL⟩ : ∃ VL, V1.alloc (.cells #[.int .i64 lw.1, .bool lw.2.1, .int .i64 lw.2.2.1, .int .i64 lw.2.2.2.1, .int .i64 lw.2.2.2.2.1, .int .i64 lw.2.2.2.2.2.1, .int .i64 lw.2.2.2.2.2.2] 43) = VL := ⟨_, rfl⟩
          have hbL : Below wA.heap.size wA VL := hVL ▸ hb.alloc hb.size _
          have OL := Lib.hid (hVL ▸ ownV_alloc V1 lw V1.heap.size rfl 43 : OwnV VL V1.heap.size lw)
          have HBL := Lib.hid hbL
          have HVL := Lib.hid hVL
          clear hb hVL hbL C
          go_upto_region 10 with (fail)
          rw [HVL.out]
          go_wp2_with fail
          go_loopw [12, 13, 14] (fun rv dv iv wr2 => ∃ (k : Nat) (ra : Option Addr) (rc : Nat) (rs : List Vw) (dn : Bool), k ≤ ns ∧ iv = .int .i64 k ∧ dv = .bool dn ∧ rv = .slice ra rs.length rc ∧ Hid ((ss.take k).foldl (rmS lw) ([], false) = (rs, dn)) ∧ Hid (OwV wr2 VL.heap.size (.slice ra rs.length rc) rs) ∧ Hid (Below VL.heap.size VL wr2)) (fun _ _ iv _ => ns - (intOf iv).toNat)
          case atStart => exact ⟨0, none, 0, [], false, Nat.zero_le _, rfl, rfl, rfl, rfl, OwV_nil VL _, Below.refl _ _⟩
          case round =>
            obtain ⟨k, ra, rc, rs, dn, hk, rfl, rfl, rfl, HF2, HO2, HB2⟩ := hrel
            have hrl : rs.length ≤ k := by
              have h1 := rm_len lw (ss.take k) ([], false)
              rw [HF2.out, List.length_take] at h1
              simp only [List.length_nil] at h1
              omega
            have HLE1 : Hid (rs.length ≤ 3000) := by show _ ≤ _; have := HLN.out; have := HNS.out; omega
            by_cases hlt : k < ns
            · have hst := rm_step lw ss k (by rw [HNS.out]; exact hlt)
              rw [HF2.out] at hst
              have hvs2 : Vs wr (.slice sa ss.length sc) ss := by
                have := (HVS.out.below HBL.out).below HB2.out
                exact this
              rw [HNS.out] at hvs2
              obtain ⟨b2, off, rfl, hB, p0, p1, p2, p3, p4, p5, p6⟩ := (show Vs wr (.slice sa ss.length sc) ss by rw [HNS.out]; exact hvs2).at (show k < ss.length by rw [HNS.out]; exact hlt)
              obtain ⟨y, hy⟩ : ∃ y, ss.getD k zVw = y := ⟨_, rfl⟩
              rw [hy] at p0 p1 p2 p3 p4 p5 p6 hst
              clear hy hvs2
              have hOL := OL.out.below HB2.out
              have kc : ∀ w', Below wr.heap.size wr w' → (w'.cell? ⟨b2, off + k * 7, none⟩ = some (.int .i64 y.1) ∧ w'.cell? ⟨b2, off + k * 7 + 1, none⟩ = some (.bool y.2.1) ∧ w'.cell? ⟨b2, off + k * 7 + 2, none⟩ = some (.int .i64 y.2.2.1) ∧ w'.cell? ⟨b2, off + k * 7 + 3, none⟩ = some (.int .i64 y.2.2.2.1) ∧ w'.cell? ⟨b2, off + k * 7 + 4, none⟩ = some (.int .i64 y.2.2.2.2.1) ∧ w'.cell? ⟨b2, off + k * 7 + 5, none⟩ = some (.int .i64 y.2.2.2.2.2.1) ∧ w'.cell? ⟨b2, off + k * 7 + 6, none⟩ = some (.int .i64 y.2.2.2.2.2.2)) ∧ (w'.cell? ⟨V1.heap.size, 0, none⟩ = some (.int .i64 lw.1) ∧ w'.cell? ⟨V1.heap.size, 1, none⟩ = some (.bool lw.2.1) ∧ w'.cell? ⟨V1.heap.size, 2, none⟩ = some (.int .i64 lw.2.2.1) ∧ w'.cell? ⟨V1.heap.size, 3, none⟩ = some (.int .i64 lw.2.2.2.1) ∧ w'.cell? ⟨V1.heap.size, 4, none⟩ = some (.int .i64 lw.2.2.2.2.1) ∧ w'.cell? ⟨V1.heap.size, 5, none⟩ = some (.int .i64 lw.2.2.2.2.2.1) ∧ w'.cell? ⟨V1.heap.size, 6, none⟩ = some (.int .i64 lw.2.2.2.2.2.2)) := fun w' hb => ⟨C7.below ⟨p0, p1, p2, p3, p4, p5, p6⟩ hb hB, by
                have h1 := (hOL.below hb).1
                simp only [C7, Nat.zero_add] at h1
                exact h1⟩
              clear p0 p1 p2 p3 p4 p5 p6 hB hOL
              cases dn with
              | true =>
                have hst2 : (ss.take (k + 1)).foldl (rmS lw) ([], false) = (rs ++ [y], true) := by rw [hst]; simp [rmS]
                have HST := Lib.hid hst2
                clear hst hst2
                go_upto_region 15 with (fail)
                refine wp_region_typed (C := fun w' => Below wr.heap.size wr w') (X := fun w w' => Below w.heap.size w w') (n := 75) (by kernel_rfl) (by kernel_rfl) rfl (fun w => Below.refl _ w) (Below.refl _ _).drew ?_
                refine w_is (fun w => Below.refl _ w) _ (.inl rfl) (fun ρ w hC hc hfn hf => by have e13 : ρ (.tmp 13) = _ := hf 13 (by decide); (conv => lhs; simp [execOp, go_sem, hc, e13])) ?_
                refine w_is (fun w => Below.refl _ w) _ (.inl rfl) (fun ρ w hC hc hfn hf => by have e51 : ρ (.tmp 51) = _ := hf 51 (by decide); (conv => lhs; simp [execOp, go_sem, hc, e51])) ?_
                refine w_is (fun w => Below.refl _ w) _ (.inl rfl) (fun ρ w hC hc hfn hf => by have e52 : ρ (.tmp 52) = _ := hf 52 (by decide); (conv => lhs; simp [execOp, go_sem, hc, e52])) ?_
                refine w_skip rfl rfl (known_is rfl) ?_
                refine w_skip rfl rfl (known_is rfl) ?_
                refine w_skip rfl rfl (known_is rfl) ?_
                refine w_skip rfl rfl (known_is rfl) ?_
                refine w_skip rfl rfl (known_is rfl) ?_
                refine w_skip rfl rfl (known_is rfl) ?_
                refine w_is (fun w => Below.refl _ w) _ (.inl rfl) (fun ρ w hC hc hfn hf => by have e53 : ρ (.tmp 53) = _ := hf 53 (by decide); have e59 : ρ (.tmp 59) = _ := hf 59 (by decide); (conv => lhs; simp [execOp, go_sem, hc, e53, e59])) ?_
                intro A V5 hC hn hd hf
                have y0 : A.eval (.tmp 0) = _ := Eq.trans (hf 0) (by conv => lhs; simp [go_sem])
                have y1 : A.eval (.tmp 1) = _ := Eq.trans (hf 1) (by conv => lhs; simp [go_sem])
                have y2 : A.eval (.tmp 2) = _ := Eq.trans (hf 2) (by conv => lhs; simp [go_sem])
                have y3 : A.eval (.tmp 3) = _ := Eq.trans (hf 3) (by conv => lhs; simp [go_sem])
                have y4 : A.eval (.tmp 4) = _ := Eq.trans (hf 4) (by conv => lhs; simp [go_sem])
                have y5 : A.eval (.tmp 5) = _ := Eq.trans (hf 5) (by conv => lhs; simp [go_sem])
                have y6 : A.eval (.tmp 6) = _ := Eq.trans (hf 6) (by conv => lhs; simp [go_sem])
                have y7 : A.eval (.tmp 7) = _ := Eq.trans (hf 7) (by conv => lhs; simp [go_sem])
                have y8 : A.eval (.tmp 8) = _ := Eq.trans (hf 8) (by conv => lhs; simp [go_sem])
                have y9 : A.eval (.tmp 9) = _ := Eq.trans (hf 9) (by conv => lhs; simp [go_sem])
                have y10 : A.eval (.tmp 10) = _ := Eq.trans (hf 10) (by conv => lhs; simp [go_sem])
                have y11 : A.eval (.tmp 11) = _ := Eq.trans (hf 11) (by conv => lhs; simp [go_sem])
                have y12 : A.eval (.tmp 12) = _ := Eq.trans (hf 12) (by conv => lhs; simp [go_sem])
                have y13 : A.eval (.tmp 13) = _ := Eq.trans (hf 13) (by conv => lhs; simp [go_sem])
                have y14 : A.eval (.tmp 14) = _ := Eq.trans (hf 14) (by conv => lhs; simp [go_sem])
                have y15 : A.eval (.tmp 15) = _ := Eq.trans (hf 15) (by conv => lhs; simp [go_sem])
                have y16 : A.eval (.tmp 16) = _ := Eq.trans (hf 16) (by conv => lhs; simp [go_sem])
                have y17 : A.eval (.tmp 17) = _ := Eq.trans (hf 17) (by conv => lhs; simp [go_sem])
                have y18 : A.eval (.tmp 18) = _ := Eq.trans (hf 18) (by conv => lhs; simp [go_sem])
                have y19 : A.eval (.tmp 19) = _ := Eq.trans (hf 19) (by conv => lhs; simp [go_sem])
                have y20 : A.eval (.tmp 20) = _ := Eq.trans (hf 20) (by conv => lhs; simp [go_sem])
                have y21 : A.eval (.tmp 21) = _ := Eq.trans (hf 21) (by conv => lhs; simp [go_sem])
                have y22 : A.eval (.tmp 22) = _ := Eq.trans (hf 22) (by conv => lhs; simp [go_sem])
                have y23 : A.eval (.tmp 23) = _ := Eq.trans (hf 23) (by conv => lhs; simp [go_sem])
                have y24 : A.eval (.tmp 24) = _ := Eq.trans (hf 24) (by conv => lhs; simp [go_sem])
                have y25 : A.eval (.tmp 25) = _ := Eq.trans (hf 25) (by conv => lhs; simp [go_sem])
                have y26 : A.eval (.tmp 26) = _ := Eq.trans (hf 26) (by conv => lhs; simp [go_sem])
                have y27 : A.eval (.tmp 27) = _ := Eq.trans (hf 27) (by conv => lhs; simp [go_sem])
                have y28 : A.eval (.tmp 28) = _ := Eq.trans (hf 28) (by conv => lhs; simp [go_sem])
                have y29 : A.eval (.tmp 29) = _ := Eq.trans (hf 29) (by conv => lhs; simp [go_sem])
                have y30 : A.eval (.tmp 30) = _ := Eq.trans (hf 30) (by conv => lhs; simp [go_sem])
                have y31 : A.eval (.tmp 31) = _ := Eq.trans (hf 31) (by conv => lhs; simp [go_sem])
                have y32 : A.eval (.tmp 32) = _ := Eq.trans (hf 32) (by conv => lhs; simp [go_sem])
                have y33 : A.eval (.tmp 33) = _ := Eq.trans (hf 33) (by conv => lhs; simp [go_sem])
                have y34 : A.eval (.tmp 34) = _ := Eq.trans (hf 34) (by conv => lhs; simp [go_sem])
                have y35 : A.eval (.tmp 35) = _ := Eq.trans (hf 35) (by conv => lhs; simp [go_sem])
                have y36 : A.eval (.tmp 36) = _ := Eq.trans (hf 36) (by conv => lhs; simp [go_sem])
                have y37 : A.eval (.tmp 37) = _ := Eq.trans (hf 37) (by conv => lhs; simp [go_sem])
                have y38 : A.eval (.tmp 38) = _ := Eq.trans (hf 38) (by conv => lhs; simp [go_sem])
                have y39 : A.eval (.tmp 39) = _ := Eq.trans (hf 39) (by conv => lhs; simp [go_sem])
                have y40 : A.eval (.tmp 40) = _ := Eq.trans (hf 40) (by conv => lhs; simp [go_sem])
                have y41 : A.eval (.tmp 41) = _ := Eq.trans (hf 41) (by conv => lhs; simp [go_sem])
                have y42 : A.eval (.tmp 42) = _ := Eq.trans (hf 42) (by conv => lhs; simp [go_sem])
                have y43 : A.eval (.tmp 43) = _ := Eq.trans (hf 43) (by conv => lhs; simp [go_sem])
                have y44 : A.eval (.tmp 44) = _ := Eq.trans (hf 44) (by conv => lhs; simp [go_sem])
                have y45 : A.eval (.tmp 45) = _ := Eq.trans (hf 45) (by conv => lhs; simp [go_sem])
                have y46 : A.eval (.tmp 46) = _ := Eq.trans (hf 46) (by conv => lhs; simp [go_sem])
                have y47 : A.eval (.tmp 47) = _ := Eq.trans (hf 47) (by conv => lhs; simp [go_sem])
                have y48 : A.eval (.tmp 48) = _ := Eq.trans (hf 48) (by conv => lhs; simp [go_sem])
                have y49 : A.eval (.tmp 49) = _ := Eq.trans (hf 49) (by conv => lhs; simp [go_sem])
                have y50 : A.eval (.tmp 50) = _ := Eq.trans (hf 50) (by conv => lhs; simp [go_sem])
                have y51 : A.eval (.tmp 51) = _ := hf 51
                have y52 : A.eval (.tmp 52) = _ := hf 52
                have y53 : A.eval (.tmp 53) = _ := hf 53
                have y54 : A.eval (.tmp 54) = _ := hf 54
                have y55 : A.eval (.tmp 55) = _ := hf 55
                have y56 : A.eval (.tmp 56) = _ := hf 56
                have y57 : A.eval (.tmp 57) = _ := hf 57
                have y58 : A.eval (.tmp 58) = _ := hf 58
                have y59 : A.eval (.tmp 59) = _ := hf 59
                have y60 : A.eval (.tmp 60) = _ := hf 60
                have y61 : A.eval (.tmp 61) = _ := Eq.trans (hf 61) (by conv => lhs; simp [go_sem])
                have y62 : A.eval (.tmp 62) = _ := Eq.trans (hf 62) (by conv => lhs; simp [go_sem])
                have y63 : A.eval (.tmp 63) = _ := Eq.trans (hf 63) (by conv => lhs; simp [go_sem])
                have y64 : A.eval (.tmp 64) = _ := Eq.trans (hf 64) (by conv => lhs; simp [go_sem])
                have y65 : A.eval (.tmp 65) = _ := Eq.trans (hf 65) (by conv => lhs; simp [go_sem])
                have y66 : A.eval (.tmp 66) = _ := Eq.trans (hf 66) (by conv => lhs; simp [go_sem])
                have y67 : A.eval (.tmp 67) = _ := Eq.trans (hf 67) (by conv => lhs; simp [go_sem])
                have y68 : A.eval (.tmp 68) = _ := Eq.trans (hf 68) (by conv => lhs; simp [go_sem])
                have y69 : A.eval (.tmp 69) = _ := Eq.trans (hf 69) (by conv => lhs; simp [go_sem])
                have y70 : A.eval (.tmp 70) = _ := Eq.trans (hf 70) (by conv => lhs; simp [go_sem])
                have y71 : A.eval (.tmp 71) = _ := Eq.trans (hf 71) (by conv => lhs; simp [go_sem])
                have y72 : A.eval (.tmp 72) = _ := Eq.trans (hf 72) (by conv => lhs; simp [go_sem])
                have y73 : A.eval (.tmp 73) = _ := Eq.trans (hf 73) (by conv => lhs; simp [go_sem])
                have y74 : A.eval (.tmp 74) = _ := Eq.trans (hf 74) (by conv => lhs; simp [go_sem])
                clear hf
                have hA := frame_eq hn
                rw [show List.range 75 = [0, 1, 2, 3, 4, 5, 6, 7, 8, 9, 10, 11, 12, 13, 14, 15, 16, 17, 18, 19, 20, 21, 22, 23, 24, 25, 26, 27, 28, 29, 30, 31, 32, 33, 34, 35, 36, 37, 38, 39, 40, 41, 42, 43, 44, 45, 46, 47, 48, 49, 50, 51, 52, 53, 54, 55, 56, 57, 58, 59, 60, 61, 62, 63, 64, 65, 66, 67, 68, 69, 70, 71, 72, 73, 74] from rfl, hd] at hA
                simp only [List.map_cons, List.map_nil, y0, y1, y2, y3, y4, y5, y6, y7, y8, y9, y10, y11, y12, y13, y14, y15, y16, y17, y18, y19, y20, y21, y22, y23, y24, y25, y26, y27, y28, y29, y30, y31, y32, y33, y34, y35, y36, y37, y38, y39, y40, y41, y42, y43, y44, y45, y46, y47, y48, y49, y50, y51, y52, y53, y54, y55, y56, y57, y58, y59, y60, y61, y62, y63, y64, y65, y66, y67, y68, y69, y70, y71, y72, y73, y74] at hA
                clear y0 y1 y2 y3 y4 y5 y6 y7 y8 y9 y10 y11 y12 y13 y14 y15 y16 y17 y18 y19 y20 y21 y22 y23 y24 y25 y26 y27 y28 y29 y30 y31 y32 y33 y34 y35 y36 y37 y38 y39 y40 y41 y42 y43 y44 y45 y46 y47 y48 y49 y50 y51 y52 y53 y54 y55 y56 y57 y58 y59 y60 y61 y62 y63 y64 y65 y66 y67 y68 y69 y70 y71 y72 y73 y74
                clear hn hd
                subst hA
                have HB5 := Lib.hid (HB2.out.trans (hC.mono HB2.out.size))
                have HO5 := Lib.hid (HO2.out.below hC)
                have HSW : Hid (VL.heap.size ≤ V5.heap.size) := HB5.out.size
                obtain ⟨⟨p0, p1, p2, p3, p4, p5, p6⟩, _⟩ := kc V5 hC
                clear hC kc HB2 HO2
                go_wp2_with (at_builtin; refine vapp1_any rfl (.tmp 61) (.tmp 66) rfl V5 y rfl VL.heap.size (.slice ra rs.length rc) rs rfl rfl HO5.out HLE1.out HSW.out ?_; intro g1 cap1 wa ho9 hb9; have HO1 := Lib.hid ho9; have HA1 := Lib.hid hb9; clear ho9 hb9)
                go_roundw
                case rel => exact ⟨k + 1, some ⟨g1, 0, none⟩, cap1, rs ++ [y], true, by omega, by go_num, rfl, by rw [List.length_append]; rfl, HST.out, by have h9 := HO1.out; rw [List.length_append]; exact h9, HB5.out.trans HA1.out⟩
                case measure => simp [intOf]; omega
              | false =>
                have E1 := guardVW
                have E2 := fun W => eqlVW y lw W
                cases hq : eqVw y lw with
                | true =>
                  rw [hq] at E2
                  have hst2 : (ss.take (k + 1)).foldl (rmS lw) ([], false) = (rs, true) := by rw [hst]; simp [rmS, eqVw_iff.1 hq]
                  have HST := Lib.hid hst2
                  clear hst hst2 hq
                  go_upto_region 15 with (fail)
                  refine wp_region_typed (C := fun w' => Below wr.heap.size wr w') (X := fun w w' => Below w.heap.size w w') (n := 75) (by kernel_rfl) (by kernel_rfl) rfl (fun w => Below.refl _ w) (Below.refl _ _).drew ?_
                  refine w_is (fun w => Below.refl _ w) _ (.inl rfl) (fun ρ w hC hc hfn hf => by have e13 : ρ (.tmp 13) = _ := hf 13 (by decide); (conv => lhs; simp [execOp, go_sem, hc, e13])) ?_
                  refine w_is (fun w => Below.refl _ w) _ (.inl rfl) (fun ρ w hC hc hfn hf => by have e51 : ρ (.tmp 51) = _ := hf 51 (by decide); (conv => lhs; simp [execOp, go_sem, hc, e51])) ?_
                  refine w_is (fun w => Below.refl _ w) _ (.inl rfl) (fun ρ w hC hc hfn hf => by have e52 : ρ (.tmp 52) = _ := hf 52 (by decide); (conv => lhs; simp [execOp, go_sem, hc, e52])) ?_
                  refine w_is (fun w => Below.refl _ w) _ (.inr ⟨2, 53, true, rfl, rfl, known_is rfl⟩) (fun ρ w hC hc hfn hf => by have e7 : ρ (.tmp 7) = _ := hf 7 (by decide); (conv => lhs; simp [execOp, go_sem, hc, e7])) ?_
                  refine w_is (fun w => Below.refl _ w) _ (.inr ⟨2, 53, true, rfl, rfl, known_is rfl⟩) (fun ρ w hC hc hfn hf => by have e14 : ρ (.tmp 14) = _ := hf 14 (by decide); (conv => lhs; simp [execOp, go_sem, hc, e14])) ?_
                  refine w_is (fun w => Below.refl _ w) _ (.inr ⟨2, 53, true, rfl, rfl, known_is rfl⟩) (fun ρ w hC hc hfn hf => by have e54 : ρ (.tmp 54) = _ := hf 54 (by decide); have e55 : ρ (.tmp 55) = _ := hf 55 (by decide); (conv => lhs; simp [execOp, go_sem, hc, e54, e55, hlt])) ?_
                  refine w_is (fun w => Below.refl _ w) _ (.inr ⟨2, 53, true, rfl, rfl, known_is rfl⟩) (fun ρ w hC hc hfn hf => by have e56 : ρ (.tmp 56) = _ := hf 56 (by decide); (conv => lhs; simp [execOp, go_sem, hc, e56, kc w hC])) ?_
                  refine w_is (fun w => Below.refl _ w) _ (.inr ⟨2, 53, true, rfl, rfl, known_is rfl⟩) (fun ρ w hC hc hfn hf => by have e10 : ρ (.tmp 10) = _ := hf 10 (by decide); (conv => lhs; simp [execOp, go_sem, hc, e10, kc w hC])) ?_
                  refine w_is (fun w => Below.refl _ w) _ (.inr ⟨2, 53, true, rfl, rfl, known_is rfl⟩) (fun ρ w hC hc hfn hf => by have e57 : ρ (.tmp 57) = _ := hf 57 (by decide); have e58 : ρ (.tmp 58) = _ := hf 58 (by decide); (conv => lhs; simp [execOp, go_sem, hc, e57, e58, E1, E2])) ?_
                  refine w_is (fun w => Below.refl _ w) _ (.inl rfl) (fun ρ w hC hc hfn hf => by have e53 : ρ (.tmp 53) = _ := hf 53 (by decide); have e59 : ρ (.tmp 59) = _ := hf 59 (by decide); (conv => lhs; simp [execOp, go_sem, hc, e53, e59])) ?_
                  intro A V5 hC hn hd hf
                  have y0 : A.eval (.tmp 0) = _ := Eq.trans (hf 0) (by conv => lhs; simp [go_sem])
                  have y1 : A.eval (.tmp 1) = _ := Eq.trans (hf 1) (by conv => lhs; simp [go_sem])
                  have y2 : A.eval (.tmp 2) = _ := Eq.trans (hf 2) (by conv => lhs; simp [go_sem])
                  have y3 : A.eval (.tmp 3) = _ := Eq.trans (hf 3) (by conv => lhs; simp [go_sem])
                  have y4 : A.eval (.tmp 4) = _ := Eq.trans (hf 4) (by conv => lhs; simp [go_sem])
                  have y5 : A.eval (.tmp 5) = _ := Eq.trans (hf 5) (by conv => lhs; simp [go_sem])
                  have y6 : A.eval (.tmp 6) = _ := Eq.trans (hf 6) (by conv => lhs; simp [go_sem])
                  have y7 : A.eval (.tmp 7) = _ := Eq.trans (hf 7) (by conv => lhs; simp [go_sem])
                  have y8 : A.eval (.tmp 8) = _ := Eq.trans (hf 8) (by conv => lhs; simp [go_sem])
                  have y9 : A.eval (.tmp 9) = _ := Eq.trans (hf 9) (by conv => lhs; simp [go_sem])
                  have y10 : A.eval (.tmp 10) = _ := Eq.trans (hf 10) (by conv => lhs; simp [go_sem])
                  have y11 : A.eval (.tmp 11) = _ := Eq.trans (hf 11) (by conv => lhs; simp [go_sem])
                  have y12 : A.eval (.tmp 12) = _ := Eq.trans (hf 12) (by conv => lhs; simp [go_sem])
                  have y13 : A.eval (.tmp 13) = _ := Eq.trans (hf 13) (by conv => lhs; simp [go_sem])
                  have y14 : A.eval (.tmp 14) = _ := Eq.trans (hf 14) (by conv => lhs; simp [go_sem])
                  have y15 : A.eval (.tmp 15) = _ := Eq.trans (hf 15) (by conv => lhs; simp [go_sem])
                  have y16 : A.eval (.tmp 16) = _ := Eq.trans (hf 16) (by conv => lhs; simp [go_sem])
                  have y17 : A.eval (.tmp 17) = _ := Eq.trans (hf 17) (by conv => lhs; simp [go_sem])
                  have y18 : A.eval (.tmp 18) = _ := Eq.trans (hf 18) (by conv => lhs; simp [go_sem])
                  have y19 : A.eval (.tmp 19) = _ := Eq.trans (hf 19) (by conv => lhs; simp [go_sem])
                  have y20 : A.eval (.tmp 20) = _ := Eq.trans (hf 20) (by conv => lhs; simp [go_sem])
                  have y21 : A.eval (.tmp 21) = _ := Eq.trans (hf 21) (by conv => lhs; simp [go_sem])
                  have y22 : A.eval (.tmp 22) = _ := Eq.trans (hf 22) (by conv => lhs; simp [go_sem])
                  have y23 : A.eval (.tmp 23) = _ := Eq.trans (hf 23) (by conv => lhs; simp [go_sem])
                  have y24 : A.eval (.tmp 24) = _ := Eq.trans (hf 24) (by conv => lhs; simp [go_sem])
                  have y25 : A.eval (.tmp 25) = _ := Eq.trans (hf 25) (by conv => lhs; simp [go_sem])
                  have y26 : A.eval (.tmp 26) = _ := Eq.trans (hf 26) (by conv => lhs; simp [go_sem])
                  have y27 : A.eval (.tmp 27) = _ := Eq.trans (hf 27) (by conv => lhs; simp [go_sem])
                  have y28 : A.eval (.tmp 28) = _ := Eq.trans (hf 28) (by conv => lhs; simp [go_sem])
                  have y29 : A.eval (.tmp 29) = _ := Eq.trans (hf 29) (by conv => lhs; simp [go_sem])
                  have y30 : A.eval (.tmp 30) = _ := Eq.trans (hf 30) (by conv => lhs; simp [go_sem])
                  have y31 : A.eval (.tmp 31) = _ := Eq.trans (hf 31) (by conv => lhs; simp [go_sem])
                  have y32 : A.eval (.tmp 32) = _ := Eq.trans (hf 32) (by conv => lhs; simp [go_sem])
                  have y33 : A.eval (.tmp 33) = _ := Eq.trans (hf 33) (by conv => lhs; simp [go_sem])
                  have y34 : A.eval (.tmp 34) = _ := Eq.trans (hf 34) (by conv => lhs; simp [go_sem])
                  have y35 : A.eval (.tmp 35) = _ := Eq.trans (hf 35) (by conv => lhs; simp [go_sem])
                  have y36 : A.eval (.tmp 36) = _ := Eq.trans (hf 36) (by conv => lhs; simp [go_sem])
                  have y37 : A.eval (.tmp 37) = _ := Eq.trans (hf 37) (by conv => lhs; simp [go_sem])
                  have y38 : A.eval (.tmp 38) = _ := Eq.trans (hf 38) (by conv => lhs; simp [go_sem])
                  have y39 : A.eval (.tmp 39) = _ := Eq.trans (hf 39) (by conv => lhs; simp [go_sem])
                  have y40 : A.eval (.tmp 40) = _ := Eq.trans (hf 40) (by conv => lhs; simp [go_sem])
                  have y41 : A.eval (.tmp 41) = _ := Eq.trans (hf 41) (by conv => lhs; simp [go_sem])
                  have y42 : A.eval (.tmp 42) = _ := Eq.trans (hf 42) (by conv => lhs; simp [go_sem])
                  have y43 : A.eval (.tmp 43) = _ := Eq.trans (hf 43) (by conv => lhs; simp [go_sem])
                  have y44 : A.eval (.tmp 44) = _ := Eq.trans (hf 44) (by conv => lhs; simp [go_sem])
                  have y45 : A.eval (.tmp 45) = _ := Eq.trans (hf 45) (by conv => lhs; simp [go_sem])
                  have y46 : A.eval (.tmp 46) = _ := Eq.trans (hf 46) (by conv => lhs; simp [go_sem])
                  have y47 : A.eval (.tmp 47) = _ := Eq.trans (hf 47) (by conv => lhs; simp [go_sem])
                  have y48 : A.eval (.tmp 48) = _ := Eq.trans (hf 48) (by conv => lhs; simp [go_sem])
                  have y49 : A.eval (.tmp 49) = _ := Eq.trans (hf 49) (by conv => lhs; simp [go_sem])
                  have y50 : A.eval (.tmp 50) = _ := Eq.trans (hf 50) (by conv => lhs; simp [go_sem])
                  have y51 : A.eval (.tmp 51) = _ := hf 51
                  have y52 : A.eval (.tmp 52) = _ := hf 52
                  have y53 : A.eval (.tmp 53) = _ := hf 53
                  have y54 : A.eval (.tmp 54) = _ := hf 54
                  have y55 : A.eval (.tmp 55) = _ := hf 55
                  have y56 : A.eval (.tmp 56) = _ := hf 56
                  have y57 : A.eval (.tmp 57) = _ := hf 57
                  have y58 : A.eval (.tmp 58) = _ := hf 58
                  have y59 : A.eval (.tmp 59) = _ := hf 59
                  have y60 : A.eval (.tmp 60) = _ := hf 60
                  have y61 : A.eval (.tmp 61) = _ := Eq.trans (hf 61) (by conv => lhs; simp [go_sem])
                  have y62 : A.eval (.tmp 62) = _ := Eq.trans (hf 62) (by conv => lhs; simp [go_sem])
                  have y63 : A.eval (.tmp 63) = _ := Eq.trans (hf 63) (by conv => lhs; simp [go_sem])
                  have y64 : A.eval (.tmp 64) = _ := Eq.trans (hf 64) (by conv => lhs; simp [go_sem])
                  have y65 : A.eval (.tmp 65) = _ := Eq.trans (hf 65) (by conv => lhs; simp [go_sem])
                  have y66 : A.eval (.tmp 66) = _ := Eq.trans (hf 66) (by conv => lhs; simp [go_sem])
                  have y67 : A.eval (.tmp 67) = _ := Eq.trans (hf 67) (by conv => lhs; simp [go_sem])
                  have y68 : A.eval (.tmp 68) = _ := Eq.trans (hf 68) (by conv => lhs; simp [go_sem])
                  have y69 : A.eval (.tmp 69) = _ := Eq.trans (hf 69) (by conv => lhs; simp [go_sem])
                  have y70 : A.eval (.tmp 70) = _ := Eq.trans (hf 70) (by conv => lhs; simp [go_sem])
                  have y71 : A.eval (.tmp 71) = _ := Eq.trans (hf 71) (by conv => lhs; simp [go_sem])
                  have y72 : A.eval (.tmp 72) = _ := Eq.trans (hf 72) (by conv => lhs; simp [go_sem])
                  have y73 : A.eval (.tmp 73) = _ := Eq.trans (hf 73) (by conv => lhs; simp [go_sem])
                  have y74 : A.eval (.tmp 74) = _ := Eq.trans (hf 74) (by conv => lhs; simp [go_sem])
                  clear hf
                  have hA := frame_eq hn
                  rw [show List.range 75 = [0, 1, 2, 3, 4, 5, 6, 7, 8, 9, 10, 11, 12, 13, 14, 15, 16, 17, 18, 19, 20, 21, 22, 23, 24, 25, 26, 27, 28, 29, 30, 31, 32, 33, 34, 35, 36, 37, 38, 39, 40, 41, 42, 43, 44, 45, 46, 47, 48, 49, 50, 51, 52, 53, 54, 55, 56, 57, 58, 59, 60, 61, 62, 63, 64, 65, 66, 67, 68, 69, 70, 71, 72, 73, 74] from rfl, hd] at hA
                  simp only [List.map_cons, List.map_nil, y0, y1, y2, y3, y4, y5, y6, y7, y8, y9, y10, y11, y12, y13, y14, y15, y16, y17, y18, y19, y20, y21, y22, y23, y24, y25, y26, y27, y28, y29, y30, y31, y32, y33, y34, y35, y36, y37, y38, y39, y40, y41, y42, y43, y44, y45, y46, y47, y48, y49, y50, y51, y52, y53, y54, y55, y56, y57, y58, y59, y60, y61, y62, y63, y64, y65, y66, y67, y68, y69, y70, y71, y72, y73, y74] at hA
                  clear y0 y1 y2 y3 y4 y5 y6 y7 y8 y9 y10 y11 y12 y13 y14 y15 y16 y17 y18 y19 y20 y21 y22 y23 y24 y25 y26 y27 y28 y29 y30 y31 y32 y33 y34 y35 y36 y37 y38 y39 y40 y41 y42 y43 y44 y45 y46 y47 y48 y49 y50 y51 y52 y53 y54 y55 y56 y57 y58 y59 y60 y61 y62 y63 y64 y65 y66 y67 y68 y69 y70 y71 y72 y73 y74
                  clear hn hd
                  subst hA
                  have HB5 := Lib.hid (HB2.out.trans (hC.mono HB2.out.size))
                  have HO5 := Lib.hid (HO2.out.below hC)
                  clear hC kc HB2 HO2 E1 E2
                  go_wp2_with fail
                  go_roundw
                  case rel => exact ⟨k + 1, ra, rc, rs, true, by omega, by go_num, rfl, rfl, HST.out, HO5.out, HB5.out⟩
                  case measure => simp [intOf]; omega
                | false =>
                  rw [hq] at E2
                  have hne : y ≠ lw := fun e => by rw [eqVw_iff.2 e] at hq; cases hq
                  have hst2 : (ss.take (k + 1)).foldl (rmS lw) ([], false) = (rs ++ [y], false) := by rw [hst]; simp [rmS, hne]
                  have HST := Lib.hid hst2
                  clear hst hst2 hq hne
                  go_upto_region 15 with (fail)
                  refine wp_region_typed (C := fun w' => Below wr.heap.size wr w') (X := fun w w' => Below w.heap.size w w') (n := 75) (by kernel_rfl) (by kernel_rfl) rfl (fun w => Below.refl _ w) (Below.refl _ _).drew ?_
                  refine w_is (fun w => Below.refl _ w) _ (.inl rfl) (fun ρ w hC hc hfn hf => by have e13 : ρ (.tmp 13) = _ := hf 13 (by decide); (conv => lhs; simp [execOp, go_sem, hc, e13])) ?_
                  refine w_is (fun w => Below.refl _ w) _ (.inl rfl) (fun ρ w hC hc hfn hf => by have e51 : ρ (.tmp 51) = _ := hf 51 (by decide); (conv => lhs; simp [execOp, go_sem, hc, e51])) ?_
                  refine w_is (fun w => Below.refl _ w) _ (.inl rfl) (fun ρ w hC hc hfn hf => by have e52 : ρ (.tmp 52) = _ := hf 52 (by decide); (conv => lhs; simp [execOp, go_sem, hc, e52])) ?_
                  refine w_is (fun w => Below.refl _ w) _ (.inr ⟨2, 53, true, rfl, rfl, known_is rfl⟩) (fun ρ w hC hc hfn hf => by have e7 : ρ (.tmp 7) = _ := hf 7 (by decide); (conv => lhs; simp [execOp, go_sem, hc, e7])) ?_
                  refine w_is (fun w => Below.refl _ w) _ (.inr ⟨2, 53, true, rfl, rfl, known_is rfl⟩) (fun ρ w hC hc hfn hf => by have e14 : ρ (.tmp 14) = _ := hf 14 (by decide); (conv => lhs; simp [execOp, go_sem, hc, e14])) ?_
                  refine w_is (fun w => Below.refl _ w) _ (.inr ⟨2, 53, true, rfl, rfl, known_is rfl⟩) (fun ρ w hC hc hfn hf => by have e54 : ρ (.tmp 54) = _ := hf 54 (by decide); have e55 : ρ (.tmp 55) = _ := hf 55 (by decide); (conv => lhs; simp [execOp, go_sem, hc, e54, e55, hlt])) ?_
                  refine w_is (fun w => Below.refl _ w) _ (.inr ⟨2, 53, true, rfl, rfl, known_is rfl⟩) (fun ρ w hC hc hfn hf => by have e56 : ρ (.tmp 56) = _ := hf 56 (by decide); (conv => lhs; simp [execOp, go_sem, hc, e56, kc w hC])) ?_
                  refine w_is (fun w => Below.refl _ w) _ (.inr ⟨2, 53, true, rfl, rfl, known_is rfl⟩) (fun ρ w hC hc hfn hf => by have e10 : ρ (.tmp 10) = _ := hf 10 (by decide); (conv => lhs; simp [execOp, go_sem, hc, e10, kc w hC])) ?_
                  refine w_is (fun w => Below.refl _ w) _ (.inr ⟨2, 53, true, rfl, rfl, known_is rfl⟩) (fun ρ w hC hc hfn hf => by have e57 : ρ (.tmp 57) = _ := hf 57 (by decide); have e58 : ρ (.tmp 58) = _ := hf 58 (by decide); (conv => lhs; simp [execOp, go_sem, hc, e57, e58, E1, E2])) ?_
                  refine w_is (fun w => Below.refl _ w) _ (.inl rfl) (fun ρ w hC hc hfn hf => by have e53 : ρ (.tmp 53) = _ := hf 53 (by decide); have e59 : ρ (.tmp 59) = _ := hf 59 (by decide); (conv => lhs; simp [execOp, go_sem, hc, e53, e59])) ?_
                  intro A V5 hC hn hd hf
                  have y0 : A.eval (.tmp 0) = _ := Eq.trans (hf 0) (by conv => lhs; simp [go_sem])
                  have y1 : A.eval (.tmp 1) = _ := Eq.trans (hf 1) (by conv => lhs; simp [go_sem])
                  have y2 : A.eval (.tmp 2) = _ := Eq.trans (hf 2) (by conv => lhs; simp [go_sem])
                  have y3 : A.eval (.tmp 3) = _ := Eq.trans (hf 3) (by conv => lhs; simp [go_sem])
                  have y4 : A.eval (.tmp 4) = _ := Eq.trans (hf 4) (by conv => lhs; simp [go_sem])
                  have y5 : A.eval (.tmp 5) = _ := Eq.trans (hf 5) (by conv => lhs; simp [go_sem])
                  have y6 : A.eval (.tmp 6) = _ := Eq.trans (hf 6) (by conv => lhs; simp [go_sem])
                  have y7 : A.eval (.tmp 7) = _ := Eq.trans (hf 7) (by conv => lhs; simp [go_sem])
                  have y8 : A.eval (.tmp 8) = _ := Eq.trans (hf 8) (by conv => lhs; simp [go_sem])
                  have y9 : A.eval (.tmp 9) = _ := Eq.trans (hf 9) (by conv => lhs; simp [go_sem])
                  have y10 : A.eval (.tmp 10) = _ := Eq.trans (hf 10) (by conv => lhs; simp [go_sem])
                  have y11 : A.eval (.tmp 11) = _ := Eq.trans (hf 11) (by conv => lhs; simp [go_sem])
                  have y12 : A.eval (.tmp 12) = _ := Eq.trans (hf 12) (by conv => lhs; simp [go_sem])
                  have y13 : A.eval (.tmp 13) = _ := Eq.trans (hf 13) (by conv => lhs; simp [go_sem])
                  have y14 : A.eval (.tmp 14) = _ := Eq.trans (hf 14) (by conv => lhs; simp [go_sem])
                  have y15 : A.eval (.tmp 15) = _ := Eq.trans (hf 15) (by conv => lhs; simp [go_sem])
                  have y16 : A.eval (.tmp 16) = _ := Eq.trans (hf 16) (by conv => lhs; simp [go_sem])
                  have y17 : A.eval (.tmp 17) = _ := Eq.trans (hf 17) (by conv => lhs; simp [go_sem])
                  have y18 : A.eval (.tmp 18) = _ := Eq.trans (hf 18) (by conv => lhs; simp [go_sem])
                  have y19 : A.eval (.tmp 19) = _ := Eq.trans (hf 19) (by conv => lhs; simp [go_sem])
                  have y20 : A.eval (.tmp 20) = _ := Eq.trans (hf 20) (by conv => lhs; simp [go_sem])
                  have y21 : A.eval (.tmp 21) = _ := Eq.trans (hf 21) (by conv => lhs; simp [go_sem])
                  have y22 : A.eval (.tmp 22) = _ := Eq.trans (hf 22) (by conv => lhs; simp [go_sem])
                  have y23 : A.eval (.tmp 23) = _ := Eq.trans (hf 23) (by conv => lhs; simp [go_sem])
                  have y24 : A.eval (.tmp 24) = _ := Eq.trans (hf 24) (by conv => lhs; simp [go_sem])
                  have y25 : A.eval (.tmp 25) = _ := Eq.trans (hf 25) (by conv => lhs; simp [go_sem])
                  have y26 : A.eval (.tmp 26) = _ := Eq.trans (hf 26) (by conv => lhs; simp [go_sem])
                  have y27 : A.eval (.tmp 27) = _ := Eq.trans (hf 27) (by conv => lhs; simp [go_sem])
                  have y28 : A.eval (.tmp 28) = _ := Eq.trans (hf 28) (by conv => lhs; simp [go_sem])
                  have y29 : A.eval (.tmp 29) = _ := Eq.trans (hf 29) (by conv => lhs; simp [go_sem])
                  have y30 : A.eval (.tmp 30) = _ := Eq.trans (hf 30) (by conv => lhs; simp [go_sem])
                  have y31 : A.eval (.tmp 31) = _ := Eq.trans (hf 31) (by conv => lhs; simp [go_sem])
                  have y32 : A.eval (.tmp 32) = _ := Eq.trans (hf 32) (by conv => lhs; simp [go_sem])
                  have y33 : A.eval (.tmp 33) = _ := Eq.trans (hf 33) (by conv => lhs; simp [go_sem])
                  have y34 : A.eval (.tmp 34) = _ := Eq.trans (hf 34) (by conv => lhs; simp [go_sem])
                  have y35 : A.eval (.tmp 35) = _ := Eq.trans (hf 35) (by conv => lhs; simp [go_sem])
                  have y36 : A.eval (.tmp 36) = _ := Eq.trans (hf 36) (by conv => lhs; simp [go_sem])
                  have y37 : A.eval (.tmp 37) = _ := Eq.trans (hf 37) (by conv => lhs; simp [go_sem])
                  have y38 : A.eval (.tmp 38) = _ := Eq.trans (hf 38) (by conv => lhs; simp [go_sem])
                  have y39 : A.eval (.tmp 39) = _ := Eq.trans (hf 39) (by conv => lhs; simp [go_sem])
                  have y40 : A.eval (.tmp 40) = _ := Eq.trans (hf 40) (by conv => lhs; simp [go_sem])
                  have y41 : A.eval (.tmp 41) = _ := Eq.trans (hf 41) (by conv => lhs; simp [go_sem])
                  have y42 : A.eval (.tmp 42) = _ := Eq.trans (hf 42) (by conv => lhs; simp [go_sem])
                  have y43 : A.eval (.tmp 43) = _ := Eq.trans (hf 43) (by conv => lhs; simp [go_sem])
                  have y44 : A.eval (.tmp 44) = _ := Eq.trans (hf 44) (by conv => lhs; simp [go_sem])
                  have y45 : A.eval (.tmp 45) = _ := Eq.trans (hf 45) (by conv => lhs; simp [go_sem])
                  have y46 : A.eval (.tmp 46) = _ := Eq.trans (hf 46) (by conv => lhs; simp [go_sem])
                  have y47 : A.eval (.tmp 47) = _ := Eq.trans (hf 47) (by conv => lhs; simp [go_sem])
                  have y48 : A.eval (.tmp 48) = _ := Eq.trans (hf 48) (by conv => lhs; simp [go_sem])
                  have y49 : A.eval (.tmp 49) = _ := Eq.trans (hf 49) (by conv => lhs; simp [go_sem])
                  have y50 : A.eval (.tmp 50) = _ := Eq.trans (hf 50) (by conv => lhs; simp [go_sem])
                  have y51 : A.eval (.tmp 51) = _ := hf 51
                  have y52 : A.eval (.tmp 52) = _ := hf 52
                  have y53 : A.eval (.tmp 53) = _ := hf 53
                  have y54 : A.eval (.tmp 54) = _ := hf 54
                  have y55 : A.eval (.tmp 55) = _ := hf 55
                  have y56 : A.eval (.tmp 56) = _ := hf 56
                  have y57 : A.eval (.tmp 57) = _ := hf 57
                  have y58 : A.eval (.tmp 58) = _ := hf 58
                  have y59 : A.eval (.tmp 59) = _ := hf 59
                  have y60 : A.eval (.tmp 60) = _ := hf 60
                  have y61 : A.eval (.tmp 61) = _ := Eq.trans (hf 61) (by conv => lhs; simp [go_sem])
                  have y62 : A.eval (.tmp 62) = _ := Eq.trans (hf 62) (by conv => lhs; simp [go_sem])
                  have y63 : A.eval (.tmp 63) = _ := Eq.trans (hf 63) (by conv => lhs; simp [go_sem])
                  have y64 : A.eval (.tmp 64) = _ := Eq.trans (hf 64) (by conv => lhs; simp [go_sem])
                  have y65 : A.eval (.tmp 65) = _ := Eq.trans (hf 65) (by conv => lhs; simp [go_sem])
                  have y66 : A.eval (.tmp 66) = _ := Eq.trans (hf 66) (by conv => lhs; simp [go_sem])
                  have y67 : A.eval (.tmp 67) = _ := Eq.trans (hf 67) (by conv => lhs; simp [go_sem])
                  have y68 : A.eval (.tmp 68) = _ := Eq.trans (hf 68) (by conv => lhs; simp [go_sem])
                  have y69 : A.eval (.tmp 69) = _ := Eq.trans (hf 69) (by conv => lhs; simp [go_sem])
                  have y70 : A.eval (.tmp 70) = _ := Eq.trans (hf 70) (by conv => lhs; simp [go_sem])
                  have y71 : A.eval (.tmp 71) = _ := Eq.trans (hf 71) (by conv => lhs; simp [go_sem])
                  have y72 : A.eval (.tmp 72) = _ := Eq.trans (hf 72) (by conv => lhs; simp [go_sem])
                  have y73 : A.eval (.tmp 73) = _ := Eq.trans (hf 73) (by conv => lhs; simp [go_sem])
                  have y74 : A.eval (.tmp 74) = _ := Eq.trans (hf 74) (by conv => lhs; simp [go_sem])
                  clear hf
                  have hA := frame_eq hn
                  rw [show List.range 75 = [0, 1, 2, 3, 4, 5, 6, 7, 8, 9, 10, 11, 12, 13, 14, 15, 16, 17, 18, 19, 20, 21, 22, 23, 24, 25, 26, 27, 28, 29, 30, 31, 32, 33, 34, 35, 36, 37, 38, 39, 40, 41, 42, 43, 44, 45, 46, 47, 48, 49, 50, 51, 52, 53, 54, 55, 56, 57, 58, 59, 60, 61, 62, 63, 64, 65, 66, 67, 68, 69, 70, 71, 72, 73, 74] from rfl, hd] at hA
                  simp only [List.map_cons, List.map_nil, y0, y1, y2, y3, y4, y5, y6, y7, y8, y9, y10, y11, y12, y13, y14, y15, y16, y17, y18, y19, y20, y21, y22, y23, y24, y25, y26, y27, y28, y29, y30, y31, y32, y33, y34, y35, y36, y37, y38, y39, y40, y41, y42, y43, y44, y45, y46, y47, y48, y49, y50, y51, y52, y53, y54, y55, y56, y57, y58, y59, y60, y61, y62, y63, y64, y65, y66, y67, y68, y69, y70, y71, y72, y73, y74] at hA
                  clear y0 y1 y2 y3 y4 y5 y6 y7 y8 y9 y10 y11 y12 y13 y14 y15 y16 y17 y18 y19 y20 y21 y22 y23 y24 y25 y26 y27 y28 y29 y30 y31 y32 y33 y34 y35 y36 y37 y38 y39 y40 y41 y42 y43 y44 y45 y46 y47 y48 y49 y50 y51 y52 y53 y54 y55 y56 y57 y58 y59 y60 y61 y62 y63 y64 y65 y66 y67 y68 y69 y70 y71 y72 y73 y74
                  clear hn hd
                  subst hA
                  have HB5 := Lib.hid (HB2.out.trans (hC.mono HB2.out.size))
                  have HO5 := Lib.hid (HO2.out.below hC)
                  have HSW : Hid (VL.heap.size ≤ V5.heap.size) := HB5.out.size
                  obtain ⟨⟨p0, p1, p2, p3, p4, p5, p6⟩, _⟩ := kc V5 hC
                  clear hC kc HB2 HO2
                  go_wp2_with (at_builtin; refine vapp1_any rfl (.tmp 61) (.tmp 66) rfl V5 y rfl VL.heap.size (.slice ra rs.length rc) rs rfl rfl HO5.out HLE1.out HSW.out ?_; intro g1 cap1 wa ho9 hb9; have HO1 := Lib.hid ho9; have HA1 := Lib.hid hb9; clear ho9 hb9)
                  go_roundw
                  case rel => exact ⟨k + 1, some ⟨g1, 0, none⟩, cap1, rs ++ [y], false, by omega, by go_num, rfl, by rw [List.length_append]; rfl, HST.out, by have h9 := HO1.out; rw [List.length_append]; exact h9, HB5.out.trans HA1.out⟩
                  case measure => simp [intOf]; omega
            · obtain rfl : k = ns := by omega
              have hrs := rm_go lw ss []
              have hf := HF2.out
              rw [← HNS.out, List.take_length] at hf
              rw [hf, List.nil_append] at hrs
              simp only at hrs
              have hvd := HVD.out
              rw [← hrs] at hvd
              have hlen : rs.length + 1 = k := by
                have h1 := congrArg List.length hvd
                rw [List.length_cons, (vord_perm _).length_eq, (vord_perm _).length_eq, HNS.out] at h1
                omega
              have ht2 : ∀ y ∈ rs, tld y.2 = true := fun y hy => HT.out y (rm1_sub (z := lw) (by rw [← hrs]; exact hy))
              have hr2 : (os ++ [lw.1]) ++ (vordL rs).map (·.1) = R := by
                rw [← HRS.out, hvd]
                simp
              have HT2 := Lib.hid ht2
              have HR2 := Lib.hid hr2
              have HLN2 := Lib.hid hlen
              have hb9 : Below wA.heap.size wA wr := HBL.out.trans (HB2.out.mono HBL.out.size)
              have HO5 := Lib.hid (HO.out.below hb9)
              have HB5 := Lib.hid (HB.out.trans (hb9.mono HB.out.size))
              have HSW : Hid (w1.heap.size ≤ wr.heap.size) := HB5.out.size
              have HLE2 : Hid (os.length ≤ 3000) := by show _ ≤ _; have := HLN.out; omega
              have hap : ∀ q, (Value.slice oa os.length oc).ownBlock = some q → (Value.slice ra rs.length rc).ownBlock ≠ some q := fun q hq hq2 => by
                have h1 := (World.ownsRow.lt HO.out q hq).2
                have h2 := (World.ownsRow.lt HO2.out q hq2).1
                have h3 := HBL.out.size
                omega
              have HAP := Lib.hid hap
              have hOL := (OL.out.below HB2.out).1.1
              clear hrs hf hvd hlen ht2 hr2 hap hb9 hrl HF2
              go_wp2_with (at_builtin; refine iapp3_any rfl (.tmp 68) (.tmp 71) rfl wr lw.1 rfl w1.heap.size (.slice oa os.length oc) os rfl rfl HO5.out HLE2.out HSW.out ?_; intro g1 cap1 wa ho9 hb9 hk9; have HO1 := Lib.hid ho9; have HA1 := Lib.hid hb9; have HV1 := Lib.hid (hk9 _ _ _ HO2.out HAP.out); clear ho9 hb9 hk9)
              go_roundw
              case rel => exact ⟨ra, rc, rs, some ⟨g1, 0, none⟩, cap1, os ++ [lw.1], rfl, by rw [List.length_append]; rfl, HT2.out, HV1.out.vs, by have h9 := HO1.out; rw [List.length_append]; exact h9, HR2.out, by have := HLN.out; have := HLN2.out; have := HNS.out; show _ + _ ≤ _; rw [List.length_append, List.length_cons, List.length_nil]; omega, HB5.out.trans HA1.out⟩
              case measure => have := HLN2.out; have := HNS.out; simp [slLen]; omega
end Go.Proofs.Ytmimgpnogjgliaa

namespace Go.Proofs.Ytmimgpnogjgliaa
set_option maxRecDepth 100000
open Go.RowKit

set_option maxHeartbeats 4000000 in
theorem rdown_any (v : Value) (l : List Vw) (own : Hx) (w : World) (hv : Vs w v l) (hl : l.length ≤ 1000) :
    Calls Try.prog 15 #[v, hxV own] w fun e w' => ∃ r, e = .returned r ∧ Zs w' r (dirI l own 1) ∧ Below w.heap.size w w' := by
  obtain ⟨w1, hw1⟩ : ∃ w1, w.alloc (.cells #[.bool own.1, .int .i64 own.2.1, .int .i64 own.2.2.1, .int .i64 own.2.2.2.1, .int .i64 own.2.2.2.2.1, .int .i64 own.2.2.2.2.2] 24) = w1 := ⟨_, rfl⟩
  have hb0 : Below w.heap.size w w1 := hw1 ▸ (Below.refl _ w).alloc (Nat.le_refl _) _
  have ov : Own6 w1 w.heap.size own.1 own.2.1 own.2.2.1 own.2.2.2.1 own.2.2.2.2.1 own.2.2.2.2.2 := hw1 ▸ own6_alloc w own.1 own.2.1 own.2.2.1 own.2.2.2.1 own.2.2.2.2.1 own.2.2.2.2.2 24 w.heap.size rfl
  have C := Lib.hid (rof_any v l own 1 (by decide) w1 (hv.below hb0) hl)
  have HB0 := Lib.hid hb0
  have HW1 := Lib.hid hw1
  have HO := Lib.hid ov
  obtain ⟨a, c, rfl⟩ := hv.form
  clear hv hb0 hw1 ov
  go_enter Try.func15, Try.ntmps15
  go_upto_region 1 with (fail)
  rw [HW1.out]
  obtain ⟨⟨q0, q1, q2, q3, q4, q5⟩, _⟩ := HO.out
  go_wp2_with fail
  refine C.out.mono ?_
  rintro e w2 ⟨r, rfl, hz, hb⟩
  have HZ := Lib.hid hz
  have HB := Lib.hid (HB0.out.trans (hb.mono HB0.out.size))
  clear hz hb q0 q1 q2 q3 q4 q5
  go_wp2_with fail
  go_ret
  exact ⟨_, rfl, HZ.out, HB.out⟩
set_option maxHeartbeats 4000000 in
theorem rups_any (v : Value) (l : List Vw) (own : Hx) (w : World) (hv : Vs w v l) (hl : l.length ≤ 1000) :
    Calls Try.prog 17 #[v, hxV own] w fun e w' => ∃ r, e = .returned r ∧ Zs w' r (dirI l own 2) ∧ Below w.heap.size w w' := by
  obtain ⟨w1, hw1⟩ : ∃ w1, w.alloc (.cells #[.bool own.1, .int .i64 own.2.1, .int .i64 own.2.2.1, .int .i64 own.2.2.2.1, .int .i64 own.2.2.2.2.1, .int .i64 own.2.2.2.2.2] 24) = w1 := ⟨_, rfl⟩
  have hb0 : Below w.heap.size w w1 := hw1 ▸ (Below.refl _ w).alloc (Nat.le_refl _) _
  have ov : Own6 w1 w.heap.size own.1 own.2.1 own.2.2.1 own.2.2.2.1 own.2.2.2.2.1 own.2.2.2.2.2 := hw1 ▸ own6_alloc w own.1 own.2.1 own.2.2.1 own.2.2.2.1 own.2.2.2.2.1 own.2.2.2.2.2 24 w.heap.size rfl
  have C := Lib.hid (rof_any v l own 2 (by decide) w1 (hv.below hb0) hl)
  have HB0 := Lib.hid hb0
  have HW1 := Lib.hid hw1
  have HO := Lib.hid ov
  obtain ⟨a, c, rfl⟩ := hv.form
  clear hv hb0 hw1 ov
  go_enter Try.func17, Try.ntmps17
  go_upto_region 1 with (fail)
  rw [HW1.out]
  obtain ⟨⟨q0, q1, q2, q3, q4, q5⟩, _⟩ := HO.out
  go_wp2_with fail
  refine C.out.mono ?_
  rintro e w2 ⟨r, rfl, hz, hb⟩
  have HZ := Lib.hid hz
  have HB := Lib.hid (HB0.out.trans (hb.mono HB0.out.size))
  clear hz hb q0 q1 q2 q3 q4 q5
  go_wp2_with fail
  go_ret
  exact ⟨_, rfl, HZ.out, HB.out⟩
set_option maxHeartbeats 4000000 in
theorem rnext_any (v : Value) (l : List Vw) (own : Hx) (w : World) (hv : Vs w v l) (hl : l.length ≤ 1000) :
    Calls Try.prog 10 #[v, hxV own] w fun e w' => e = .returned (.tuple #[.int .i64 (nxtF l own).1, .bool (nxtF l own).2]) ∧ Below w.heap.size w w' := by
  obtain ⟨w1, hw1⟩ : ∃ w1, w.alloc (.cells #[.bool own.1, .int .i64 own.2.1, .int .i64 own.2.2.1, .int .i64 own.2.2.2.1, .int .i64 own.2.2.2.2.1, .int .i64 own.2.2.2.2.2] 24) = w1 := ⟨_, rfl⟩
  have hb0 : Below w.heap.size w w1 := hw1 ▸ (Below.refl _ w).alloc (Nat.le_refl _) _
  have ov : Own6 w1 w.heap.size own.1 own.2.1 own.2.2.1 own.2.2.2.1 own.2.2.2.2.1 own.2.2.2.2.2 := hw1 ▸ own6_alloc w own.1 own.2.1 own.2.2.1 own.2.2.2.1 own.2.2.2.2.1 own.2.2.2.2.2 24 w.heap.size rfl
  have C := Lib.hid (rdown_any v l own w1 (hv.below hb0) hl)
  obtain ⟨R, hR⟩ : ∃ R, dirI l own 1 = R := ⟨_, rfl⟩
  have hx : nxtF l own = (R.headD 0, !R.isEmpty) := by unfold nxtF; rw [hR]
  rw [hx]
  rw [hR] at C
  have HB0 := Lib.hid hb0
  have HW1 := Lib.hid hw1
  have HO := Lib.hid ov
  obtain ⟨a, c, rfl⟩ := hv.form
  clear hv hb0 hw1 ov hR hx
  go_enter Try.func10, Try.ntmps10
  go_upto_region 1 with (fail)
  rw [HW1.out]
  obtain ⟨⟨q0, q1, q2, q3, q4, q5⟩, _⟩ := HO.out
  go_wp2_with fail
  refine C.out.mono ?_
  rintro e w2 ⟨r, rfl, hz, hb⟩
  have HB := Lib.hid (HB0.out.trans (hb.mono HB0.out.size))
  clear hb q0 q1 q2 q3 q4 q5
  obtain ⟨a3, c3, h3, _, _, h4⟩ := Zs_open hz
  subst h3
  cases R with
  | nil =>
    clear h4 hz
    simp only [List.length_nil]
    go_wp2_with fail
    exact bodyPost_ret (v := .tuple #[.int .i64 0, .bool false]) (by simp [results, Try.results10, go_sem]) rfl ⟨rfl, HB.out⟩
  | cons x R =>
    obtain ⟨b4, off4, rfl, h5⟩ := h4 0 (by simp)
    have h6 : w2.cell? ⟨b4, off4, none⟩ = some (.int .i64 x) := h5
    obtain ⟨n, hn⟩ : ∃ n, (x :: R).length = n := ⟨_, rfl⟩
    have hn0 : (0 : Int) < (n : Int) := by rw [← hn]; simp
    have hn1 : ¬ (n : Int) = 0 := by omega
    rw [hn]
    clear h5 h4 hz hn
    go_wp2_with fail
    exact bodyPost_ret (v := .tuple #[.int .i64 x, .bool true]) (by simp [results, Try.results10, go_sem]) rfl ⟨rfl, HB.out⟩
end Go.Proofs.Ytmimgpnogjgliaa
