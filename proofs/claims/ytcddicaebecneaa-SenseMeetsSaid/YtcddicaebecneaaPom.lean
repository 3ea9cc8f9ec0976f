/- Whether a beacon says that the sensor was heard (isSeen). No conditions but on lengths. Those that were not heard for too long are forgotten (Tick). No conditions. A beacon is taken in (Hear). No conditions but on lengths. A new sensor (New); what a sensor that is nil answers. No conditions. -/
import Derived.Test.YtcddicaebecneaaPo5
import Derived.Test.YtcddicaebecneaaHea
import Derived.Test.YtcddicaebecneaaSn6
import Derived.Test.YtcddicaebecneaaPo6
import Derived.Test.YtcddicaebecneaaSn12
namespace Go.Proofs.Ytcddicaebecneaa
set_option maxRecDepth 100000
open Go.RowKit

set_option maxHeartbeats 8000000 in
theorem seen_any (b m : Nat) (s : Sn) (M : Int) (v : Value) (ys : List (Int × Int)) (w : World) (h : PAt w b m s) (hE : El w v ys) (hl : ys.length ≤ 3000) :
    Calls Try.prog 32 #[.pointer (some ⟨b, 0, none⟩), .agg #[.int .i64 M, v]] w fun e w' => e = .returned (.bool (seesB s ys)) ∧ Below w.heap.size w w' := by
  obtain ⟨R, hR⟩ : ∃ R, seesB s ys = R := ⟨_, rfl⟩
  rw [hR]
  obtain ⟨W1, hW1⟩ : ∃ W1, w.alloc (.cells #[.int .i64 M, v] 34) = W1 := ⟨_, rfl⟩
  have hb1 : Below w.heap.size w W1 := hW1 ▸ (Below.refl _ w).alloc (Nat.le_refl _) _
  obtain ⟨a, c, hv⟩ := hE.1.form
  have ob1 : OwnB2 W1 w.heap.size M v := hW1 ▸ ownb2_alloc w M v 34 w.heap.size rfl
  obtain ⟨g0, hg0⟩ : ∃ g0, w.heap.size = g0 := ⟨_, rfl⟩
  have hs1 : g0 < W1.heap.size := by rw [← hg0, ← hW1]; simp
  rw [hg0] at ob1
  have h1 := h.below hb1
  have hE1 := hE.below hb1
  obtain ⟨n, hn⟩ : ∃ n, (hear ys s.id).getD 0 = n := ⟨_, rfl⟩
  obtain ⟨k, hk⟩ : ∃ k, (hear ys s.id).isSome = k := ⟨_, rfl⟩
  have cH : ∀ w', Below W1.heap.size W1 w' → Calls Try.prog 24 #[.agg #[.int .i64 M, v], .int .i64 s.id] w' fun e w'' => e = .returned (.tuple #[.int .i64 n, .bool k]) ∧ Below w'.heap.size w' w'' := fun w' hb => by
    have := heard_any M v ys s.id w' (hE1.below hb) hl
    rwa [hn, hk] at this
  have kc : ∀ w', Below W1.heap.size W1 w' → w'.cell? ⟨b, 0, none⟩ = some (.int .i64 s.id) ∧ w'.cell? ⟨g0, 0, none⟩ = some (.int .i64 M) ∧ w'.cell? ⟨g0, 1, none⟩ = some v := fun w' hb =>
    ⟨(h1.below hb).c0, (b2_low ob1 hs1 hb).1.1, (b2_low ob1 hs1 hb).1.2⟩
  have HR := Lib.hid hR
  have HN := Lib.hid (And.intro hn hk)
  have HW1 := Lib.hid hW1
  have HB1 := Lib.hid hb1
  have HG := Lib.hid hg0
  have H1 := Lib.hid h1
  have HV := Lib.hid hv
  clear h hE hl hR hW1 hb1 ob1 hg0 hs1 h1 hE1 hn hk hv
  go_enter Try.func32, Try.ntmps32
  go_upto_region 1 with (fail)
  rw [HW1.out]
  simp only [HG.out]
  refine wp_region_typed (C := fun w' => Below W1.heap.size W1 w') (X := fun w w' => Below w.heap.size w w') (n := 25) (by kernel_rfl) (by kernel_rfl) rfl (fun w => Below.refl _ w) (Below.refl _ _).drew ?_
  refine w_is (fun w => Below.refl _ w) _ (.inl rfl) (fun ρ w hC hc hfn hf => by have e3 : ρ (.tmp 3) = _ := hf 3 (by decide); (conv => lhs; simp [execOp, go_sem, hc, e3, kc w hC])) ?_
  refine w_is (fun w => Below.refl _ w) _ (.inl rfl) (fun ρ w hC hc hfn hf => by have e0 : ρ (.tmp 0) = _ := hf 0 (by decide); (conv => lhs; simp [execOp, go_sem, hc, e0])) ?_
  refine w_is (fun w => Below.refl _ w) _ (.inl rfl) (fun ρ w hC hc hfn hf => by have e9 : ρ (.tmp 9) = _ := hf 9 (by decide); (conv => lhs; simp [execOp, go_sem, hc, e9])) ?_
  refine w_is (fun w => Below.refl _ w) _ (.inl rfl) (fun ρ w hC hc hfn hf => by have e10 : ρ (.tmp 10) = _ := hf 10 (by decide); (conv => lhs; simp [execOp, go_sem, hc, e10])) ?_
  refine w_is (fun w => Below.refl _ w) _ (.inl rfl) (fun ρ w hC hc hfn hf => by have e11 : ρ (.tmp 11) = _ := hf 11 (by decide); (conv => lhs; simp [execOp, go_sem, hc, e11, kc w hC])) ?_
  refine w_call (Is _) (fun _ _ _ h _ => h) 24 (.inl rfl) (fun ρ w hC hc hfn hf => by have e8 : ρ (.tmp 8) = _ := hf 8 (by decide); have e12 : ρ (.tmp 12) = _ := hf 12 (by decide); exact ⟨_, by (conv => lhs; simp [execOp, resolve, invoke, go_sem, hc, hfn, e8, e12]), tc_below hC (cH w hC)⟩) ?_
  refine w_is (fun w => Below.refl _ w) _ (.inl rfl) (fun ρ w hC hc hfn hf => by have e13 : ρ (.tmp 13) = _ := hf 13 (by decide); (conv => lhs; simp [execOp, go_sem, hc, e13])) ?_
  refine w_is (fun w => Below.refl _ w) _ (.inl rfl) (fun ρ w hC hc hfn hf => by have e7 : ρ (.tmp 7) = _ := hf 7 (by decide); (conv => lhs; simp [execOp, go_sem, hc, e7])) ?_
  refine w_is (fun w => Below.refl _ w) _ (.inl rfl) (fun ρ w hC hc hfn hf => by have e7 : ρ (.tmp 7) = _ := hf 7 (by decide); (conv => lhs; simp [execOp, go_sem, hc, e7])) ?_
  refine w_is (fun w => Below.refl _ w) _ (.inl rfl) (fun ρ w hC hc hfn hf => by have e14 : ρ (.tmp 14) = _ := hf 14 (by decide); (conv => lhs; simp [execOp, go_sem, hc, e14])) ?_
  refine w_is (fun w => Below.refl _ w) _ (.inl rfl) (fun ρ w hC hc hfn hf => by have e15 : ρ (.tmp 15) = _ := hf 15 (by decide); (conv => lhs; simp [execOp, go_sem, hc, e15])) ?_
  intro A V5 hC hn hd hf
  have y0 : A.eval (.tmp 0) = _ := Eq.trans (hf 0) (by conv => lhs; simp [go_sem])
  have y1 : A.eval (.tmp 1) = _ := Eq.trans (hf 1) (by conv => lhs; simp [go_sem])
  have y2 : A.eval (.tmp 2) = _ := Eq.trans (hf 2) (by conv => lhs; simp [go_sem])
  have y3 : A.eval (.tmp 3) = _ := Eq.trans (hf 3) (by conv => lhs; simp [go_sem])
  have y4 : A.eval (.tmp 4) = _ := Eq.trans (hf 4) (by conv => lhs; simp [go_sem])
  have y5 : A.eval (.tmp 5) = _ := hf 5
  have y6 : A.eval (.tmp 6) = _ := hf 6
  have y7 : A.eval (.tmp 7) = _ := hf 7
  have y8 : A.eval (.tmp 8) = _ := hf 8
  have y9 : A.eval (.tmp 9) = _ := hf 9
  have y10 : A.eval (.tmp 10) = _ := hf 10
  have y11 : A.eval (.tmp 11) = _ := hf 11
  have y12 : A.eval (.tmp 12) = _ := hf 12
  have y13 : A.eval (.tmp 13) = _ := hf 13
  have y14 : A.eval (.tmp 14) = _ := hf 14
  have y15 : A.eval (.tmp 15) = _ := hf 15
  have y16 : A.eval (.tmp 16) = _ := Eq.trans (hf 16) (by conv => lhs; simp [go_sem])
  have y17 : A.eval (.tmp 17) = _ := Eq.trans (hf 17) (by conv => lhs; simp [go_sem])
  have y18 : A.eval (.tmp 18) = _ := Eq.trans (hf 18) (by conv => lhs; simp [go_sem])
  have y19 : A.eval (.tmp 19) = _ := Eq.trans (hf 19) (by conv => lhs; simp [go_sem])
  have y20 : A.eval (.tmp 20) = _ := Eq.trans (hf 20) (by conv => lhs; simp [go_sem])
  have y21 : A.eval (.tmp 21) = _ := Eq.trans (hf 21) (by conv => lhs; simp [go_sem])
  have y22 : A.eval (.tmp 22) = _ := Eq.trans (hf 22) (by conv => lhs; simp [go_sem])
  have y23 : A.eval (.tmp 23) = _ := Eq.trans (hf 23) (by conv => lhs; simp [go_sem])
  have y24 : A.eval (.tmp 24) = _ := Eq.trans (hf 24) (by conv => lhs; simp [go_sem])
  clear hf
  have hA := frame_eq hn
  rw [show List.range 25 = [0, 1, 2, 3, 4, 5, 6, 7, 8, 9, 10, 11, 12, 13, 14, 15, 16, 17, 18, 19, 20, 21, 22, 23, 24] from rfl, hd] at hA
  simp only [List.map_cons, List.map_nil, y0, y1, y2, y3, y4, y5, y6, y7, y8, y9, y10, y11, y12, y13, y14, y15, y16, y17, y18, y19, y20, y21, y22, y23, y24] at hA
  clear y0 y1 y2 y3 y4 y5 y6 y7 y8 y9 y10 y11 y12 y13 y14 y15 y16 y17 y18 y19 y20 y21 y22 y23 y24
  clear hn hd
  subst hA
  have c1 := (H1.out.below hC).c1
  have HBF : Hid (Below w.heap.size w V5) := HB1.out.trans (hC.mono HB1.out.size)
  clear cH kc hC
  cases hh : hear ys s.id with
  | none =>
    have e1 : false = k := by rw [← HN.out.2, hh]; rfl
    have e2 : false = R := by rw [← HR.out]; unfold seesB; rw [hh]; rfl
    have E2 := Lib.hid e2
    rw [← e1]
    clear hh e1 e2
    go_wp2_with fail
    go_ret
    rw [← E2.out]
    exact ⟨rfl, HG.out ▸ HBF.out⟩
  | some n' =>
    have e1 : true = k := by rw [← HN.out.2, hh]; rfl
    have e3 : n' = n := by rw [← HN.out.1, hh]; rfl
    have e2 : decide (n = s.ep) = R := by rw [← HR.out]; unfold seesB; rw [hh, e3]; simp
    have E2 := Lib.hid e2
    rw [← e1]
    clear hh e1 e2 e3
    go_wp2_with fail
    go_ret
    rw [← E2.out]
    exact ⟨rfl, HG.out ▸ HBF.out⟩
end Go.Proofs.Ytcddicaebecneaa

namespace Go.Proofs.Ytcddicaebecneaa
set_option maxRecDepth 100000
open Go.RowKit

theorem tn_same (id : Int) (y : Hd) : tnO id y y = [] := by
  unfold tnO
  by_cases h : y.2.2.2 = true
  · rw [if_pos ⟨h, h, rfl⟩]
  · rw [if_neg (fun g => h g.1), if_neg h, if_neg h]; rfl
theorem tn_zero (id : Int) (y : Hd) : tnO id y zHd = if y.2.2.2 = true then [(2, id, y.2.1)] else [] := by
  unfold tnO
  rw [if_neg (fun g => by have := g.2.1; cases this)]
  show _ ++ [] = _
  rw [List.append_nil]
theorem sw_tick (now hold : Int) (L : List Hd) (hL : L.length = 64) (k : Nat) (hk : k ≤ 64) : swO L (tkL now hold L 64) k = tkO now hold L k := by
  induction k with
  | zero => rfl
  | succ k ih =>
    show swO L (tkL now hold L 64) k ++ tnO _ _ _ = tkO now hold L k ++ _
    rw [ih (by omega), tkL_get now hold L hL k (by omega)]
    congr 1
    unfold frg
    cases hg : gon now hold (L.getD k zHd) with
    | true =>
      rw [if_pos rfl, tn_zero]
      by_cases ht : (L.getD k zHd).2.2.2 = true
      · rw [if_pos ht, if_pos ⟨rfl, ht⟩]
      · rw [if_neg ht, if_neg (fun g => ht g.2)]
    | false =>
      rw [if_neg (by decide), tn_same, if_neg (fun g => by have := g.1; cases this)]
theorem tkL_len (now hold : Int) (L : List Hd) (k : Nat) : (tkL now hold L k).length = L.length := by
  unfold tkL
  rw [List.length_append, List.length_map, List.length_take, List.length_drop]
  omega
theorem set_same {L : List Hd} {k : Nat} {z : Hd} (h : L.getD k zHd = z) (hk : k < L.length) : L.set k z = L := by
  refine List.ext_getElem (by simp) fun i h1 h2 => ?_
  rw [List.getElem_set]
  split
  · rename_i e
    subst e
    rw [← h]
    simp [List.getD, hk]
  · rfl
/-- What is laid at a place that is held too long, and what is told of one that is not. -/
theorem tk_step {now hold : Int} {L : List Hd} (hL : L.length = 64) {k : Nat} (hk : k < 64) {y : Hd} (hy : L.getD k zHd = y) {n0 : Int} (hok : HdOk n0 y) :
    (hold < now - y.2.2.1 → tkL now hold L (k + 1) = (tkL now hold L k).set k zHd) ∧ (¬ hold < now - y.2.2.1 → tkL now hold L (k + 1) = tkL now hold L k) := by
  obtain ⟨m1, m2, m3⟩ := tkL_at now hold L k (by omega)
  rw [hy] at m1 m2 m3
  refine ⟨fun h => ?_, fun h => m2 (by unfold gon; rw [decide_eq_false h, Bool.and_false])⟩
  cases e : y.1 with
  | true => exact m3 (by unfold gon; rw [e, decide_eq_true h]; rfl)
  | false =>
    rw [m2 (by unfold gon; rw [e]; rfl)]
    have hz := hok.1 e
    rw [hz] at m1
    exact (set_same m1 (by rw [tkL_len, hL]; exact hk)).symm
set_option maxHeartbeats 16000000 in
theorem tick_any (b m : Nat) (s : Sn) (now : Int) (w : World) (h : PAt w b m s) :
    Calls Try.prog 13 #[.pointer (some ⟨b, 0, none⟩), .int .i64 now] w fun e w' => ∃ r m', e = .returned (.tuple #[r, .int .i64 (tickE s now)]) ∧ Evs w' r (tickO s now) ∧ PAt w' b m' (tickS s now) ∧ (m' = m ∨ w.heap.size ≤ m') ∧ Chg (fun k => k = b) w w' ∧ ∀ g, r.ownBlock = some g → w.heap.size ≤ g ∧ g ≠ m' := by
  have mixed : Try.prog.follows .mixedOrders = true := by kernel_rfl
  have C := Lib.hid (since_any b m s now w h)
  have HLEN : Hid (s.L.length = 64) := h.mem.2
  obtain ⟨Z, hZ⟩ : ∃ Z, mcs 0 (List.replicate 64 zHd) = Z := ⟨_, rfl⟩
  have hz := zeroTM
  rw [hZ] at hz
  have hZs : Z.size = 257 := by rw [← hZ]; exact mcs_size List.length_replicate 0
  have HZ := Lib.hid hZ
  have H := Lib.hid h
  obtain ⟨E, hE⟩ : ∃ E, tickE s now = E := ⟨_, rfl⟩
  rw [hE]
  have HE := Lib.hid hE
  clear h hZ hE
  go_enter Try.func13, Try.ntmps13
  go_wp2_with fail
  refine C.out.mono ?_
  rintro e w1 ⟨rfl, hb1⟩
  have HB1 := Lib.hid hb1
  have H1 := Lib.hid (H.out.below hb1)
  obtain ⟨g, hg⟩ : ∃ g, w1.heap.size = g := ⟨_, rfl⟩
  have HG := Lib.hid hg
  clear hb1 C hg
  cases ht : tmB s now with
  | false =>
    have hsn : sinN s now = 0 := by unfold sinN; rw [ht]; rfl
    have hsl : sinL s now = List.replicate 64 zHd := by unfold sinL; rw [ht]; rfl
    rw [hsn, hsl]
    have e1 : tickO s now = [] := by unfold tickO; rw [ht]; rfl
    have e2 : tickE s now = 1 := by unfold tickE; rw [ht]; rfl
    have e3 : tickS s now = s := by unfold tickS; rw [ht]; rfl
    have E4 := Lib.hid (And.intro e1 (And.intro e2 e3))
    rw [HZ.out]
    have hm0 : Mem (w1.alloc (.cells Z 73)) w1.heap.size 0 (List.replicate 64 zHd) := HZ.out ▸ mem_new w1 0 List.length_replicate
    have hst := storeC_mem hm0 0 (L := List.replicate 64 zHd) List.length_replicate
    rw [HZ.out] at hst
    have hbw : Below w1.heap.size w1 ((w1.alloc (.cells Z 73)).setRow w1.heap.size Z) := below_setRow ((Below.refl _ w1).alloc (Nat.le_refl _) _) (Nat.le_refl _) _
    obtain ⟨W2, hW2⟩ : ∃ W2, (w1.alloc (.cells Z 73)).setRow w1.heap.size Z = W2 := ⟨_, rfl⟩
    rw [hW2] at hst hbw
    have HBW := Lib.hid hbw
    clear e1 e2 e3 ht hsn hsl hm0 hbw hW2
    go_wp2_with fail
    refine bodyPost_ret (v := .tuple #[.slice none 0 0, .int .i64 1]) (by simp [results, Try.results13, go_sem]) rfl ?_
    have hall := HB1.out.trans (HBW.out.mono HB1.out.size)
    refine ⟨_, m, by rw [← HE.out, E4.out.2.1], by rw [E4.out.1]; exact Evs_nil _, by rw [E4.out.2.2]; exact H.out.below hall, .inl rfl, chg0 hall, fun g hg => by cases hg⟩
  | true =>
    have hsn : sinN s now = now := by unfold sinN; rw [ht]; rfl
    have hsl : sinL s now = s.L := by unfold sinL; rw [ht]; rfl
    rw [hsn, hsl]
    have htb := tm_le ht
    have e1 : tickO s now = tkO now s.hold s.L 64 := by unfold tickO; rw [ht]; rfl
    have e2 : tickE s now = 0 := by unfold tickE; rw [ht]; rfl
    have e3 : tickS s now = { s with now := now, L := tkL now s.hold s.L 64 } := by unfold tickS; rw [ht]; rfl
    have E4 := Lib.hid (And.intro e1 (And.intro e2 e3))
    have HTB := Lib.hid htb
    have hm0 : Mem (w1.alloc (.cells Z 73)) w1.heap.size 0 (List.replicate 64 zHd) := HZ.out ▸ mem_new w1 0 List.length_replicate
    have hst := storeC_mem hm0 now (L := s.L) HLEN.out
    have hcs := mcs_size HLEN.out now
    have hm2 := mem_row hm0 now HLEN.out
    have hbw : Below w1.heap.size w1 ((w1.alloc (.cells Z 73)).setRow w1.heap.size (mcs now s.L)) := below_setRow ((Below.refl _ w1).alloc (Nat.le_refl _) _) (Nat.le_refl _) _
    obtain ⟨W2, hW2⟩ : ∃ W2, (w1.alloc (.cells Z 73)).setRow w1.heap.size (mcs now s.L) = W2 := ⟨_, rfl⟩
    rw [hW2] at hst hbw hm2
    have HM2 := Lib.hid (HG.out ▸ hm2)
    have HB2 := Lib.hid (HB1.out.trans (hbw.mono HB1.out.size))
    have H2 := Lib.hid (H1.out.below hbw)
    have HGW : Hid (w.heap.size ≤ g ∧ b < g ∧ m < g) := by
      have q0 := HB1.out.size
      have q1 := HG.out
      have q2 := H1.out.lt
      have q3 := H1.out.mem.lt
      exact ⟨by omega, by omega, by omega⟩
    clear e1 e2 e3 ht hsn hsl hm0 hbw hW2 hm2 htb
    go_upto_region 4 with (fail)
    simp only [HG.out]
    clear hst hcs hz hZs
    go_wp2_with fail
    go_loopw [19] (fun iv wr => ∃ (k : Nat), k ≤ 64 ∧ iv = .int .i64 k ∧ Hid (Mem wr g now (tkL now s.hold s.L k)) ∧ Hid (PAt wr b m s) ∧ Hid (Below w.heap.size w wr)) (fun i _ => 64 - (intOf i).toNat)
    case atStart => exact ⟨0, Nat.zero_le _, rfl, HM2.out, H2.out, HB2.out⟩
    case round =>
      obtain ⟨k, hk, rfl, HMM, HPP, HBB⟩ := hrel
      by_cases hlt : k < 64
      · have hltz : (k : Int) < 64 := by omega
        have hqn : ((k : Int)).toNat = k := Int.toNat_natCast k
        obtain ⟨y, hy⟩ : ∃ y, s.L.getD k zHd = y := ⟨_, rfl⟩
        have hdy : HdOk s.now y := hy ▸ HPP.out.ok.at_ k hlt
        have hay : 0 ≤ y.2.2.1 ∧ y.2.2.1 ≤ 1000000000000 := hy ▸ HPP.out.ok.at.1 k hlt
        obtain ⟨t1, t2⟩ := tk_step (now := now) (hold := s.hold) HLEN.out hlt hy hdy
        have ha : (tkL now s.hold s.L k).getD k zHd = y := (tkL_at now s.hold s.L k (by rw [HLEN.out]; exact hlt)).1.trans hy
        have w1_ : IntKind.i64.wrap (now - y.2.2.1) = now - y.2.2.1 := by rw [IntKind.wrap_i64]; have h1 := HTB.out; have h3 := HPP.out.ok.now0; omega
        have kc : ∀ w', Below wr.heap.size wr w' → w'.cell? ⟨g, 1 + k * 4 + 2, none⟩ = some (.int .i64 y.2.2.1) ∧ w'.cell? ⟨b, 2, none⟩ = some (.int .i64 s.hold) := fun w' hb => by
          have hc := (HMM.out.below hb HMM.out.lt).c4 hlt
          rw [ha] at hc
          exact ⟨hc.2.2.1, (HPP.out.below hb).c2⟩
        have T1 := Lib.hid t1
        have T2 := Lib.hid t2
        clear hy hdy hay t1 t2 ha
        go_upto_region 9 with (fail)
        refine wp_region_typed (C := fun w' => Below wr.heap.size wr w') (X := fun w w' => Below w.heap.size w w') (n := 42) (by kernel_rfl) (by kernel_rfl) rfl (fun w => Below.refl _ w) (Below.refl _ _).drew ?_
        refine w_is (fun w => Below.refl _ w) _ (.inl rfl) (fun ρ w hC hc hfn hf => by have e1 : ρ (.tmp 1) = _ := hf 1 (by decide); (conv => lhs; simp [execOp, go_sem, hc, e1])) ?_
        refine w_is (fun w => Below.refl _ w) _ (.inl rfl) (fun ρ w hC hc hfn hf => by have e8 : ρ (.tmp 8) = _ := hf 8 (by decide); (conv => lhs; simp [execOp, go_sem, hc, e8])) ?_
        refine w_is (fun w => Below.refl _ w) _ (.inl rfl) (fun ρ w hC hc hfn hf => by have e6 : ρ (.tmp 6) = _ := hf 6 (by decide); (conv => lhs; simp [execOp, go_sem, hc, e6])) ?_
        refine w_is (fun w => Below.refl _ w) _ (.inl rfl) (fun ρ w hC hc hfn hf => by have e24 : ρ (.tmp 24) = _ := hf 24 (by decide); have e23 : ρ (.tmp 23) = _ := hf 23 (by decide); (conv => lhs; simp [execOp, go_sem, hc, e24, e23, hltz, hqn])) ?_
        refine w_is (fun w => Below.refl _ w) _ (.inl rfl) (fun ρ w hC hc hfn hf => by have e25 : ρ (.tmp 25) = _ := hf 25 (by decide); (conv => lhs; simp [execOp, go_sem, hc, e25])) ?_
        refine w_is (fun w => Below.refl _ w) _ (.inl rfl) (fun ρ w hC hc hfn hf => by have e26 : ρ (.tmp 26) = _ := hf 26 (by decide); (conv => lhs; simp [execOp, go_sem, hc, e26, kc w hC])) ?_
        refine w_is (fun w => Below.refl _ w) _ (.inl rfl) (fun ρ w hC hc hfn hf => by have e22 : ρ (.tmp 22) = _ := hf 22 (by decide); have e27 : ρ (.tmp 27) = _ := hf 27 (by decide); (conv => lhs; simp [execOp, go_sem, hc, e22, e27, w1_])) ?_
        refine w_is (fun w => Below.refl _ w) _ (.inl rfl) (fun ρ w hC hc hfn hf => by have e0 : ρ (.tmp 0) = _ := hf 0 (by decide); (conv => lhs; simp [execOp, go_sem, hc, e0])) ?_
        refine w_is (fun w => Below.refl _ w) _ (.inl rfl) (fun ρ w hC hc hfn hf => by have e29 : ρ (.tmp 29) = _ := hf 29 (by decide); (conv => lhs; simp [execOp, go_sem, hc, e29])) ?_
        refine w_is (fun w => Below.refl _ w) _ (.inl rfl) (fun ρ w hC hc hfn hf => by have e30 : ρ (.tmp 30) = _ := hf 30 (by decide); (conv => lhs; simp [execOp, go_sem, hc, e30])) ?_
        refine w_is (fun w => Below.refl _ w) _ (.inl rfl) (fun ρ w hC hc hfn hf => by have e31 : ρ (.tmp 31) = _ := hf 31 (by decide); (conv => lhs; simp [execOp, go_sem, hc, e31, kc w hC])) ?_
        refine w_is (fun w => Below.refl _ w) _ (.inl rfl) (fun ρ w hC hc hfn hf => by have e28 : ρ (.tmp 28) = _ := hf 28 (by decide); have e32 : ρ (.tmp 32) = _ := hf 32 (by decide); (conv => lhs; simp [execOp, go_sem, hc, e28, e32])) ?_
        intro A V5 hC hn hd hf
        have y0 : A.eval (.tmp 0) = _ := Eq.trans (hf 0) (by conv => lhs; simp [go_sem])
        have y1 : A.eval (.tmp 1) = _ := Eq.trans (hf 1) (by conv => lhs; simp [go_sem])
        have y2 : A.eval (.tmp 2) = _ := Eq.trans (hf 2) (by conv => lhs; simp [go_sem])
        have y3 : A.eval (.tmp 3) = _ := Eq.trans (hf 3) (by conv => lhs; simp [go_sem])
        have y4 : A.eval (.tmp 4) = _ := Eq.trans (hf 4) (by conv => lhs; simp [go_sem])
        have y5 : A.eval (.tmp 5) = _ := Eq.trans (hf 5) (by conv => lhs; simp [go_sem])
        have y6 : A.eval (.tmp 6) = _ := Eq.trans (hf 6) (by conv => lhs; simp [go_sem])
        have y7 : A.eval (.tmp 7) = _ := Eq.trans (hf 7) (by conv => lhs; simp [go_sem])
        have y8 : A.eval (.tmp 8) = _ := Eq.trans (hf 8) (by conv => lhs; simp [go_sem])
        have y9 : A.eval (.tmp 9) = _ := Eq.trans (hf 9) (by conv => lhs; simp [go_sem])
        have y10 : A.eval (.tmp 10) = _ := Eq.trans (hf 10) (by conv => lhs; simp [go_sem])
        have y11 : A.eval (.tmp 11) = _ := Eq.trans (hf 11) (by conv => lhs; simp [go_sem])
        have y12 : A.eval (.tmp 12) = _ := Eq.trans (hf 12) (by conv => lhs; simp [go_sem])
        have y13 : A.eval (.tmp 13) = _ := Eq.trans (hf 13) (by conv => lhs; simp [go_sem])
        have y14 : A.eval (.tmp 14) = _ := Eq.trans (hf 14) (by conv => lhs; simp [go_sem])
        have y15 : A.eval (.tmp 15) = _ := Eq.trans (hf 15) (by conv => lhs; simp [go_sem])
        have y16 : A.eval (.tmp 16) = _ := Eq.trans (hf 16) (by conv => lhs; simp [go_sem])
        have y17 : A.eval (.tmp 17) = _ := Eq.trans (hf 17) (by conv => lhs; simp [go_sem])
        have y18 : A.eval (.tmp 18) = _ := Eq.trans (hf 18) (by conv => lhs; simp [go_sem])
        have y19 : A.eval (.tmp 19) = _ := Eq.trans (hf 19) (by conv => lhs; simp [go_sem])
        have y20 : A.eval (.tmp 20) = _ := Eq.trans (hf 20) (by conv => lhs; simp [go_sem])
        have y21 : A.eval (.tmp 21) = _ := Eq.trans (hf 21) (by conv => lhs; simp [go_sem])
        have y22 : A.eval (.tmp 22) = _ := hf 22
        have y23 : A.eval (.tmp 23) = _ := hf 23
        have y24 : A.eval (.tmp 24) = _ := hf 24
        have y25 : A.eval (.tmp 25) = _ := hf 25
        have y26 : A.eval (.tmp 26) = _ := hf 26
        have y27 : A.eval (.tmp 27) = _ := hf 27
        have y28 : A.eval (.tmp 28) = _ := hf 28
        have y29 : A.eval (.tmp 29) = _ := hf 29
        have y30 : A.eval (.tmp 30) = _ := hf 30
        have y31 : A.eval (.tmp 31) = _ := hf 31
        have y32 : A.eval (.tmp 32) = _ := hf 32
        have y33 : A.eval (.tmp 33) = _ := hf 33
        have y34 : A.eval (.tmp 34) = _ := Eq.trans (hf 34) (by conv => lhs; simp [go_sem])
        have y35 : A.eval (.tmp 35) = _ := Eq.trans (hf 35) (by conv => lhs; simp [go_sem])
        have y36 : A.eval (.tmp 36) = _ := Eq.trans (hf 36) (by conv => lhs; simp [go_sem])
        have y37 : A.eval (.tmp 37) = _ := Eq.trans (hf 37) (by conv => lhs; simp [go_sem])
        have y38 : A.eval (.tmp 38) = _ := Eq.trans (hf 38) (by conv => lhs; simp [go_sem])
        have y39 : A.eval (.tmp 39) = _ := Eq.trans (hf 39) (by conv => lhs; simp [go_sem])
        have y40 : A.eval (.tmp 40) = _ := Eq.trans (hf 40) (by conv => lhs; simp [go_sem])
        have y41 : A.eval (.tmp 41) = _ := Eq.trans (hf 41) (by conv => lhs; simp [go_sem])
        clear hf
        have hA := frame_eq hn
        rw [show List.range 42 = [0, 1, 2, 3, 4, 5, 6, 7, 8, 9, 10, 11, 12, 13, 14, 15, 16, 17, 18, 19, 20, 21, 22, 23, 24, 25, 26, 27, 28, 29, 30, 31, 32, 33, 34, 35, 36, 37, 38, 39, 40, 41] from rfl, hd] at hA
        simp only [List.map_cons, List.map_nil, y0, y1, y2, y3, y4, y5, y6, y7, y8, y9, y10, y11, y12, y13, y14, y15, y16, y17, y18, y19, y20, y21, y22, y23, y24, y25, y26, y27, y28, y29, y30, y31, y32, y33, y34, y35, y36, y37, y38, y39, y40, y41] at hA
        clear y0 y1 y2 y3 y4 y5 y6 y7 y8 y9 y10 y11 y12 y13 y14 y15 y16 y17 y18 y19 y20 y21 y22 y23 y24 y25 y26 y27 y28 y29 y30 y31 y32 y33 y34 y35 y36 y37 y38 y39 y40 y41
        clear hn hd
        subst hA
        have HMV := Lib.hid (HMM.out.below hC HMM.out.lt)
        have HPV := Lib.hid (HPP.out.below hC)
        have HBV := Lib.hid (HBB.out.trans (hC.mono HBB.out.size))
        clear kc hC
        by_cases hgo : s.hold < now - y.2.2.1
        · have HST := Lib.hid (T1.out hgo)
          obtain ⟨r0, r1, r2, r3⟩ := HMV.out.c4 hlt
          have fz0 := HMV.out.fz (1 + k * 4)
          have fz1 := HMV.out.fz (1 + k * 4 + 1)
          have fz2 := HMV.out.fz (1 + k * 4 + 2)
          have fz3 := HMV.out.fz (1 + k * 4 + 3)
          have hx9 := HMV.out.put hlt zHd
          have hc9 := chain4_chg V5 g (1 + k * 4) zHd
          have hq := HGW.out
          have HX9 := Lib.hid hx9
          have HP9 := Lib.hid (HPV.out.chg hc9 (by omega) (by omega))
          have HB9 := Lib.hid (HBV.out.trans (hc9.below (B := w.heap.size) HBV.out.size (fun k e => by omega)))
          clear hx9 hc9 hq T1 T2
          go_wp2_with fail
          go_roundw
          case rel => exact ⟨k + 1, by omega, by go_num, by rw [HST.out]; exact HX9.out, HP9.out, HB9.out⟩
          case measure => simp [intOf]; omega
        · have HST := Lib.hid (T2.out hgo)
          clear T1 T2
          go_wp2_with fail
          go_roundw
          case rel => exact ⟨k + 1, by omega, by go_num, by rw [HST.out]; exact HMV.out, HPV.out, HBV.out⟩
          case measure => simp [intOf]; omega
      · obtain rfl : k = 64 := by omega
        have HLL : Hid ((tkL now s.hold s.L 64).length = 64) := (tkL_len now s.hold s.L 64).trans HLEN.out
        go_wp2_with fail
        refine wp_load_mem _ rfl rfl HMM.out ?_
        go_wp2_with fail
        refine (swap_any b m s now (tkL now s.hold s.L 64) wr HPP.out HLL.out).mono ?_
        rintro e w2 ⟨⟨a, c, rfl, ho⟩, hm, hmo, hch, q0, q1, q2, q3, q4⟩
        rw [sw_tick now s.hold s.L HLEN.out 64 (Nat.le_refl _)] at ho ⊢
        have HO := Lib.hid ho
        have HR := Lib.hid (And.intro hm (And.intro hch (And.intro q0 (And.intro q1 (And.intro q2 (And.intro q3 q4))))))
        clear ho hm hmo hch q0 q1 q2 q3 q4
        go_wp2_with fail
        refine bodyPost_ret (v := .tuple #[.slice a (tkO now s.hold s.L 64).length c, .int .i64 0]) (by simp [results, Try.results13, go_sem]) rfl ?_
        obtain ⟨hm, hch, q0, q1, q2, q3, q4⟩ := HR.out
        have hsz := HBB.out.size
        refine ⟨_, wr.heap.size, by rw [← HE.out, E4.out.2.1], by rw [E4.out.1]; exact HO.out.ev, ?_, .inr hsz, (chg0 HBB.out).trans hch (fun x _ e => e), fun g hg => ?_⟩
        · rw [E4.out.2.2]
          have hlb := HPP.out.lt
          exact ⟨by omega, q0, q1, q2, q3, q4, hm, by rw [← E4.out.2.2]; exact snok_tick HPP.out.ok now⟩
        · have := (World.ownsRow.lt HO.out g hg).1
          exact ⟨by omega, by omega⟩
end Go.Proofs.Ytcddicaebecneaa

namespace Go.Proofs.Ytcddicaebecneaa
set_option maxRecDepth 100000
open Go.RowKit

theorem isnode_fix (n : Int) (q : Bool) (hq : q = true ↔ 0 ≤ n ∧ n < 64) (w : World) : Calls Try.prog 26 #[.int .i64 n] w fun e w' => e = .returned (.bool q) ∧ w = w' := by
  by_cases h1 : 0 ≤ n
  · by_cases h2 : n < 64
    · obtain rfl : q = true := hq.2 ⟨h1, h2⟩
      clear hq
      go_enter Try.func26, Try.ntmps26
      go_wp2
      go_ret
      exact ⟨rfl, rfl⟩
    · obtain rfl : q = false := by
        cases q with
        | false => rfl
        | true => exact absurd (hq.1 rfl).2 h2
      clear hq
      go_enter Try.func26, Try.ntmps26
      go_wp2
      go_ret
      exact ⟨rfl, rfl⟩
  · obtain rfl : q = false := by
      cases q with
      | false => rfl
      | true => exact absurd (hq.1 rfl).1 h1
    clear hq
    go_enter Try.func26, Try.ntmps26
    go_wp2
    go_ret
    exact ⟨rfl, rfl⟩
theorem hear_tn {n0 now fr M : Int} {y : Hd} {t : Bool} (hok : HdOk n0 y) (ho : old1 y M = false) : out1 y fr M ++ out2 fr M t (th1 y M) = tnO fr y (true, M, now, t) := by
  obtain ⟨is, ep, at_, th⟩ := y
  cases is with
  | false =>
    have hz := hok.1 rfl
    unfold zHd at hz
    cases hz
    cases t <;> rfl
  | true =>
    have hle : ep ≤ M := by
      unfold old1 at ho
      simpa using ho
    cases th with
    | false =>
      have e1 : dn1 (true, ep, at_, false) M = false := by unfold dn1; simp
      unfold out1 th1 out2 tnO
      rw [e1]
      cases t <;> rfl
    | true =>
      by_cases hlt : ep < M
      · have e1 : dn1 (true, ep, at_, true) M = true := by unfold dn1; simp [hlt]
        have hne : ¬ ep = M := by omega
        unfold out1 th1 out2 tnO
        rw [e1]
        cases t <;> simp [hne]
      · have hee : ep = M := by omega
        subst hee
        have e1 : dn1 (true, ep, at_, true) ep = false := by unfold dn1; simp
        unfold out1 th1 out2 tnO
        rw [e1]
        cases t <;> simp
theorem sw_one (L : List Hd) (hL : L.length = 64) (i : Nat) (hi : i < 64) (z : Hd) : swO L (L.set i z) 64 = tnO (i : Int) (L.getD i zHd) z := by
  have key : ∀ k, k ≤ 64 → swO L (L.set i z) k = if i < k then tnO (i : Int) (L.getD i zHd) z else [] := by
    intro k
    induction k with
    | zero => intro _; rw [if_neg (by omega)]; rfl
    | succ k ih =>
      intro hk
      show swO L (L.set i z) k ++ tnO _ _ _ = _
      rw [ih (by omega)]
      by_cases e : i = k
      · subst e
        have e2 : (L.set i z).getD i zHd = z := by simp [List.getD, hL, hi]
        rw [e2, if_neg (Nat.lt_irrefl i), if_pos (Nat.lt_succ_self i), List.nil_append]
      · have e2 : (L.set i z).getD k zHd = L.getD k zHd := by simp [List.getD, e]
        rw [e2, tn_same, List.append_nil]
        by_cases h : i < k
        · rw [if_pos h, if_pos (by omega)]
        · rw [if_neg h, if_neg (by omega)]
  rw [key 64 (Nat.le_refl _), if_pos hi]
theorem old_iff {n0 M : Int} {y : Hd} (hok : HdOk n0 y) (hM : EpOk M) : old1 y M = decide (M < y.2.1) := by
  unfold old1
  cases e : y.1 with
  | true => rfl
  | false =>
    rw [hok.1 e, decide_eq_false (by show ¬ M < 0; have := hM.1; omega)]; rfl
set_option maxHeartbeats 32000000 in
theorem phear_any (b m : Nat) (s : Sn) (now fr M : Int) (v : Value) (ys : List (Int × Int)) (w : World) (h : PAt w b m s) (hE : El w v ys) (hl : ys.length ≤ 1000) (rO : List Ev) (rE : Int) (rS : Sn) (hR : hearR s now fr M ys = (rO, rE, rS)) :
    Calls Try.prog 15 #[.pointer (some ⟨b, 0, none⟩), .int .i64 now, .int .i64 fr, .agg #[.int .i64 M, v]] w fun e w' => ∃ r m', e = .returned (.tuple #[r, .int .i64 rE]) ∧ Evs w' r rO ∧ PAt w' b m' rS ∧ (m' = m ∨ w.heap.size ≤ m') ∧ Chg (fun k => k = b) w w' ∧ ∀ g, r.ownBlock = some g → w.heap.size ≤ g ∧ g ≠ m' := by
  have mixed : Try.prog.follows .mixedOrders = true := by kernel_rfl
  obtain ⟨av, cv, hv⟩ := hE.1.form
  obtain ⟨W1, hW1⟩ : ∃ W1, w.alloc (.cells #[.int .i64 M, v] 34) = W1 := ⟨_, rfl⟩
  have hb1 : Below w.heap.size w W1 := hW1 ▸ (Below.refl _ w).alloc (Nat.le_refl _) _
  have ob1 : OwnB2 W1 w.heap.size M v := hW1 ▸ ownb2_alloc w M v 34 w.heap.size rfl
  obtain ⟨g0, hg0⟩ : ∃ g0, w.heap.size = g0 := ⟨_, rfl⟩
  have hs1 : W1.heap.size = g0 + 1 := by rw [← hg0, ← hW1]; simp
  rw [hg0] at ob1
  have C := Lib.hid (since_any b m s now W1 (h.below hb1))
  have HLEN : Hid (s.L.length = 64) := h.mem.2
  obtain ⟨Z, hZ⟩ : ∃ Z, mcs 0 (List.replicate 64 zHd) = Z := ⟨_, rfl⟩
  have hz := zeroTM
  rw [hZ] at hz
  have hZs : Z.size = 257 := by rw [← hZ]; exact mcs_size List.length_replicate 0
  have HZ := Lib.hid hZ
  have H := Lib.hid h
  have HEE := Lib.hid hE
  have HLY : Hid (ys.length ≤ 3000) := by show _ ≤ _; omega
  have HW1 := Lib.hid hW1
  have HB1 := Lib.hid hb1
  have HG0 := Lib.hid hg0
  have HS1 := Lib.hid hs1
  have OB1 := Lib.hid ob1
  have HRR := Lib.hid hR
  have HV := Lib.hid hv
  clear h hZ hE hl hW1 hb1 hg0 hs1 ob1 hR hv
  go_enter Try.func15, Try.ntmps15
  go_upto_region 1 with (fail)
  rw [HW1.out]
  simp only [HG0.out]
  go_wp2_with fail
  refine C.out.mono ?_
  rintro e w1 ⟨rfl, hb2⟩
  obtain ⟨g1, hg1⟩ : ∃ g1, w1.heap.size = g1 := ⟨_, rfl⟩
  have HG1 := Lib.hid hg1
  have HB2 : Hid (Below W1.heap.size W1 w1) := hb2
  have HLG : Hid (b < g0 ∧ m < g0 ∧ g0 < g1) := by
    have q0 := H.out.lt
    have q1 := H.out.mem.lt
    have q2 := hb2.size
    have q3 := HG0.out
    have q4 := HS1.out
    exact ⟨by omega, by omega, by omega⟩
  clear hg1 hb2 C
  have hlenN : (sinL s now).length = 64 := by unfold sinL; split; exact HLEN.out; exact List.length_replicate
  have hm0 : Mem (w1.alloc (.cells Z 73)) w1.heap.size 0 (List.replicate 64 zHd) := HZ.out ▸ mem_new w1 0 List.length_replicate
  have hst := storeC_mem hm0 (sinN s now) hlenN
  have hcs := mcs_size hlenN (sinN s now)
  have hm2 := mem_row hm0 (sinN s now) hlenN
  have hbw : Below w1.heap.size w1 ((w1.alloc (.cells Z 73)).setRow w1.heap.size (mcs (sinN s now) (sinL s now))) := below_setRow ((Below.refl _ w1).alloc (Nat.le_refl _) _) (Nat.le_refl _) _
  obtain ⟨W2, hW2⟩ : ∃ W2, (w1.alloc (.cells Z 73)).setRow w1.heap.size (mcs (sinN s now) (sinL s now)) = W2 := ⟨_, rfl⟩
  rw [hW2] at hst hbw hm2
  have HM2 : Hid (Mem W2 g1 (sinN s now) (sinL s now)) := HG1.out ▸ hm2
  have hb02 : Below W1.heap.size W1 W2 := HB2.out.trans (hbw.mono HB2.out.size)
  have HB3 : Hid (Below w.heap.size w W2) := HB1.out.trans (hb02.mono HB1.out.size)
  have H2 : Hid (PAt W2 b m s) := H.out.below HB3.out
  have HE2 : Hid (El W2 v ys) := HEE.out.below HB3.out
  have OB2 : Hid (OwnB2 W2 g0 M v) := b2_low OB1.out (by have := HS1.out; omega) hb02
  have HGS : Hid (g1 < W2.heap.size) := HM2.out.lt
  clear hm0 hW2 hm2 hbw hb02 hlenN OB1 HB2
  go_upto_region 4 with (fail)
  simp only [HG1.out]
  clear hst hcs hz hZs
  have c0 := H2.out.c0
  cases ht : tmB s now with
  | false =>
    have HBAD : Hid (¬ okH s now fr M ys) := fun g => by have := g.1; rw [ht] at this; cases this
    clear ht c0
    go_wp2_with fail
    refine bodyPost_ret (v := .tuple #[.slice none 0 0, .int .i64 1]) (by simp [results, Try.results15, go_sem]) rfl ?_
    have e := (hear_bad HBAD.out).symm.trans HRR.out
    have e1 : ([] : List Ev) = rO := congrArg Prod.fst e
    have e2 : (1 : Int) = rE := congrArg (fun p => p.2.1) e
    have e3 : s = rS := congrArg (fun p => p.2.2) e
    rw [← e1, ← e2, ← e3]
    exact ⟨_, m, rfl, Evs_nil _, H.out.below HB3.out, .inl rfl, chg0 HB3.out, fun g hg => by cases hg⟩
  | true =>
    have HT := Lib.hid ht
    clear ht
    by_cases hn0' : ¬ (0 ≤ fr ∧ fr < 64)
    · have hn0 := hn0'
      clear hn0'
      have HBAD : Hid (¬ okH s now fr M ys) := fun g => hn0 ⟨g.2.1, g.2.2.1⟩
      have cI := isnode_fix fr false (by simpa using hn0) W2
      clear hn0 c0
      go_wp2_with fail
      refine cI.mono ?_
      rintro e w2 ⟨rfl, rfl⟩
      go_wp2_with fail
      refine bodyPost_ret (v := .tuple #[.slice none 0 0, .int .i64 1]) (by simp [results, Try.results15, go_sem]) rfl ?_
      have e := (hear_bad HBAD.out).symm.trans HRR.out
      have e1 : ([] : List Ev) = rO := congrArg Prod.fst e
      have e2 : (1 : Int) = rE := congrArg (fun p => p.2.1) e
      have e3 : s = rS := congrArg (fun p => p.2.2) e
      rw [← e1, ← e2, ← e3]
      exact ⟨_, m, rfl, Evs_nil _, H.out.below HB3.out, .inl rfl, chg0 HB3.out, fun g hg => by cases hg⟩
    have hn0 : 0 ≤ fr ∧ fr < 64 := Classical.not_not.1 hn0'
    clear hn0'
    obtain ⟨hf0, hf1⟩ := hn0
    obtain ⟨fN, rfl⟩ := Int.eq_ofNat_of_zero_le hf0
    have hltz : (fN : Int) < 64 := hf1
    have hlt : fN < 64 := by omega
    have hqn : ((fN : Int)).toNat = fN := Int.toNat_natCast fN
    have cI := isnode_fix (fN : Int) true (iff_of_true rfl ⟨hf0, hf1⟩) W2
    have HF := Lib.hid (And.intro hf0 hf1)
    clear hf0 hf1
    by_cases hid : (fN : Int) = s.id
    · have HBAD : Hid (¬ okH s now (fN : Int) M ys) := fun g => g.2.2.2.1 hid
      rw [← hid] at c0
      clear hid
      go_wp2_with fail
      refine cI.mono ?_
      rintro e w2 ⟨rfl, rfl⟩
      go_wp2_with fail
      refine bodyPost_ret (v := .tuple #[.slice none 0 0, .int .i64 1]) (by simp [results, Try.results15, go_sem]) rfl ?_
      have e := (hear_bad HBAD.out).symm.trans HRR.out
      have e1 : ([] : List Ev) = rO := congrArg Prod.fst e
      have e2 : (1 : Int) = rE := congrArg (fun p => p.2.1) e
      have e3 : s = rS := congrArg (fun p => p.2.2) e
      rw [← e1, ← e2, ← e3]
      exact ⟨_, m, rfl, Evs_nil _, H.out.below HB3.out, .inl rfl, chg0 HB3.out, fun g hg => by cases hg⟩
    by_cases hbe' : ¬ BeOk M ys
    · have hbe := hbe'
      clear hbe'
      have HBAD : Hid (¬ okH s now (fN : Int) M ys) := fun g => hbe g.2.2.2.2
      have cK := check_fix6 M v ys false (by simpa using hbe) W2 HE2.out HLY.out
      obtain ⟨⟨o0, o1⟩, _⟩ := OB2.out
      clear hbe
      go_wp2_with fail
      refine cI.mono ?_
      rintro e w2 ⟨rfl, rfl⟩
      go_wp2_with fail
      refine cK.mono ?_
      rintro e w3 ⟨rfl, hb3⟩
      have HB4 := Lib.hid (HB3.out.trans (hb3.mono HB3.out.size))
      clear hb3 cK cI
      go_wp2_with fail
      refine bodyPost_ret (v := .tuple #[.slice none 0 0, .int .i64 1]) (by simp [results, Try.results15, go_sem]) rfl ?_
      have e := (hear_bad HBAD.out).symm.trans HRR.out
      have e1 : ([] : List Ev) = rO := congrArg Prod.fst e
      have e2 : (1 : Int) = rE := congrArg (fun p => p.2.1) e
      have e3 : s = rS := congrArg (fun p => p.2.2) e
      rw [← e1, ← e2, ← e3]
      exact ⟨_, m, rfl, Evs_nil _, H.out.below HB4.out, .inl rfl, chg0 HB4.out, fun g hg => by cases hg⟩
    have hbe : BeOk M ys := Classical.not_not.1 hbe'
    clear hbe'
    have HOK : Hid (okH s now (fN : Int) M ys) := ⟨HT.out, HF.out.1, HF.out.2, hid, hbe⟩
    have cK := check_fix6 M v ys true (iff_of_true rfl hbe) W2 HE2.out HLY.out
    obtain ⟨⟨o0, o1⟩, _⟩ := OB2.out
    clear hbe
    go_wp2_with fail
    refine cI.mono ?_
    rintro e w2 ⟨rfl, rfl⟩
    go_wp2_with fail
    refine cK.mono ?_
    rintro e w3 ⟨rfl, hb3⟩
    clear cK cI c0 o0 o1
    go_upto_region 6 with (fail)
    have hsn : sinN s now = now := by unfold sinN; rw [HT.out]; rfl
    have hsl : sinL s now = s.L := by unfold sinL; rw [HT.out]; rfl
    have hm2 := HM2.out
    rw [hsn, hsl] at hm2
    have HM3 : Hid (Mem w3 g1 now s.L) := hm2.below hb3 HGS.out
    have H3 : Hid (PAt w3 b m s) := H2.out.below hb3
    have OB3 : Hid (OwnB2 w3 g0 M v) := b2_low OB2.out (by have := HGS.out; have := HLG.out; omega) hb3
    have HE3 : Hid (El w3 v ys) := HE2.out.below hb3
    have HB4 := Lib.hid (HB3.out.trans (hb3.mono HB3.out.size))
    have HGT : Hid (g1 < w3.heap.size) := HM3.out.lt
    obtain ⟨y, hy⟩ : ∃ y, s.L.getD fN zHd = y := ⟨_, rfl⟩
    have hat : hdAt s (fN : Int) = y := by unfold hdAt; rw [Int.toNat_natCast]; exact hy
    have hdy : HdOk s.now y := hy ▸ H3.out.ok.at_ fN hlt
    have HY := Lib.hid (And.intro hy (And.intro hat hdy))
    have HOI := Lib.hid (old_iff hdy HOK.out.2.2.2.2.2)
    have kc : ∀ w', Below w3.heap.size w3 w' → w'.cell? ⟨g1, 1 + fN * 4 + 1, none⟩ = some (.int .i64 y.2.1) ∧ w'.cell? ⟨g0, 0, none⟩ = some (.int .i64 M) := fun w' hb => by
      have hc := (HM3.out.below hb HGT.out).c4 hlt
      rw [hy] at hc
      exact ⟨hc.2.1, (b2_low OB3.out (by have := HGT.out; have := HLG.out; omega) hb).1.1⟩
    clear hsn hsl hm2 hy hat hdy hb3 hid
    refine wp_region_typed (C := fun w' => Below w3.heap.size w3 w') (X := fun w w' => Below w.heap.size w w') (n := 61) (by kernel_rfl) (by kernel_rfl) rfl (fun w => Below.refl _ w) (Below.refl _ _).drew ?_
    refine w_is (fun w => Below.refl _ w) _ (.inl rfl) (fun ρ w hC hc hfn hf => by have e2 : ρ (.tmp 2) = _ := hf 2 (by decide); (conv => lhs; simp [execOp, go_sem, hc, e2])) ?_
    refine w_is (fun w => Below.refl _ w) _ (.inl rfl) (fun ρ w hC hc hfn hf => by have e10 : ρ (.tmp 10) = _ := hf 10 (by decide); (conv => lhs; simp [execOp, go_sem, hc, e10])) ?_
    refine w_is (fun w => Below.refl _ w) _ (.inl rfl) (fun ρ w hC hc hfn hf => by have e41 : ρ (.tmp 41) = _ := hf 41 (by decide); have e40 : ρ (.tmp 40) = _ := hf 40 (by decide); (conv => lhs; simp [execOp, go_sem, hc, e41, e40, hltz, hqn])) ?_
    refine w_is (fun w => Below.refl _ w) _ (.inl rfl) (fun ρ w hC hc hfn hf => by have e42 : ρ (.tmp 42) = _ := hf 42 (by decide); (conv => lhs; simp [execOp, go_sem, hc, e42])) ?_
    refine w_is (fun w => Below.refl _ w) _ (.inl rfl) (fun ρ w hC hc hfn hf => by have e43 : ρ (.tmp 43) = _ := hf 43 (by decide); (conv => lhs; simp [execOp, go_sem, hc, e43, kc w hC])) ?_
    refine w_is (fun w => Below.refl _ w) _ (.inl rfl) (fun ρ w hC hc hfn hf => by have e7 : ρ (.tmp 7) = _ := hf 7 (by decide); (conv => lhs; simp [execOp, go_sem, hc, e7])) ?_
    refine w_is (fun w => Below.refl _ w) _ (.inl rfl) (fun ρ w hC hc hfn hf => by have e45 : ρ (.tmp 45) = _ := hf 45 (by decide); (conv => lhs; simp [execOp, go_sem, hc, e45, kc w hC])) ?_
    refine w_is (fun w => Below.refl _ w) _ (.inl rfl) (fun ρ w hC hc hfn hf => by have e44 : ρ (.tmp 44) = _ := hf 44 (by decide); have e46 : ρ (.tmp 46) = _ := hf 46 (by decide); (conv => lhs; simp [execOp, go_sem, hc, e44, e46])) ?_
    intro A V5 hC hn hd hf
    have y0 : A.eval (.tmp 0) = _ := Eq.trans (hf 0) (by conv => lhs; simp [go_sem])
    have y1 : A.eval (.tmp 1) = _ := Eq.trans (hf 1) (by conv => lhs; simp [go_sem])
    have y2 : A.eval (.tmp 2) = _ := Eq.trans (hf 2) (by conv => lhs; simp [go_sem])
    have y3 : A.eval (.tmp 3) = _ := Eq.trans (hf 3) (by conv => lhs; simp [go_sem])
    have y4 : A.eval (.tmp 4) = _ := Eq.trans (hf 4) (by conv => lhs; simp [go_sem])
    have y5 : A.eval (.tmp 5) = _ := Eq.trans (hf 5) (by conv => lhs; simp [go_sem])
    have y6 : A.eval (.tmp 6) = _ := Eq.trans (hf 6) (by conv => lhs; simp [go_sem])
    have y7 : A.eval (.tmp 7) = _ := Eq.trans (hf 7) (by conv => lhs; simp [go_sem])
    have y8 : A.eval (.tmp 8) = _ := Eq.trans (hf 8) (by conv => lhs; simp [go_sem])
    have y9 : A.eval (.tmp 9) = _ := Eq.trans (hf 9) (by conv => lhs; simp [go_sem])
    have y10 : A.eval (.tmp 10) = _ := Eq.trans (hf 10) (by conv => lhs; simp [go_sem])
    have y11 : A.eval (.tmp 11) = _ := Eq.trans (hf 11) (by conv => lhs; simp [go_sem])
    have y12 : A.eval (.tmp 12) = _ := Eq.trans (hf 12) (by conv => lhs; simp [go_sem])
    have y13 : A.eval (.tmp 13) = _ := Eq.trans (hf 13) (by conv => lhs; simp [go_sem])
    have y14 : A.eval (.tmp 14) = _ := Eq.trans (hf 14) (by conv => lhs; simp [go_sem])
    have y15 : A.eval (.tmp 15) = _ := Eq.trans (hf 15) (by conv => lhs; simp [go_sem])
    have y16 : A.eval (.tmp 16) = _ := Eq.trans (hf 16) (by conv => lhs; simp [go_sem])
    have y17 : A.eval (.tmp 17) = _ := Eq.trans (hf 17) (by conv => lhs; simp [go_sem])
    have y18 : A.eval (.tmp 18) = _ := Eq.trans (hf 18) (by conv => lhs; simp [go_sem])
    have y19 : A.eval (.tmp 19) = _ := Eq.trans (hf 19) (by conv => lhs; simp [go_sem])
    have y20 : A.eval (.tmp 20) = _ := Eq.trans (hf 20) (by conv => lhs; simp [go_sem])
    have y21 : A.eval (.tmp 21) = _ := Eq.trans (hf 21) (by conv => lhs; simp [go_sem])
    have y22 : A.eval (.tmp 22) = _ := Eq.trans (hf 22) (by conv => lhs; simp [go_sem])
    have y23 : A.eval (.tmp 23) = _ := Eq.trans (hf 23) (by conv => lhs; simp [go_sem])
    have y24 : A.eval (.tmp 24) = _ := Eq.trans (hf 24) (by conv => lhs; simp [go_sem])
    have y25 : A.eval (.tmp 25) = _ := Eq.trans (hf 25) (by conv => lhs; simp [go_sem])
    have y26 : A.eval (.tmp 26) = _ := Eq.trans (hf 26) (by conv => lhs; simp [go_sem])
    have y27 : A.eval (.tmp 27) = _ := Eq.trans (hf 27) (by conv => lhs; simp [go_sem])
    have y28 : A.eval (.tmp 28) = _ := Eq.trans (hf 28) (by conv => lhs; simp [go_sem])
    have y29 : A.eval (.tmp 29) = _ := Eq.trans (hf 29) (by conv => lhs; simp [go_sem])
    have y30 : A.eval (.tmp 30) = _ := Eq.trans (hf 30) (by conv => lhs; simp [go_sem])
    have y31 : A.eval (.tmp 31) = _ := Eq.trans (hf 31) (by conv => lhs; simp [go_sem])
    have y32 : A.eval (.tmp 32) = _ := Eq.trans (hf 32) (by conv => lhs; simp [go_sem])
    have y33 : A.eval (.tmp 33) = _ := Eq.trans (hf 33) (by conv => lhs; simp [go_sem])
    have y34 : A.eval (.tmp 34) = _ := Eq.trans (hf 34) (by conv => lhs; simp [go_sem])
    have y35 : A.eval (.tmp 35) = _ := Eq.trans (hf 35) (by conv => lhs; simp [go_sem])
    have y36 : A.eval (.tmp 36) = _ := Eq.trans (hf 36) (by conv => lhs; simp [go_sem])
    have y37 : A.eval (.tmp 37) = _ := Eq.trans (hf 37) (by conv => lhs; simp [go_sem])
    have y38 : A.eval (.tmp 38) = _ := Eq.trans (hf 38) (by conv => lhs; simp [go_sem])
    have y39 : A.eval (.tmp 39) = _ := Eq.trans (hf 39) (by conv => lhs; simp [go_sem])
    have y40 : A.eval (.tmp 40) = _ := hf 40
    have y41 : A.eval (.tmp 41) = _ := hf 41
    have y42 : A.eval (.tmp 42) = _ := hf 42
    have y43 : A.eval (.tmp 43) = _ := hf 43
    have y44 : A.eval (.tmp 44) = _ := hf 44
    have y45 : A.eval (.tmp 45) = _ := hf 45
    have y46 : A.eval (.tmp 46) = _ := hf 46
    have y47 : A.eval (.tmp 47) = _ := hf 47
    have y48 : A.eval (.tmp 48) = _ := Eq.trans (hf 48) (by conv => lhs; simp [go_sem])
    have y49 : A.eval (.tmp 49) = _ := Eq.trans (hf 49) (by conv => lhs; simp [go_sem])
    have y50 : A.eval (.tmp 50) = _ := Eq.trans (hf 50) (by conv => lhs; simp [go_sem])
    have y51 : A.eval (.tmp 51) = _ := Eq.trans (hf 51) (by conv => lhs; simp [go_sem])
    have y52 : A.eval (.tmp 52) = _ := Eq.trans (hf 52) (by conv => lhs; simp [go_sem])
    have y53 : A.eval (.tmp 53) = _ := Eq.trans (hf 53) (by conv => lhs; simp [go_sem])
    have y54 : A.eval (.tmp 54) = _ := Eq.trans (hf 54) (by conv => lhs; simp [go_sem])
    have y55 : A.eval (.tmp 55) = _ := Eq.trans (hf 55) (by conv => lhs; simp [go_sem])
    have y56 : A.eval (.tmp 56) = _ := Eq.trans (hf 56) (by conv => lhs; simp [go_sem])
    have y57 : A.eval (.tmp 57) = _ := Eq.trans (hf 57) (by conv => lhs; simp [go_sem])
    have y58 : A.eval (.tmp 58) = _ := Eq.trans (hf 58) (by conv => lhs; simp [go_sem])
    have y59 : A.eval (.tmp 59) = _ := Eq.trans (hf 59) (by conv => lhs; simp [go_sem])
    have y60 : A.eval (.tmp 60) = _ := Eq.trans (hf 60) (by conv => lhs; simp [go_sem])
    clear hf
    have hA := frame_eq hn
    rw [show List.range 61 = [0, 1, 2, 3, 4, 5, 6, 7, 8, 9, 10, 11, 12, 13, 14, 15, 16, 17, 18, 19, 20, 21, 22, 23, 24, 25, 26, 27, 28, 29, 30, 31, 32, 33, 34, 35, 36, 37, 38, 39, 40, 41, 42, 43, 44, 45, 46, 47, 48, 49, 50, 51, 52, 53, 54, 55, 56, 57, 58, 59, 60] from rfl, hd] at hA
    simp only [List.map_cons, List.map_nil, y0, y1, y2, y3, y4, y5, y6, y7, y8, y9, y10, y11, y12, y13, y14, y15, y16, y17, y18, y19, y20, y21, y22, y23, y24, y25, y26, y27, y28, y29, y30, y31, y32, y33, y34, y35, y36, y37, y38, y39, y40, y41, y42, y43, y44, y45, y46, y47, y48, y49, y50, y51, y52, y53, y54, y55, y56, y57, y58, y59, y60] at hA
    clear y0 y1 y2 y3 y4 y5 y6 y7 y8 y9 y10 y11 y12 y13 y14 y15 y16 y17 y18 y19 y20 y21 y22 y23 y24 y25 y26 y27 y28 y29 y30 y31 y32 y33 y34 y35 y36 y37 y38 y39 y40 y41 y42 y43 y44 y45 y46 y47 y48 y49 y50 y51 y52 y53 y54 y55 y56 y57 y58 y59 y60
    clear hn hd
    subst hA
    have HM5 := Lib.hid (HM3.out.below hC HGT.out)
    have H5 := Lib.hid (H3.out.below hC)
    have OB5 : Hid (OwnB2 V5 g0 M v) := b2_low OB3.out (by have := HGT.out; have := HLG.out; omega) hC
    have HE5 := Lib.hid (HE3.out.below hC)
    have HB5 := Lib.hid (HB4.out.trans (hC.mono HB4.out.size))
    clear kc hC HM3 H3 OB3 HE3 HM2 H2 OB2 HE2
    by_cases hold : M < y.2.1
    · have HOLD : Hid (old1 (hdAt s (fN : Int)) M = true) := by show _ = _; rw [HY.out.2.1, HOI.out, decide_eq_true hold]
      go_wp2_with fail
      refine bodyPost_ret (v := .tuple #[.slice none 0 0, .int .i64 10]) (by simp [results, Try.results15, go_sem]) rfl ?_
      have e := (hear_old HOK.out HOLD.out).symm.trans HRR.out
      have e1 : ([] : List Ev) = rO := congrArg Prod.fst e
      have e2 : (10 : Int) = rE := congrArg (fun p => p.2.1) e
      have e3 : s = rS := congrArg (fun p => p.2.2) e
      rw [← e1, ← e2, ← e3]
      exact ⟨_, m, rfl, Evs_nil _, H.out.below HB5.out, .inl rfl, chg0 HB5.out, fun g hg => by cases hg⟩
    · have HOLD : Hid (old1 (hdAt s (fN : Int)) M = false) := by show _ = _; rw [HY.out.2.1, HOI.out, decide_eq_false hold]
      obtain ⟨sees, hse⟩ : ∃ sees, seesB s ys = sees := ⟨_, rfl⟩
      have HSE := Lib.hid hse
      have hgv : g0 < V5.heap.size := by have := HM5.out.lt; have := HLG.out; omega
      have kc2 : ∀ w', Below V5.heap.size V5 w' → w'.cell? ⟨g0, 0, none⟩ = some (.int .i64 M) ∧ w'.cell? ⟨g0, 1, none⟩ = some v := fun w' hb => (b2_low OB5.out hgv hb).1
      have cS : ∀ w', Below V5.heap.size V5 w' → Calls Try.prog 32 #[.pointer (some ⟨b, 0, none⟩), .agg #[.int .i64 M, v]] w' fun e w'' => e = .returned (.bool sees) ∧ Below w'.heap.size w' w'' := fun w' hb => by
        have := seen_any b m s M v ys w' (H5.out.below hb) (HE5.out.below hb) HLY.out
        rwa [hse] at this
      clear hse hgv
      go_upto_region 8 with (fail)
      refine T3.wp_region_tail (C := fun w' => Below V5.heap.size V5 w') (X := fun _ w w' => Below w.heap.size w w') (n := 61) 10 (by kernel_rfl) (by kernel_rfl) (by kernel_rfl) (by kernel_rfl) rfl (fun _ w => Below.refl _ w) (Below.refl _ _).drew ?_
      simp only [List.take_succ_cons, List.take_zero, List.drop_succ_cons, List.drop_zero]
      refine T3.w_is (fun _ w => Below.refl _ w) rfl _ (.inl rfl) (fun ρ w hC hc hfn hf => by have e2 : ρ (.tmp 2) = _ := hf 2 (by decide); (conv => lhs; simp [execOp, go_sem, hc, e2])) ?_
      refine T3.w_is (fun _ w => Below.refl _ w) rfl _ (.inl rfl) (fun ρ w hC hc hfn hf => by have e7 : ρ (.tmp 7) = _ := hf 7 (by decide); (conv => lhs; simp [execOp, go_sem, hc, e7])) ?_
      refine T3.w_is (fun _ w => Below.refl _ w) rfl _ (.inl rfl) (fun ρ w hC hc hfn hf => by have e49 : ρ (.tmp 49) = _ := hf 49 (by decide); (conv => lhs; simp [execOp, go_sem, hc, e49, kc2 w hC])) ?_
      refine T3.w_is (fun _ w => Below.refl _ w) rfl _ (.inl rfl) (fun ρ w hC hc hfn hf => by have e1 : ρ (.tmp 1) = _ := hf 1 (by decide); (conv => lhs; simp [execOp, go_sem, hc, e1])) ?_
      refine T3.w_is (fun _ w => Below.refl _ w) rfl _ (.inl rfl) (fun ρ w hC hc hfn hf => by have e0 : ρ (.tmp 0) = _ := hf 0 (by decide); (conv => lhs; simp [execOp, go_sem, hc, e0])) ?_
      refine T3.w_is (fun _ w => Below.refl _ w) rfl _ (.inl rfl) (fun ρ w hC hc hfn hf => by have e7 : ρ (.tmp 7) = _ := hf 7 (by decide); (conv => lhs; simp [execOp, go_sem, hc, e7, kc2 w hC])) ?_
      refine T3.w_call rfl (Is _) (fun _ _ _ _ _ h _ => h) 32 (.inl rfl) (fun ρ w hC hc hfn hf => by have e52 : ρ (.tmp 52) = _ := hf 52 (by decide); have e53 : ρ (.tmp 53) = _ := hf 53 (by decide); exact ⟨_, by (conv => lhs; simp [execOp, resolve, invoke, go_sem, hc, hfn, e52, e53]), (cS w hC).mono fun e w' h => ⟨_, h.1, hC.trans (h.2.mono hC.size), h.2, rfl⟩⟩) ?_
      refine T3.w_is (fun _ w => Below.refl _ w) rfl _ (.inl rfl) (fun ρ w hC hc hfn hf => by have e50 : ρ (.tmp 50) = _ := hf 50 (by decide); have e51 : ρ (.tmp 51) = _ := hf 51 (by decide); have e54 : ρ (.tmp 54) = _ := hf 54 (by decide); (conv => lhs; simp [execOp, go_sem, hc, e50, e51, e54])) ?_
      refine T3.w_is (fun _ w => Below.refl _ w) rfl _ (.inl rfl) (fun ρ w hC hc hfn hf => by have e10 : ρ (.tmp 10) = _ := hf 10 (by decide); (conv => lhs; simp [execOp, go_sem, hc, e10])) ?_
      refine T3.w_is (fun _ w => Below.refl _ w) rfl _ (.inl rfl) (fun ρ w hC hc hfn hf => by have e56 : ρ (.tmp 56) = _ := hf 56 (by decide); have e48 : ρ (.tmp 48) = _ := hf 48 (by decide); (conv => lhs; simp [execOp, go_sem, hc, e56, e48, hltz, hqn])) ?_
      intro A V6 hC hn hd hf
      have y0 : A.eval (.tmp 0) = _ := Eq.trans (hf 0) (by conv => lhs; simp [go_sem])
      have y1 : A.eval (.tmp 1) = _ := Eq.trans (hf 1) (by conv => lhs; simp [go_sem])
      have y2 : A.eval (.tmp 2) = _ := Eq.trans (hf 2) (by conv => lhs; simp [go_sem])
      have y3 : A.eval (.tmp 3) = _ := Eq.trans (hf 3) (by conv => lhs; simp [go_sem])
      have y4 : A.eval (.tmp 4) = _ := Eq.trans (hf 4) (by conv => lhs; simp [go_sem])
      have y5 : A.eval (.tmp 5) = _ := Eq.trans (hf 5) (by conv => lhs; simp [go_sem])
      have y6 : A.eval (.tmp 6) = _ := Eq.trans (hf 6) (by conv => lhs; simp [go_sem])
      have y7 : A.eval (.tmp 7) = _ := Eq.trans (hf 7) (by conv => lhs; simp [go_sem])
      have y8 : A.eval (.tmp 8) = _ := Eq.trans (hf 8) (by conv => lhs; simp [go_sem])
      have y9 : A.eval (.tmp 9) = _ := Eq.trans (hf 9) (by conv => lhs; simp [go_sem])
      have y10 : A.eval (.tmp 10) = _ := Eq.trans (hf 10) (by conv => lhs; simp [go_sem])
      have y11 : A.eval (.tmp 11) = _ := Eq.trans (hf 11) (by conv => lhs; simp [go_sem])
      have y12 : A.eval (.tmp 12) = _ := Eq.trans (hf 12) (by conv => lhs; simp [go_sem])
      have y13 : A.eval (.tmp 13) = _ := Eq.trans (hf 13) (by conv => lhs; simp [go_sem])
      have y14 : A.eval (.tmp 14) = _ := Eq.trans (hf 14) (by conv => lhs; simp [go_sem])
      have y15 : A.eval (.tmp 15) = _ := Eq.trans (hf 15) (by conv => lhs; simp [go_sem])
      have y16 : A.eval (.tmp 16) = _ := Eq.trans (hf 16) (by conv => lhs; simp [go_sem])
      have y17 : A.eval (.tmp 17) = _ := Eq.trans (hf 17) (by conv => lhs; simp [go_sem])
      have y18 : A.eval (.tmp 18) = _ := Eq.trans (hf 18) (by conv => lhs; simp [go_sem])
      have y19 : A.eval (.tmp 19) = _ := Eq.trans (hf 19) (by conv => lhs; simp [go_sem])
      have y20 : A.eval (.tmp 20) = _ := Eq.trans (hf 20) (by conv => lhs; simp [go_sem])
      have y21 : A.eval (.tmp 21) = _ := Eq.trans (hf 21) (by conv => lhs; simp [go_sem])
      have y22 : A.eval (.tmp 22) = _ := Eq.trans (hf 22) (by conv => lhs; simp [go_sem])
      have y23 : A.eval (.tmp 23) = _ := Eq.trans (hf 23) (by conv => lhs; simp [go_sem])
      have y24 : A.eval (.tmp 24) = _ := Eq.trans (hf 24) (by conv => lhs; simp [go_sem])
      have y25 : A.eval (.tmp 25) = _ := Eq.trans (hf 25) (by conv => lhs; simp [go_sem])
      have y26 : A.eval (.tmp 26) = _ := Eq.trans (hf 26) (by conv => lhs; simp [go_sem])
      have y27 : A.eval (.tmp 27) = _ := Eq.trans (hf 27) (by conv => lhs; simp [go_sem])
      have y28 : A.eval (.tmp 28) = _ := Eq.trans (hf 28) (by conv => lhs; simp [go_sem])
      have y29 : A.eval (.tmp 29) = _ := Eq.trans (hf 29) (by conv => lhs; simp [go_sem])
      have y30 : A.eval (.tmp 30) = _ := Eq.trans (hf 30) (by conv => lhs; simp [go_sem])
      have y31 : A.eval (.tmp 31) = _ := Eq.trans (hf 31) (by conv => lhs; simp [go_sem])
      have y32 : A.eval (.tmp 32) = _ := Eq.trans (hf 32) (by conv => lhs; simp [go_sem])
      have y33 : A.eval (.tmp 33) = _ := Eq.trans (hf 33) (by conv => lhs; simp [go_sem])
      have y34 : A.eval (.tmp 34) = _ := Eq.trans (hf 34) (by conv => lhs; simp [go_sem])
      have y35 : A.eval (.tmp 35) = _ := Eq.trans (hf 35) (by conv => lhs; simp [go_sem])
      have y36 : A.eval (.tmp 36) = _ := Eq.trans (hf 36) (by conv => lhs; simp [go_sem])
      have y37 : A.eval (.tmp 37) = _ := Eq.trans (hf 37) (by conv => lhs; simp [go_sem])
      have y38 : A.eval (.tmp 38) = _ := Eq.trans (hf 38) (by conv => lhs; simp [go_sem])
      have y39 : A.eval (.tmp 39) = _ := Eq.trans (hf 39) (by conv => lhs; simp [go_sem])
      have y40 : A.eval (.tmp 40) = _ := Eq.trans (hf 40) (by conv => lhs; simp [go_sem])
      have y41 : A.eval (.tmp 41) = _ := Eq.trans (hf 41) (by conv => lhs; simp [go_sem])
      have y42 : A.eval (.tmp 42) = _ := Eq.trans (hf 42) (by conv => lhs; simp [go_sem])
      have y43 : A.eval (.tmp 43) = _ := Eq.trans (hf 43) (by conv => lhs; simp [go_sem])
      have y44 : A.eval (.tmp 44) = _ := Eq.trans (hf 44) (by conv => lhs; simp [go_sem])
      have y45 : A.eval (.tmp 45) = _ := Eq.trans (hf 45) (by conv => lhs; simp [go_sem])
      have y46 : A.eval (.tmp 46) = _ := Eq.trans (hf 46) (by conv => lhs; simp [go_sem])
      have y47 : A.eval (.tmp 47) = _ := Eq.trans (hf 47) (by conv => lhs; simp [go_sem])
      have y48 : A.eval (.tmp 48) = _ := hf 48
      have y49 : A.eval (.tmp 49) = _ := hf 49
      have y50 : A.eval (.tmp 50) = _ := hf 50
      have y51 : A.eval (.tmp 51) = _ := hf 51
      have y52 : A.eval (.tmp 52) = _ := hf 52
      have y53 : A.eval (.tmp 53) = _ := hf 53
      have y54 : A.eval (.tmp 54) = _ := hf 54
      have y55 : A.eval (.tmp 55) = _ := hf 55
      have y56 : A.eval (.tmp 56) = _ := hf 56
      have y57 : A.eval (.tmp 57) = _ := hf 57
      have y58 : A.eval (.tmp 58) = _ := Eq.trans (hf 58) (by conv => lhs; simp [go_sem])
      have y59 : A.eval (.tmp 59) = _ := Eq.trans (hf 59) (by conv => lhs; simp [go_sem])
      have y60 : A.eval (.tmp 60) = _ := Eq.trans (hf 60) (by conv => lhs; simp [go_sem])
      clear hf
      have hA := frame_eq hn
      rw [show List.range 61 = [0, 1, 2, 3, 4, 5, 6, 7, 8, 9, 10, 11, 12, 13, 14, 15, 16, 17, 18, 19, 20, 21, 22, 23, 24, 25, 26, 27, 28, 29, 30, 31, 32, 33, 34, 35, 36, 37, 38, 39, 40, 41, 42, 43, 44, 45, 46, 47, 48, 49, 50, 51, 52, 53, 54, 55, 56, 57, 58, 59, 60] from rfl, hd] at hA
      simp only [List.map_cons, List.map_nil, y0, y1, y2, y3, y4, y5, y6, y7, y8, y9, y10, y11, y12, y13, y14, y15, y16, y17, y18, y19, y20, y21, y22, y23, y24, y25, y26, y27, y28, y29, y30, y31, y32, y33, y34, y35, y36, y37, y38, y39, y40, y41, y42, y43, y44, y45, y46, y47, y48, y49, y50, y51, y52, y53, y54, y55, y56, y57, y58, y59, y60] at hA
      clear y0 y1 y2 y3 y4 y5 y6 y7 y8 y9 y10 y11 y12 y13 y14 y15 y16 y17 y18 y19 y20 y21 y22 y23 y24 y25 y26 y27 y28 y29 y30 y31 y32 y33 y34 y35 y36 y37 y38 y39 y40 y41 y42 y43 y44 y45 y46 y47 y48 y49 y50 y51 y52 y53 y54 y55 y56 y57 y58 y59 y60
      clear hn hd
      subst hA
      have HM6 := Lib.hid (HM5.out.below hC HM5.out.lt)
      have H6 := Lib.hid (H5.out.below hC)
      have HB6 := Lib.hid (HB5.out.trans (hC.mono HB5.out.size))
      clear kc2 cS hC hold
      obtain ⟨r0, r1, r2, r3⟩ := HM6.out.c4 hlt
      have fz0 := HM6.out.fz (1 + fN * 4)
      have fz1 := HM6.out.fz (1 + fN * 4 + 1)
      have fz2 := HM6.out.fz (1 + fN * 4 + 2)
      have fz3 := HM6.out.fz (1 + fN * 4 + 3)
      have hx9 := HM6.out.put hlt (true, M, now, sees)
      have hc9 := chain4_chg V6 g1 (1 + fN * 4) (true, M, now, sees)
      have hq := HLG.out
      have hgw : w.heap.size ≤ g1 := by have := HG0.out; omega
      have HX9 := Lib.hid hx9
      have HP9 := Lib.hid (H6.out.chg hc9 (by omega) (by omega))
      have HB9 := Lib.hid (HB6.out.trans (hc9.below (B := w.heap.size) HB6.out.size (fun k e => by omega)))
      have HLL : Hid ((s.L.set fN (true, M, now, sees)).length = 64) := by show _ = _; rw [List.length_set]; exact HLEN.out
      clear hx9 hc9 hq hgw
      go_wp2_with fail
      refine wp_load_mem _ rfl rfl HX9.out ?_
      clear r0 r1 r2 r3 fz0 fz1 fz2 fz3
      go_wp2_with fail
      refine (swap_any b m s now (s.L.set fN (true, M, now, sees)) _ HP9.out HLL.out).mono ?_
      rintro e w2 ⟨⟨a, c, rfl, ho⟩, hm, hmo, hch, q0, q1, q2, q3, q4⟩
      have hev : swO s.L (s.L.set fN (true, M, now, sees)) 64 = rO := by
        have hg := hear_good (now := now) HOK.out HOLD.out HSE.out ⟨rfl, rfl⟩ rfl
        have e1 : _ = rO := congrArg Prod.fst (hg.symm.trans HRR.out)
        rw [sw_one s.L HLEN.out fN hlt, HY.out.1, ← e1, HY.out.2.1]
        have ho := HOLD.out
        rw [HY.out.2.1] at ho
        exact (hear_tn HY.out.2.2 ho).symm
      have hen : (0 : Int) = rE := by
        have hg := hear_good (now := now) HOK.out HOLD.out HSE.out ⟨rfl, rfl⟩ rfl
        exact congrArg (fun p => p.2.1) (hg.symm.trans HRR.out)
      have hsn : { s with now := now, L := s.L.set fN (true, M, now, sees) } = rS := by
        have hg := hear_good (now := now) HOK.out HOLD.out HSE.out ⟨rfl, rfl⟩ rfl
        exact congrArg (fun p => p.2.2) (hg.symm.trans HRR.out)
      rw [hev] at ho ⊢
      have HO := Lib.hid ho
      have HR := Lib.hid (And.intro hm (And.intro hch (And.intro q0 (And.intro q1 (And.intro q2 (And.intro q3 q4))))))
      have HEN := Lib.hid (And.intro hen hsn)
      clear ho hm hmo hch q0 q1 q2 q3 q4 hev hen hsn
      go_wp2_with fail
      refine bodyPost_ret (v := .tuple #[.slice a rO.length c, .int .i64 0]) (by simp [results, Try.results15, go_sem]) rfl ?_
      obtain ⟨hm, hch, q0, q1, q2, q3, q4⟩ := HR.out
      have hsz := HB9.out.size
      have hlb := HP9.out.lt
      refine ⟨_, _, by rw [← HEN.out.1], HO.out.ev, ?_, .inr hsz, (chg0 HB9.out).trans hch (fun x _ e => e), fun g hg => ?_⟩
      · rw [← HEN.out.2]
        refine ⟨Nat.ne_of_lt hlb, q0, q1, q2, q3, q4, hm, ?_⟩
        have := snok_hear HP9.out.ok now (fN : Int) M ys
        rw [HRR.out, ← HEN.out.2] at this
        exact this
      · have := (World.ownsRow.lt HO.out g hg).1
        exact ⟨by omega, by omega⟩
end Go.Proofs.Ytcddicaebecneaa

namespace Go.Proofs.Ytcddicaebecneaa
set_option maxRecDepth 100000
open Go.RowKit

theorem beok_nil (ep : Int) (q : Bool) (hq : q = true ↔ EpOk ep) : q = true ↔ BeOk ep [] := by
  rw [hq]
  exact ⟨fun h => ⟨fun i hi => absurd hi (Nat.not_lt_zero i), h⟩, fun h => h.2⟩
theorem el_nil (w : World) : El w (.slice none 0 0) [] := (OwC_nil w 0).el
set_option maxHeartbeats 8000000 in
theorem new_any (id ep hold : Int) (w : World) :
    Calls Try.prog 10 #[.int .i64 id, .int .i64 ep, .int .i64 hold] w fun e w' => Below w.heap.size w w' ∧
      ((¬ newOk id ep hold ∧ e = .returned (.tuple #[.pointer none, .int .i64 1])) ∨ (newOk id ep hold ∧ ∃ b m, e = .returned (.tuple #[.pointer (some ⟨b, 0, none⟩), .int .i64 0]) ∧ PAt w' b m (sn0 id ep hold) ∧ w.heap.size ≤ b ∧ w.heap.size ≤ m)) := by
  by_cases g1' : ¬ (0 ≤ id ∧ id < 64)
  · have g1 := g1'
    clear g1'
    have HN : Hid (¬ newOk id ep hold) := fun h => g1 ⟨h.1, h.2.1⟩
    have cI := isnode_fix id false (by simpa using g1) w
    clear g1
    go_enter Try.func10, Try.ntmps10
    go_wp2_with fail
    refine cI.mono ?_
    rintro e w1 ⟨rfl, rfl⟩
    go_wp2_with fail
    refine bodyPost_ret (v := .tuple #[.pointer none, .int .i64 1]) (by simp [results, Try.results10, go_sem]) rfl ?_
    exact ⟨Below.refl _ _, .inl ⟨HN.out, rfl⟩⟩
  have g1 : 0 ≤ id ∧ id < 64 := Classical.not_not.1 g1'
  clear g1'
  have cI := isnode_fix id true (iff_of_true rfl g1) w
  have G1 := Lib.hid g1
  clear g1
  by_cases g2' : ¬ (EpOk ep)
  · have g2 := g2'
    clear g2'
    have HN : Hid (¬ newOk id ep hold) := fun h => g2 h.2.2.1
    have cK := check_fix6 ep (.slice none 0 0) [] false (beok_nil ep false (by simpa using g2)) w (el_nil w) (by decide)
    clear g2
    go_enter Try.func10, Try.ntmps10
    go_wp2_with fail
    refine cI.mono ?_
    rintro e w1 ⟨rfl, rfl⟩
    go_wp2_with fail
    refine cK.mono ?_
    rintro e w2 ⟨rfl, hb2⟩
    have HB2 := Lib.hid hb2
    clear hb2
    go_wp2_with fail
    refine bodyPost_ret (v := .tuple #[.pointer none, .int .i64 1]) (by simp [results, Try.results10, go_sem]) rfl ?_
    exact ⟨HB2.out, .inl ⟨HN.out, rfl⟩⟩
  have g2 : EpOk ep := Classical.not_not.1 g2'
  clear g2'
  have cK := check_fix6 ep (.slice none 0 0) [] true (beok_nil ep true (iff_of_true rfl g2)) w (el_nil w) (by decide)
  have G2 := Lib.hid g2
  clear g2
  by_cases g3 : hold < 1
  · have HN : Hid (¬ newOk id ep hold) := fun h => by have := h.2.2.2.1; omega
    go_enter Try.func10, Try.ntmps10
    go_wp2_with fail
    refine cI.mono ?_
    rintro e w1 ⟨rfl, rfl⟩
    go_wp2_with fail
    refine cK.mono ?_
    rintro e w2 ⟨rfl, hb2⟩
    have HB2 := Lib.hid hb2
    clear hb2
    go_wp2_with fail
    refine bodyPost_ret (v := .tuple #[.pointer none, .int .i64 1]) (by simp [results, Try.results10, go_sem]) rfl ?_
    exact ⟨HB2.out, .inl ⟨HN.out, rfl⟩⟩
  by_cases g4 : 1000000 < hold
  · have HN : Hid (¬ newOk id ep hold) := fun h => by have := h.2.2.2.2; omega
    go_enter Try.func10, Try.ntmps10
    go_wp2_with fail
    refine cI.mono ?_
    rintro e w1 ⟨rfl, rfl⟩
    go_wp2_with fail
    refine cK.mono ?_
    rintro e w2 ⟨rfl, hb2⟩
    have HB2 := Lib.hid hb2
    clear hb2
    go_wp2_with fail
    refine bodyPost_ret (v := .tuple #[.pointer none, .int .i64 1]) (by simp [results, Try.results10, go_sem]) rfl ?_
    exact ⟨HB2.out, .inl ⟨HN.out, rfl⟩⟩
  have HN : Hid (newOk id ep hold) := ⟨G1.out.1, G1.out.2, G2.out, by omega, by omega⟩
  obtain ⟨Z, hZ⟩ : ∃ Z, mcs 0 (List.replicate 64 zHd) = Z := ⟨_, rfl⟩
  have hz := zeroTM
  rw [hZ] at hz
  have HZ := Lib.hid hZ
  clear hZ
  go_enter Try.func10, Try.ntmps10
  go_wp2_with fail
  refine cI.mono ?_
  rintro e w1 ⟨rfl, rfl⟩
  go_wp2_with fail
  refine cK.mono ?_
  rintro e w2 ⟨rfl, hb2⟩
  obtain ⟨V1, hV1⟩ : ∃ V1, w2.alloc (.cells #[.int .i64 id, .int .i64 ep, .int .i64 hold, .pointer none] 67) = V1 := ⟨_, rfl⟩
  obtain ⟨V2, hV2⟩ : ∃ V2, V1.alloc (.cells Z 73) = V2 := ⟨_, rfl⟩
  obtain ⟨b, hb⟩ : ∃ b, w2.heap.size = b := ⟨_, rfl⟩
  have hs1 : V1.heap.size = b + 1 := by rw [← hb, ← hV1]; simp
  have hb1 : Below w2.heap.size w2 V1 := hV1 ▸ (Below.refl _ w2).alloc (Nat.le_refl _) _
  have hbv : Below V1.heap.size V1 V2 := hV2 ▸ (Below.refl _ V1).alloc (Nat.le_refl _) _
  have c1 : (V1.cell? ⟨b, 0, none⟩ = some (.int .i64 id) ∧ V1.cell? ⟨b, 1, none⟩ = some (.int .i64 ep) ∧ V1.cell? ⟨b, 2, none⟩ = some (.int .i64 hold) ∧ V1.cell? ⟨b, 3, none⟩ = some (.pointer none)) ∧ ∀ k, V1.frozen? ⟨b, k, none⟩ = false := by
    rw [← hV1, ← hb]
    exact ⟨⟨by simp, by simp, by simp, by simp⟩, fun k => by simp⟩
  obtain ⟨⟨p0, p1, p2, p3⟩, pf⟩ := c1
  have q0 := (hbv.cell (p := ⟨b, 0, none⟩) (by show b < _; omega)).trans p0
  have q1 := (hbv.cell (p := ⟨b, 1, none⟩) (by show b < _; omega)).trans p1
  have q2 := (hbv.cell (p := ⟨b, 2, none⟩) (by show b < _; omega)).trans p2
  have q3 := (hbv.cell (p := ⟨b, 3, none⟩) (by show b < _; omega)).trans p3
  have qf : ∀ k, V2.frozen? ⟨b, k, none⟩ = false := fun k => (hbv.frozen (p := ⟨b, k, none⟩) (by show b < _; omega)).trans (pf k)
  have hm : Mem V2 V1.heap.size 0 (List.replicate 64 zHd) := by rw [← hV2, ← HZ.out]; exact mem_new V1 0 List.length_replicate
  have cT := mstore b 3 none ⟨V1.heap.size, 0, none⟩ V2 q3 (qf 3) hm.pt
  obtain ⟨V3, hV3⟩ : ∃ V3, V2.setCell ⟨b, 3, none⟩ (.pointer (some ⟨V1.heap.size, 0, none⟩)) = V3 := ⟨_, rfl⟩
  rw [hV3] at cT
  have hne : b ≠ V1.heap.size := by omega
  have hP : PAt V3 b V1.heap.size (sn0 id ep hold) := by
    rw [← hV3]
    exact ⟨hne, by simp [go_sem, q0, sn0], by simp [go_sem, q1, sn0], by simp [go_sem, q2, sn0], World.cell?_setCell_same _ _ _ q3, fun k => by simpa using qf k, hm.off hne.symm _, snok_new HN.out⟩
  have hB3 : Below w.heap.size w V3 := by
    have h1 := hb2.trans (hb1.mono hb2.size)
    have h2 := h1.trans (hbv.mono h1.size)
    rw [← hV3]
    exact h2.setCell (p := ⟨b, 3, none⟩) (by show w.heap.size ≤ b; have := hb2.size; omega) _
  have HFIN := Lib.hid (And.intro hP (And.intro hB3 (And.intro (show w.heap.size ≤ b by have := hb2.size; omega) (show w.heap.size ≤ V1.heap.size by have := hb2.size; omega))))
  have HV1 := Lib.hid hV1
  have HV2 := Lib.hid hV2
  have HB := Lib.hid hb
  have HS1 := Lib.hid hs1
  clear hV1 hV2 hb hs1 hb1 hbv p0 p1 p2 p3 pf q0 q1 q2 q3 qf hm hV3 hP hB3 hb2 cI cK hne
  go_upto_region 4 with (fail)
  rw [HV1.out]
  simp only [HB.out]
  go_wp2_with fail
  rw [HV2.out]
  refine cT.mono ?_
  rintro e w3 ⟨rfl, rfl⟩
  go_wp2_with fail
  refine bodyPost_ret (v := .tuple #[.pointer (some ⟨b, 0, none⟩), .int .i64 0]) (by simp [results, Try.results10, go_sem]) rfl ?_
  obtain ⟨h1, h2, h3, h4⟩ := HFIN.out
  exact ⟨h2, .inr ⟨HN.out, b, _, rfl, h1, h3, h4⟩⟩
theorem phear_nil (now fr M : Int) (v : Value) (w : World) (a : Option Addr) (n c : Nat) (hv : v = .slice a n c) : Calls Try.prog 15 #[.pointer none, .int .i64 now, .int .i64 fr, .agg #[.int .i64 M, v]] w fun e w' => ∃ r, e = .returned (.tuple #[r, .int .i64 3]) ∧ Evs w' r [] ∧ Below w.heap.size w w' := by
  subst hv
  have hb : Below w.heap.size w (w.alloc (.cells #[.int .i64 M, .slice a n c] 34)) := (Below.refl _ w).alloc (Nat.le_refl _) _
  have HB := Lib.hid hb
  clear hb
  go_enter Try.func15, Try.ntmps15
  go_wp2_with fail
  refine bodyPost_ret (v := .tuple #[.slice none 0 0, .int .i64 3]) (by simp [results, Try.results15, go_sem]) rfl ?_
  exact ⟨_, rfl, Evs_nil _, HB.out⟩
theorem tick_nil (now : Int) (w : World) : Calls Try.prog 13 #[.pointer none, .int .i64 now] w fun e w' => ∃ r, e = .returned (.tuple #[r, .int .i64 3]) ∧ Evs w' r [] ∧ Below w.heap.size w w' := by
  go_enter Try.func13, Try.ntmps13
  go_wp2_with fail
  refine bodyPost_ret (v := .tuple #[.slice none 0 0, .int .i64 3]) (by simp [results, Try.results13, go_sem]) rfl ?_
  exact ⟨_, rfl, Evs_nil _, Below.refl _ _⟩
/-- The program's sensor answers as it is asked to. -/
theorem sc : Sc PS where
  lt := fun ⟨m, h, hF⟩ k hk => by
    rcases (hF k).1 hk with rfl | rfl
    · exact h.lt
    · exact h.mem.lt
  ok := fun ⟨m, h, _⟩ => h.ok
  keep := fun ⟨m, h, hF⟩ hc hn => ⟨m, h.chg hc (hn _ ((hF _).2 (.inl rfl))) (hn _ ((hF _).2 (.inr rfl))), hF⟩
  new := fun id ep hold w => (new_any id ep hold w).mono fun e w' h => by
    obtain ⟨hb, h | ⟨hn, b, m, rfl, hp, h1, h2⟩⟩ := h
    · exact ⟨hb, .inl h⟩
    · exact ⟨hb, .inr ⟨hn, b, fun k => k = b ∨ k = m, rfl, ⟨m, hp, fun k => Iff.rfl⟩, fun k hk => by
        rcases hk with rfl | rfl
        · exact h1
        · exact h2⟩⟩
  hear := fun {w F b s} now fr M v ys ⟨m, h, hF⟩ hE hl => (phear_any b m s now fr M v ys w h hE hl _ _ _ rfl).mono fun e w' hh => by
    obtain ⟨r, m', rfl, he, hp, hm, hc, ho⟩ := hh
    refine ⟨r, rfl, he, hc.mono (fun x _ e => (hF x).2 (.inl e)), fun k => k = b ∨ k = m', ⟨m', hp, fun k => Iff.rfl⟩, fun k hk => ?_, fun g hg => ⟨(ho g hg).1, fun h2 => ?_⟩⟩
    · rcases hk with rfl | rfl
      · exact .inl ((hF _).2 (.inl rfl))
      · rcases hm with rfl | hm
        · exact .inl ((hF _).2 (.inr rfl))
        · exact .inr hm
    · rcases h2 with rfl | rfl
      · have := h.lt; have := (ho _ hg).1; omega
      · exact (ho _ hg).2 rfl
  tick := fun {w F b s} now ⟨m, h, hF⟩ => (tick_any b m s now w h).mono fun e w' hh => by
    obtain ⟨r, m', rfl, he, hp, hm, hc, ho⟩ := hh
    refine ⟨r, rfl, he, hc.mono (fun x _ e => (hF x).2 (.inl e)), fun k => k = b ∨ k = m', ⟨m', hp, fun k => Iff.rfl⟩, fun k hk => ?_, fun g hg => ⟨(ho g hg).1, fun h2 => ?_⟩⟩
    · rcases hk with rfl | rfl
      · exact .inl ((hF _).2 (.inl rfl))
      · rcases hm with rfl | hm
        · exact .inl ((hF _).2 (.inr rfl))
        · exact .inr hm
    · rcases h2 with rfl | rfl
      · have := h.lt; have := (ho _ hg).1; omega
      · exact (ho _ hg).2 rfl
  beacon := fun {w F b s} ⟨m, h, hF⟩ => (beacon_any b m s w h).mono fun e w' hh => by
    obtain ⟨v, rfl, ho, hb⟩ := hh
    refine ⟨v, rfl, ho.el, chg0 hb, F, ⟨m, h.below hb, hF⟩, fun k hk => .inl hk, fun g hg => ⟨(ho.own g hg).1, fun h2 => ?_⟩⟩
    have h3 := (ho.own g hg).1
    rcases (hF g).1 h2 with rfl | rfl
    · have := h.lt; omega
    · have := h.mem.lt; omega
  links := fun {w F b s} ⟨m, h, hF⟩ => (links_any b m s w h).mono fun e w' hh => by
    obtain ⟨v, rfl, ho, hb⟩ := hh
    refine ⟨v, rfl, ho.es, chg0 hb, F, ⟨m, h.below hb, hF⟩, fun k hk => .inl hk, fun g hg => ⟨(ho.own g hg).1, fun h2 => ?_⟩⟩
    have h3 := (ho.own g hg).1
    rcases (hF g).1 h2 with rfl | rfl
    · have := h.lt; omega
    · have := h.mem.lt; omega
  hearN := fun now fr M v ys w hE _ => by
    obtain ⟨a, c, hv⟩ := hE.1.form
    exact phear_nil now fr M v w a ys.length c hv
  tickN := fun now w => tick_nil now w
  beaconN := fun w => beacon_nil w
  linksN := fun w => links_nil w
end Go.Proofs.Ytcddicaebecneaa
