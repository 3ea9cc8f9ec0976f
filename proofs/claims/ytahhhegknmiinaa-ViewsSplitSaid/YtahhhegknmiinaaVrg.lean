/- The reference's views: Get, Right. No conditions but on lengths. -/
import Derived.Test.YtahhhegknmiinaaVrf
import Derived.Test.YtahhhegknmiinaaTyped
import Derived.Test.YtahhhegknmiinaaTyp2
import Derived.IntWalk
import Derived.Deep.Cut
import Derived.Deep.CutBlock
namespace Go.Proofs.Ytahhhegknmiinaa
set_option maxRecDepth 100000
open Go.RowKit

/-- The height of the first view of a node; whether there is one. -/
def isId (id : Int) (y : Vw) : Bool := y.1 == id
def getV (l : List Vw) (id : Int) : Hx := ((l.find? (isId id)).map (·.2)).getD zHx
def getB (l : List Vw) (id : Int) : Bool := l.any (isId id)
theorem get_at {l : List Vw} {id : Int} {k : Nat} (h : k < l.length) (hb : ∀ i, i < k → (l.getD i zVw).1 ≠ id) (hk : (l.getD k zVw).1 = id) :
    getV l id = (l.getD k zVw).2 ∧ getB l id = true := by
  induction k generalizing l with
  | zero =>
    cases l with
    | nil => simp at h
    | cons y r =>
      have hy : isId id y = true := by simpa [isId] using hk
      simp [getV, getB, hy]
  | succ k ih =>
    cases l with
    | nil => simp at h
    | cons y r =>
      have hy : isId id y = false := by have := hb 0 (by omega); simpa [isId] using this
      obtain ⟨h1, h2⟩ := ih (l := r) (by simpa using h) (fun i hi => by have := hb (i + 1) (by omega); simpa using this) (by simpa using hk)
      refine ⟨?_, ?_⟩
      · rw [List.getD_cons_succ, ← h1]; simp [getV, hy]
      · rw [← h2]; unfold getB; rw [List.any_cons, hy, Bool.false_or]
theorem get_no {l : List Vw} {id : Int} (hb : ∀ i, i < l.length → (l.getD i zVw).1 ≠ id) : getV l id = zHx ∧ getB l id = false := by
  have h : ∀ y ∈ l, isId id y = false := by
    intro y hy
    obtain ⟨i, hi, rfl⟩ := List.mem_iff_getElem.1 hy
    have := hb i hi
    simpa [isId, List.getD, hi] using this
  refine ⟨?_, ?_⟩
  · unfold getV
    rw [List.find?_eq_none.2 (fun y hy => by rw [h y hy]; simp)]
    rfl
  · unfold getB
    exact List.any_eq_false.2 fun y hy => by rw [h y hy]; simp
set_option maxHeartbeats 8000000 in
theorem rvget_any (v : Value) (l : List Vw) (id : Int) (w : World) (h : Vs w v l) (hl : l.length ≤ 3000) :
    Calls Try.prog 11 #[v, .int .i64 id] w fun e w' => e = .returned (.tuple #[hxV (getV l id), .bool (getB l id)]) ∧ Below w.heap.size w w' := by
  obtain ⟨a, c, rfl⟩ := h.form
  obtain ⟨w1, hw1⟩ : ∃ w1, w.alloc (.cells #[.bool false, .int .i64 0, .int .i64 0, .int .i64 0, .int .i64 0, .int .i64 0] 24) = w1 := ⟨_, rfl⟩
  have hb0 : Below w.heap.size w w1 := hw1 ▸ (Below.refl _ w).alloc (Nat.le_refl _) _
  have OV := Lib.hid (hw1 ▸ own6_alloc w false 0 0 0 0 0 24 w.heap.size rfl : Own6 w1 w.heap.size false 0 0 0 0 0)
  have HV := Lib.hid (h.below hb0)
  have HB := Lib.hid hb0
  clear h hb0
  obtain ⟨⟨u0, u1, u2, u3, u4, u5⟩, uf⟩ := OV.out
  go_enter Try.func11, Try.ntmps11
  go_upto_region 1 with (fail)
  clear hw1
  go_wp2_with fail
  go_loopw [6] (fun i wr => ∃ k : Nat, k ≤ l.length ∧ i = .int .i64 k ∧ (∀ i, i < k → (l.getD i zVw).1 ≠ id) ∧ w1 = wr) (fun i _ => l.length - (intOf i).toNat)
  case atStart => exact ⟨0, Nat.zero_le _, rfl, fun i h => absurd h (Nat.not_lt_zero _), rfl⟩
  case round =>
    obtain ⟨k, hk, rfl, hno, rfl⟩ := hrel
    have HNO := Lib.hid hno
    clear hno
    by_cases hlt : k < l.length
    · obtain ⟨b2, off, rfl, hB, p0, p1, p2, p3, p4, p5, p6⟩ := HV.out.at hlt
      obtain ⟨y, hy⟩ : ∃ y, l.getD k zVw = y := ⟨_, rfl⟩
      rw [hy] at p0 p1 p2 p3 p4 p5 p6
      have HY := Lib.hid hy
      clear hy
      by_cases hd : y.1 = id
      · have hq : (y.1 == id) = true := by simpa using hd
        have hga := get_at hlt HNO.out (by rw [HY.out]; exact hd)
        rw [HY.out] at hga
        have HGA := Lib.hid hga
        clear hd hga
        go_wp2_with fail
        have hs := vset6 OV.out.1 y.2.1 y.2.2.1 y.2.2.2.1 y.2.2.2.2.1 y.2.2.2.2.2.1 y.2.2.2.2.2.2
        have hcg := vbel_set6 HB.out (Nat.le_refl _) y.2.1 y.2.2.1 y.2.2.2.1 y.2.2.2.2.1 y.2.2.2.2.2.1 y.2.2.2.2.2.2
        generalize (((((w1.setCell ⟨w.heap.size, 0, none⟩ (.bool y.2.1)).setCell ⟨w.heap.size, 1, none⟩ (.int .i64 y.2.2.1)).setCell ⟨w.heap.size, 2, none⟩ (.int .i64 y.2.2.2.1)).setCell ⟨w.heap.size, 3, none⟩ (.int .i64 y.2.2.2.2.1)).setCell ⟨w.heap.size, 4, none⟩ (.int .i64 y.2.2.2.2.2.1)).setCell ⟨w.heap.size, 5, none⟩ (.int .i64 y.2.2.2.2.2.2) = W5 at *
        obtain ⟨s0_, s1_, s2_, s3_, s4_, s5_⟩ := hs
        exact bodyPost_ret (v := .tuple #[hxV y.2, .bool true]) (by simp [results, Try.results11, go_sem, s0_, s1_, s2_, s3_, s4_, s5_]) rfl ⟨by rw [HGA.out.1, HGA.out.2], hcg⟩
      · have hq : (y.1 == id) = false := by simpa using hd
        have HD := Lib.hid hd
        clear hd
        go_wp2_with fail
        go_roundw
        case rel =>
          refine ⟨k + 1, by omega, by go_num, ?_, by first | rfl | trivial⟩
          intro i hi
          by_cases h : i < k
          · exact HNO.out i h
          · obtain rfl : i = k := by omega
            rw [HY.out]; exact HD.out
        case measure => simp [intOf]; omega
    · obtain rfl : k = l.length := by omega
      have HGN := Lib.hid (get_no HNO.out)
      go_wp2_with fail
      have hs := vset6 OV.out.1 false 0 0 0 0 0
      have hcg := vbel_set6 HB.out (Nat.le_refl _) false 0 0 0 0 0
      generalize (((((w1.setCell ⟨w.heap.size, 0, none⟩ (.bool false)).setCell ⟨w.heap.size, 1, none⟩ (.int .i64 0)).setCell ⟨w.heap.size, 2, none⟩ (.int .i64 0)).setCell ⟨w.heap.size, 3, none⟩ (.int .i64 0)).setCell ⟨w.heap.size, 4, none⟩ (.int .i64 0)).setCell ⟨w.heap.size, 5, none⟩ (.int .i64 0) = W5 at *
      obtain ⟨s0_, s1_, s2_, s3_, s4_, s5_⟩ := hs
      exact bodyPost_ret (v := .tuple #[hxV zHx, .bool false]) (by simp [results, Try.results11, go_sem, s0_, s1_, s2_, s3_, s4_, s5_, zHx]) rfl ⟨by rw [HGN.out.1, HGN.out.2], hcg⟩
/-- A view that may stand there. -/
def VwAt (l : List Vw) (i : Nat) : Prop := NodeOk (l.getD i zVw).1 ∧ (0 < i → (l.getD (i - 1) zVw).1 < (l.getD i zVw).1) ∧ hOk (l.getD i zVw).2 ∧ (l.getD i zVw).2.2.2.2.2.2 = (l.getD i zVw).1
instance (l : List Vw) (i : Nat) : Decidable (VwAt l i) := by unfold VwAt NodeOk; infer_instance
/-- Views that are right. -/
def VOk (l : List Vw) : Prop := ∀ i, i < l.length → VwAt l i
instance (l : List Vw) : Decidable (VOk l) := by unfold VOk; infer_instance
set_option maxHeartbeats 32000000 in
theorem rvright_any (v : Value) (l : List Vw) (w : World) (h : Vs w v l) (hl : l.length ≤ 3000) :
    Calls Try.prog 17 #[v] w fun e w' => e = .returned (.bool (decide (VOk l))) ∧ Below w.heap.size w w' := by
  obtain ⟨a, c, rfl⟩ := h.form
  have HV := Lib.hid h
  clear h
  go_enter Try.func17, Try.ntmps17
  go_wp2_with fail
  go_loopw [3] (fun i wr => ∃ k : Nat, k ≤ l.length ∧ i = .int .i64 k ∧ (∀ i, i < k → VwAt l i) ∧ Below w.heap.size w wr) (fun i _ => l.length - (intOf i).toNat)
  case atStart => exact ⟨0, Nat.zero_le _, rfl, fun i h => absurd h (Nat.not_lt_zero _), Below.refl _ _⟩
  case round =>
    obtain ⟨k, hk, rfl, hok, hbel⟩ := hrel
    have HO := Lib.hid hok
    have HW := Lib.hid hbel
    clear hok hbel
    by_cases hlt : k < l.length
    · have hv := HV.out.below HW.out
      obtain ⟨b, off, rfl, hB, p0, p1, p2, p3, p4, p5, p6⟩ := hv.at hlt
      have hprev : 0 < k → wr.cell? ⟨b, off + (k - 1) * 7, none⟩ = some (.int .i64 (l.getD (k - 1) zVw).1) := fun h0 => (hv.all (i := k - 1) (by omega)).2.1
      obtain ⟨y, hy⟩ : ∃ y, l.getD k zVw = y := ⟨_, rfl⟩
      obtain ⟨z, hz⟩ : ∃ z, (l.getD (k - 1) zVw).1 = z := ⟨_, rfl⟩
      rw [hz] at hprev
      rw [hy] at p0 p1 p2 p3 p4 p5 p6
      have HAT : Hid (VwAt l k ↔ NodeOk y.1 ∧ (0 < k → z < y.1) ∧ hOk y.2 ∧ y.2.2.2.2.2.2 = y.1) := by
        show _ ↔ _
        unfold VwAt
        rw [hy, hz]
      clear hy hz hv
      obtain ⟨V, hV⟩ : ∃ V, wr.alloc (.cells #[.int .i64 y.1, .bool y.2.1, .int .i64 y.2.2.1, .int .i64 y.2.2.2.1, .int .i64 y.2.2.2.2.1, .int .i64 y.2.2.2.2.2.1, .int .i64 y.2.2.2.2.2.2] 40) = V := ⟨_, rfl⟩
      have hb1 : Below wr.heap.size wr V := hV ▸ (Below.refl _ wr).alloc (Nat.le_refl _) _
      obtain ⟨⟨d0, d1, d2, d3, d4, d5, d6⟩, df⟩ := (hV ▸ ownV_alloc wr y wr.heap.size rfl 40 : OwnV V wr.heap.size y)
      have dp : 0 < k → V.cell? ⟨b, off + (k - 1) * 7, none⟩ = some (.int .i64 z) := fun h0 => (hb1.cell (p := ⟨b, off + (k - 1) * 7, none⟩) hB).trans (hprev h0)
      have HBV := Lib.hid (HW.out.trans (hb1.mono HW.out.size))
      have hbv : b < V.heap.size := Nat.lt_of_lt_of_le hB hb1.size
      have hgv : wr.heap.size < V.heap.size := World.block_lt_of_cell? V _ d0
      have HN : Hid (¬ VwAt l k → decide (VOk l) = false) := fun h => decide_eq_false (fun h2 => h (h2 k hlt))
      go_upto_region 5 with (fail)
      clear p0 p1 p2 p3 p4 p5 p6 hV hprev hb1 hB
      have kc : ∀ w', Below V.heap.size V w' → w'.cell? ⟨wr.heap.size, 0, none⟩ = some (.int .i64 y.1) ∧ w'.cell? ⟨wr.heap.size, 1, none⟩ = some (.bool y.2.1) ∧ w'.cell? ⟨wr.heap.size, 2, none⟩ = some (.int .i64 y.2.2.1) ∧ w'.cell? ⟨wr.heap.size, 3, none⟩ = some (.int .i64 y.2.2.2.1) ∧ w'.cell? ⟨wr.heap.size, 4, none⟩ = some (.int .i64 y.2.2.2.2.1) ∧ w'.cell? ⟨wr.heap.size, 5, none⟩ = some (.int .i64 y.2.2.2.2.2.1) ∧ w'.cell? ⟨wr.heap.size, 6, none⟩ = some (.int .i64 y.2.2.2.2.2.2) := fun w' hb => ⟨(hb.cell (p := ⟨wr.heap.size, 0, none⟩) hgv).trans d0, (hb.cell (p := ⟨wr.heap.size, 1, none⟩) hgv).trans d1, (hb.cell (p := ⟨wr.heap.size, 2, none⟩) hgv).trans d2, (hb.cell (p := ⟨wr.heap.size, 3, none⟩) hgv).trans d3, (hb.cell (p := ⟨wr.heap.size, 4, none⟩) hgv).trans d4, (hb.cell (p := ⟨wr.heap.size, 5, none⟩) hgv).trans d5, (hb.cell (p := ⟨wr.heap.size, 6, none⟩) hgv).trans d6⟩
      by_cases g1 : y.1 < 0
      · refine wp_region_typed (C := fun w' => Below V.heap.size V w') (X := fun w w' => Below w.heap.size w w') (n := 52) (by kernel_rfl) (by kernel_rfl) rfl (fun w => Below.refl _ w) (Below.refl _ _).drew ?_
        refine w_is (fun w => Below.refl _ w) _ (.inl rfl) (fun ρ w hC hc hfn hf => by have e4 : ρ (.tmp 4) = _ := hf 4 (by decide); (conv => lhs; simp [execOp, go_sem, hc, e4])) ?_
        refine w_is (fun w => Below.refl _ w) _ (.inl rfl) (fun ρ w hC hc hfn hf => by have e15 : ρ (.tmp 15) = _ := hf 15 (by decide); (conv => lhs; simp [execOp, go_sem, hc, e15, kc w hC])) ?_
        refine w_is (fun w => Below.refl _ w) _ (.inl rfl) (fun ρ w hC hc hfn hf => by have e16 : ρ (.tmp 16) = _ := hf 16 (by decide); (conv => lhs; simp [execOp, go_sem, hc, e16, g1])) ?_
        refine w_is (fun w => Below.refl _ w) _ (.inl rfl) (fun ρ w hC hc hfn hf => by have e17 : ρ (.tmp 17) = _ := hf 17 (by decide); (conv => lhs; simp [execOp, go_sem, hc, e17])) ?_
        refine w_skip rfl rfl (known_is rfl) ?_
        refine w_skip rfl rfl (known_is rfl) ?_
        refine w_skip rfl rfl (known_is rfl) ?_
        refine w_is (fun w => Below.refl _ w) _ (.inl rfl) (fun ρ w hC hc hfn hf => by have e18 : ρ (.tmp 18) = _ := hf 18 (by decide); have e21 : ρ (.tmp 21) = _ := hf 21 (by decide); (conv => lhs; simp [execOp, go_sem, hc, e18, e21])) ?_
        refine w_is (fun w => Below.refl _ w) _ (.inl rfl) (fun ρ w hC hc hfn hf => by have e22 : ρ (.tmp 22) = _ := hf 22 (by decide); (conv => lhs; simp [execOp, go_sem, hc, e22])) ?_
        refine w_skip rfl rfl (known_is rfl) ?_
        refine w_skip rfl rfl (known_is rfl) ?_
        refine w_skip rfl rfl (known_is rfl) ?_
        refine w_skipU rfl rfl (known_is rfl) ?_
        refine w_skipU rfl rfl (known_is rfl) ?_
        refine w_skipU rfl rfl (known_is rfl) ?_
        refine w_skipU rfl rfl (known_is rfl) ?_
        refine w_skipU rfl rfl (known_is rfl) ?_
        refine w_skipU rfl rfl (known_is rfl) ?_
        refine w_skipU rfl rfl (known_is rfl) ?_
        refine w_skipU rfl rfl (known_is rfl) ?_
        refine w_skipU rfl rfl (known_is rfl) ?_
        refine w_skip rfl rfl (known_is rfl) ?_
        refine w_is (fun w => Below.refl _ w) _ (.inl rfl) (fun ρ w hC hc hfn hf => by have e23 : ρ (.tmp 23) = _ := hf 23 (by decide); have e36 : ρ (.tmp 36) = _ := hf 36 (by decide); (conv => lhs; simp [execOp, go_sem, hc, e23, e36])) ?_
        refine w_is (fun w => Below.refl _ w) _ (.inl rfl) (fun ρ w hC hc hfn hf => by have e37 : ρ (.tmp 37) = _ := hf 37 (by decide); (conv => lhs; simp [execOp, go_sem, hc, e37])) ?_
        refine w_skip rfl rfl (known_is rfl) ?_
        refine w_skip rfl rfl (known_is rfl) ?_
        refine w_skip rfl rfl (known_is rfl) ?_
        refine w_skip rfl rfl (known_is rfl) ?_
        refine w_is (fun w => Below.refl _ w) _ (.inl rfl) (fun ρ w hC hc hfn hf => by have e38 : ρ (.tmp 38) = _ := hf 38 (by decide); have e42 : ρ (.tmp 42) = _ := hf 42 (by decide); (conv => lhs; simp [execOp, go_sem, hc, e38, e42])) ?_
        refine w_is (fun w => Below.refl _ w) _ (.inl rfl) (fun ρ w hC hc hfn hf => by have e43 : ρ (.tmp 43) = _ := hf 43 (by decide); (conv => lhs; simp [execOp, go_sem, hc, e43])) ?_
        refine w_skip rfl rfl (known_is rfl) ?_
        refine w_skip rfl rfl (known_is rfl) ?_
        refine w_skip rfl rfl (known_is rfl) ?_
        refine w_skip rfl rfl (known_is rfl) ?_
        refine w_skip rfl rfl (known_is rfl) ?_
        refine w_skip rfl rfl (known_is rfl) ?_
        refine w_is (fun w => Below.refl _ w) _ (.inl rfl) (fun ρ w hC hc hfn hf => by have e44 : ρ (.tmp 44) = _ := hf 44 (by decide); have e50 : ρ (.tmp 50) = _ := hf 50 (by decide); (conv => lhs; simp [execOp, go_sem, hc, e44, e50])) ?_
        intro A V5 hC hn hd hf
        have y0 : A.eval (.tmp 0) = _ := Eq.trans (hf 0) (by conv => lhs; simp [go_sem])
        have y1 : A.eval (.tmp 1) = _ := Eq.trans (hf 1) (by conv => lhs; simp [go_sem])
        have y2 : A.eval (.tmp 2) = _ := Eq.trans (hf 2) (by conv => lhs; simp [go_sem])
        have y3 : A.eval (.tmp 3) = _ := Eq.trans (hf 3) (by conv => lhs; simp [go_sem])
        have y4 : A.eval (.tmp 4) = _ := Eq.trans (hf 4) (by conv => lhs; simp [go_sem])
        have y5 : A.eval (.tmp 5) = _ := Eq.trans (hf 5) (by conv => lhs; simp [go_sem])
        have y6 : A.eval (.tmp 6) = _ := Eq.trans (hf 6) (by conv => lhs; simp [go_sem])
        have y7 : A.eval (.tmp 7) = _ := Eq.trans (hf 7) (by conv => lhs; simp [go_sem])
        have y8 : A.eval (.tmp 8) = _ := Eq.trans (hf 8) (by conv => lhs; simp [go_sem])
        have y9 : A.eval (.tmp 9) = _ := Eq.trans (hf 9) (by conv => lhs; simp [go_sem])
        have y10 : A.eval (.tmp 10) = _ := Eq.trans (hf 10) (by conv => lhs; simp [go_sem])
        have y11 : A.eval (.tmp 11) = _ := Eq.trans (hf 11) (by conv => lhs; simp [go_sem])
        have y12 : A.eval (.tmp 12) = _ := Eq.trans (hf 12) (by conv => lhs; simp [go_sem])
        have y13 : A.eval (.tmp 13) = _ := Eq.trans (hf 13) (by conv => lhs; simp [go_sem])
        have y14 : A.eval (.tmp 14) = _ := Eq.trans (hf 14) (by conv => lhs; simp [go_sem])
        have y15 : A.eval (.tmp 15) = _ := hf 15
        have y16 : A.eval (.tmp 16) = _ := hf 16
        have y17 : A.eval (.tmp 17) = _ := hf 17
        have y18 : A.eval (.tmp 18) = _ := hf 18
        have y19 : A.eval (.tmp 19) = _ := hf 19
        have y20 : A.eval (.tmp 20) = _ := hf 20
        have y21 : A.eval (.tmp 21) = _ := hf 21
        have y22 : A.eval (.tmp 22) = _ := hf 22
        have y23 : A.eval (.tmp 23) = _ := hf 23
        have y24 : A.eval (.tmp 24) = _ := hf 24
        have y25 : A.eval (.tmp 25) = _ := hf 25
        have y26 : A.eval (.tmp 26) = _ := hf 26
        have y27 : A.eval (.tmp 27) = _ := hf 27
        have y28 : A.eval (.tmp 28) = _ := hf 28
        have y29 : A.eval (.tmp 29) = _ := hf 29
        have y30 : A.eval (.tmp 30) = _ := hf 30
        have y31 : A.eval (.tmp 31) = _ := hf 31
        have y32 : A.eval (.tmp 32) = _ := hf 32
        have y33 : A.eval (.tmp 33) = _ := hf 33
        have y34 : A.eval (.tmp 34) = _ := hf 34
        have y35 : A.eval (.tmp 35) = _ := hf 35
        have y36 : A.eval (.tmp 36) = _ := hf 36
        have y37 : A.eval (.tmp 37) = _ := hf 37
        have y38 : A.eval (.tmp 38) = _ := hf 38
        have y39 : A.eval (.tmp 39) = _ := hf 39
        have y40 : A.eval (.tmp 40) = _ := hf 40
        have y41 : A.eval (.tmp 41) = _ := hf 41
        have y42 : A.eval (.tmp 42) = _ := hf 42
        have y43 : A.eval (.tmp 43) = _ := hf 43
        have y44 : A.eval (.tmp 44) = _ := hf 44
        have y45 : A.eval (.tmp 45) = _ := hf 45
        have y46 : A.eval (.tmp 46) = _ := hf 46
        have y47 : A.eval (.tmp 47) = _ := hf 47
        have y48 : A.eval (.tmp 48) = _ := hf 48
        have y49 : A.eval (.tmp 49) = _ := hf 49
        have y50 : A.eval (.tmp 50) = _ := hf 50
        have y51 : A.eval (.tmp 51) = _ := hf 51
        clear hf
        have hA := frame_eq hn
        rw [show List.range 52 = [0, 1, 2, 3, 4, 5, 6, 7, 8, 9, 10, 11, 12, 13, 14, 15, 16, 17, 18, 19, 20, 21, 22, 23, 24, 25, 26, 27, 28, 29, 30, 31, 32, 33, 34, 35, 36, 37, 38, 39, 40, 41, 42, 43, 44, 45, 46, 47, 48, 49, 50, 51] from rfl, hd] at hA
        simp only [List.map_cons, List.map_nil, y0, y1, y2, y3, y4, y5, y6, y7, y8, y9, y10, y11, y12, y13, y14, y15, y16, y17, y18, y19, y20, y21, y22, y23, y24, y25, y26, y27, y28, y29, y30, y31, y32, y33, y34, y35, y36, y37, y38, y39, y40, y41, y42, y43, y44, y45, y46, y47, y48, y49, y50, y51] at hA
        clear y0 y1 y2 y3 y4 y5 y6 y7 y8 y9 y10 y11 y12 y13 y14 y15 y16 y17 y18 y19 y20 y21 y22 y23 y24 y25 y26 y27 y28 y29 y30 y31 y32 y33 y34 y35 y36 y37 y38 y39 y40 y41 y42 y43 y44 y45 y46 y47 y48 y49 y50 y51
        clear hn hd
        subst hA
        go_wp2_with fail
        go_ret
        rw [HN.out (fun h => absurd (HAT.out.1 h).1.1 (by omega))]
        exact ⟨rfl, HBV.out.trans (hC.mono HBV.out.size)⟩
      · by_cases g2 : 64 ≤ y.1
        · refine wp_region_typed (C := fun w' => Below V.heap.size V w') (X := fun w w' => Below w.heap.size w w') (n := 52) (by kernel_rfl) (by kernel_rfl) rfl (fun w => Below.refl _ w) (Below.refl _ _).drew ?_
          refine w_is (fun w => Below.refl _ w) _ (.inl rfl) (fun ρ w hC hc hfn hf => by have e4 : ρ (.tmp 4) = _ := hf 4 (by decide); (conv => lhs; simp [execOp, go_sem, hc, e4])) ?_
          refine w_is (fun w => Below.refl _ w) _ (.inl rfl) (fun ρ w hC hc hfn hf => by have e15 : ρ (.tmp 15) = _ := hf 15 (by decide); (conv => lhs; simp [execOp, go_sem, hc, e15, kc w hC])) ?_
          refine w_is (fun w => Below.refl _ w) _ (.inl rfl) (fun ρ w hC hc hfn hf => by have e16 : ρ (.tmp 16) = _ := hf 16 (by decide); (conv => lhs; simp [execOp, go_sem, hc, e16, g1])) ?_
          refine w_is (fun w => Below.refl _ w) _ (.inl rfl) (fun ρ w hC hc hfn hf => by have e17 : ρ (.tmp 17) = _ := hf 17 (by decide); (conv => lhs; simp [execOp, go_sem, hc, e17])) ?_
          refine w_is (fun w => Below.refl _ w) _ (.inr ⟨3, 18, false, rfl, rfl, known_is rfl⟩) (fun ρ w hC hc hfn hf => by have e4 : ρ (.tmp 4) = _ := hf 4 (by decide); (conv => lhs; simp [execOp, go_sem, hc, e4])) ?_
          refine w_is (fun w => Below.refl _ w) _ (.inr ⟨3, 18, false, rfl, rfl, known_is rfl⟩) (fun ρ w hC hc hfn hf => by have e19 : ρ (.tmp 19) = _ := hf 19 (by decide); (conv => lhs; simp [execOp, go_sem, hc, e19, kc w hC])) ?_
          refine w_is (fun w => Below.refl _ w) _ (.inr ⟨3, 18, false, rfl, rfl, known_is rfl⟩) (fun ρ w hC hc hfn hf => by have e20 : ρ (.tmp 20) = _ := hf 20 (by decide); (conv => lhs; simp [execOp, go_sem, hc, e20, g2])) ?_
          refine w_is (fun w => Below.refl _ w) _ (.inl rfl) (fun ρ w hC hc hfn hf => by have e18 : ρ (.tmp 18) = _ := hf 18 (by decide); have e21 : ρ (.tmp 21) = _ := hf 21 (by decide); (conv => lhs; simp [execOp, go_sem, hc, e18, e21])) ?_
          refine w_is (fun w => Below.refl _ w) _ (.inl rfl) (fun ρ w hC hc hfn hf => by have e22 : ρ (.tmp 22) = _ := hf 22 (by decide); (conv => lhs; simp [execOp, go_sem, hc, e22])) ?_
          refine w_skip rfl rfl (known_is rfl) ?_
          refine w_skip rfl rfl (known_is rfl) ?_
          refine w_skip rfl rfl (known_is rfl) ?_
          refine w_skipU rfl rfl (known_is rfl) ?_
          refine w_skipU rfl rfl (known_is rfl) ?_
          refine w_skipU rfl rfl (known_is rfl) ?_
          refine w_skipU rfl rfl (known_is rfl) ?_
          refine w_skipU rfl rfl (known_is rfl) ?_
          refine w_skipU rfl rfl (known_is rfl) ?_
          refine w_skipU rfl rfl (known_is rfl) ?_
          refine w_skipU rfl rfl (known_is rfl) ?_
          refine w_skipU rfl rfl (known_is rfl) ?_
          refine w_skip rfl rfl (known_is rfl) ?_
          refine w_is (fun w => Below.refl _ w) _ (.inl rfl) (fun ρ w hC hc hfn hf => by have e23 : ρ (.tmp 23) = _ := hf 23 (by decide); have e36 : ρ (.tmp 36) = _ := hf 36 (by decide); (conv => lhs; simp [execOp, go_sem, hc, e23, e36])) ?_
          refine w_is (fun w => Below.refl _ w) _ (.inl rfl) (fun ρ w hC hc hfn hf => by have e37 : ρ (.tmp 37) = _ := hf 37 (by decide); (conv => lhs; simp [execOp, go_sem, hc, e37])) ?_
          refine w_skip rfl rfl (known_is rfl) ?_
          refine w_skip rfl rfl (known_is rfl) ?_
          refine w_skip rfl rfl (known_is rfl) ?_
          refine w_skip rfl rfl (known_is rfl) ?_
          refine w_is (fun w => Below.refl _ w) _ (.inl rfl) (fun ρ w hC hc hfn hf => by have e38 : ρ (.tmp 38) = _ := hf 38 (by decide); have e42 : ρ (.tmp 42) = _ := hf 42 (by decide); (conv => lhs; simp [execOp, go_sem, hc, e38, e42])) ?_
          refine w_is (fun w => Below.refl _ w) _ (.inl rfl) (fun ρ w hC hc hfn hf => by have e43 : ρ (.tmp 43) = _ := hf 43 (by decide); (conv => lhs; simp [execOp, go_sem, hc, e43])) ?_
          refine w_skip rfl rfl (known_is rfl) ?_
          refine w_skip rfl rfl (known_is rfl) ?_
          refine w_skip rfl rfl (known_is rfl) ?_
          refine w_skip rfl rfl (known_is rfl) ?_
          refine w_skip rfl rfl (known_is rfl) ?_
          refine w_skip rfl rfl (known_is rfl) ?_
          refine w_is (fun w => Below.refl _ w) _ (.inl rfl) (fun ρ w hC hc hfn hf => by have e44 : ρ (.tmp 44) = _ := hf 44 (by decide); have e50 : ρ (.tmp 50) = _ := hf 50 (by decide); (conv => lhs; simp [execOp, go_sem, hc, e44, e50])) ?_
          intro A V5 hC hn hd hf
          have y0 : A.eval (.tmp 0) = _ := Eq.trans (hf 0) (by conv => lhs; simp [go_sem])
          have y1 : A.eval (.tmp 1) = _ := Eq.trans (hf 1) (by conv => lhs; simp [go_sem])
          have y2 : A.eval (.tmp 2) = _ := Eq.trans (hf 2) (by conv => lhs; simp [go_sem])
          have y3 : A.eval (.tmp 3) = _ := Eq.trans (hf 3) (by conv => lhs; simp [go_sem])
          have y4 : A.eval (.tmp 4) = _ := Eq.trans (hf 4) (by conv => lhs; simp [go_sem])
          have y5 : A.eval (.tmp 5) = _ := Eq.trans (hf 5) (by conv => lhs; simp [go_sem])
          have y6 : A.eval (.tmp 6) = _ := Eq.trans (hf 6) (by conv => lhs; simp [go_sem])
          have y7 : A.eval (.tmp 7) = _ := Eq.trans (hf 7) (by conv => lhs; simp [go_sem])
          have y8 : A.eval (.tmp 8) = _ := Eq.trans (hf 8) (by conv => lhs; simp [go_sem])
          have y9 : A.eval (.tmp 9) = _ := Eq.trans (hf 9) (by conv => lhs; simp [go_sem])
          have y10 : A.eval (.tmp 10) = _ := Eq.trans (hf 10) (by conv => lhs; simp [go_sem])
          have y11 : A.eval (.tmp 11) = _ := Eq.trans (hf 11) (by conv => lhs; simp [go_sem])
          have y12 : A.eval (.tmp 12) = _ := Eq.trans (hf 12) (by conv => lhs; simp [go_sem])
          have y13 : A.eval (.tmp 13) = _ := Eq.trans (hf 13) (by conv => lhs; simp [go_sem])
          have y14 : A.eval (.tmp 14) = _ := Eq.trans (hf 14) (by conv => lhs; simp [go_sem])
          have y15 : A.eval (.tmp 15) = _ := hf 15
          have y16 : A.eval (.tmp 16) = _ := hf 16
          have y17 : A.eval (.tmp 17) = _ := hf 17
          have y18 : A.eval (.tmp 18) = _ := hf 18
          have y19 : A.eval (.tmp 19) = _ := hf 19
          have y20 : A.eval (.tmp 20) = _ := hf 20
          have y21 : A.eval (.tmp 21) = _ := hf 21
          have y22 : A.eval (.tmp 22) = _ := hf 22
          have y23 : A.eval (.tmp 23) = _ := hf 23
          have y24 : A.eval (.tmp 24) = _ := hf 24
          have y25 : A.eval (.tmp 25) = _ := hf 25
          have y26 : A.eval (.tmp 26) = _ := hf 26
          have y27 : A.eval (.tmp 27) = _ := hf 27
          have y28 : A.eval (.tmp 28) = _ := hf 28
          have y29 : A.eval (.tmp 29) = _ := hf 29
          have y30 : A.eval (.tmp 30) = _ := hf 30
          have y31 : A.eval (.tmp 31) = _ := hf 31
          have y32 : A.eval (.tmp 32) = _ := hf 32
          have y33 : A.eval (.tmp 33) = _ := hf 33
          have y34 : A.eval (.tmp 34) = _ := hf 34
          have y35 : A.eval (.tmp 35) = _ := hf 35
          have y36 : A.eval (.tmp 36) = _ := hf 36
          have y37 : A.eval (.tmp 37) = _ := hf 37
          have y38 : A.eval (.tmp 38) = _ := hf 38
          have y39 : A.eval (.tmp 39) = _ := hf 39
          have y40 : A.eval (.tmp 40) = _ := hf 40
          have y41 : A.eval (.tmp 41) = _ := hf 41
          have y42 : A.eval (.tmp 42) = _ := hf 42
          have y43 : A.eval (.tmp 43) = _ := hf 43
          have y44 : A.eval (.tmp 44) = _ := hf 44
          have y45 : A.eval (.tmp 45) = _ := hf 45
          have y46 : A.eval (.tmp 46) = _ := hf 46
          have y47 : A.eval (.tmp 47) = _ := hf 47
          have y48 : A.eval (.tmp 48) = _ := hf 48
          have y49 : A.eval (.tmp 49) = _ := hf 49
          have y50 : A.eval (.tmp 50) = _ := hf 50
          have y51 : A.eval (.tmp 51) = _ := hf 51
          clear hf
          have hA := frame_eq hn
          rw [show List.range 52 = [0, 1, 2, 3, 4, 5, 6, 7, 8, 9, 10, 11, 12, 13, 14, 15, 16, 17, 18, 19, 20, 21, 22, 23, 24, 25, 26, 27, 28, 29, 30, 31, 32, 33, 34, 35, 36, 37, 38, 39, 40, 41, 42, 43, 44, 45, 46, 47, 48, 49, 50, 51] from rfl, hd] at hA
          simp only [List.map_cons, List.map_nil, y0, y1, y2, y3, y4, y5, y6, y7, y8, y9, y10, y11, y12, y13, y14, y15, y16, y17, y18, y19, y20, y21, y22, y23, y24, y25, y26, y27, y28, y29, y30, y31, y32, y33, y34, y35, y36, y37, y38, y39, y40, y41, y42, y43, y44, y45, y46, y47, y48, y49, y50, y51] at hA
          clear y0 y1 y2 y3 y4 y5 y6 y7 y8 y9 y10 y11 y12 y13 y14 y15 y16 y17 y18 y19 y20 y21 y22 y23 y24 y25 y26 y27 y28 y29 y30 y31 y32 y33 y34 y35 y36 y37 y38 y39 y40 y41 y42 y43 y44 y45 y46 y47 y48 y49 y50 y51
          clear hn hd
          subst hA
          go_wp2_with fail
          go_ret
          rw [HN.out (fun h => absurd (HAT.out.1 h).1.2 (by omega))]
          exact ⟨rfl, HBV.out.trans (hC.mono HBV.out.size)⟩
        · rcases Nat.eq_zero_or_pos k with h0 | h0
          · by_cases g4 : hOk y.2
            · have cE := fun W => rright_any y.2.1 y.2.2.1 y.2.2.2.1 y.2.2.2.2.1 y.2.2.2.2.2.1 y.2.2.2.2.2.2 W
              rw [decide_eq_true (show HtOk y.2.1 y.2.2.1 y.2.2.2.1 y.2.2.2.2.1 y.2.2.2.2.2.1 y.2.2.2.2.2.2 from g4)] at cE
              by_cases g5 : y.2.2.2.2.2.2 = y.1
              · have HG := Lib.hid (And.intro (show NodeOk y.1 from ⟨by omega, by omega⟩) (And.intro (show 0 < k → z < y.1 from (fun h => absurd h (by omega))) (And.intro g4 g5)))
                clear g4
                refine wp_region_typed (C := fun w' => Below V.heap.size V w') (X := fun w w' => Below w.heap.size w w') (n := 52) (by kernel_rfl) (by kernel_rfl) rfl (fun w => Below.refl _ w) (Below.refl _ _).drew ?_
                refine w_is (fun w => Below.refl _ w) _ (.inl rfl) (fun ρ w hC hc hfn hf => by have e4 : ρ (.tmp 4) = _ := hf 4 (by decide); (conv => lhs; simp [execOp, go_sem, hc, e4])) ?_
                refine w_is (fun w => Below.refl _ w) _ (.inl rfl) (fun ρ w hC hc hfn hf => by have e15 : ρ (.tmp 15) = _ := hf 15 (by decide); (conv => lhs; simp [execOp, go_sem, hc, e15, kc w hC])) ?_
                refine w_is (fun w => Below.refl _ w) _ (.inl rfl) (fun ρ w hC hc hfn hf => by have e16 : ρ (.tmp 16) = _ := hf 16 (by decide); (conv => lhs; simp [execOp, go_sem, hc, e16, g1])) ?_
                refine w_is (fun w => Below.refl _ w) _ (.inl rfl) (fun ρ w hC hc hfn hf => by have e17 : ρ (.tmp 17) = _ := hf 17 (by decide); (conv => lhs; simp [execOp, go_sem, hc, e17])) ?_
                refine w_is (fun w => Below.refl _ w) _ (.inr ⟨3, 18, false, rfl, rfl, known_is rfl⟩) (fun ρ w hC hc hfn hf => by have e4 : ρ (.tmp 4) = _ := hf 4 (by decide); (conv => lhs; simp [execOp, go_sem, hc, e4])) ?_
                refine w_is (fun w => Below.refl _ w) _ (.inr ⟨3, 18, false, rfl, rfl, known_is rfl⟩) (fun ρ w hC hc hfn hf => by have e19 : ρ (.tmp 19) = _ := hf 19 (by decide); (conv => lhs; simp [execOp, go_sem, hc, e19, kc w hC])) ?_
                refine w_is (fun w => Below.refl _ w) _ (.inr ⟨3, 18, false, rfl, rfl, known_is rfl⟩) (fun ρ w hC hc hfn hf => by have e20 : ρ (.tmp 20) = _ := hf 20 (by decide); (conv => lhs; simp [execOp, go_sem, hc, e20, g2])) ?_
                refine w_is (fun w => Below.refl _ w) _ (.inl rfl) (fun ρ w hC hc hfn hf => by have e18 : ρ (.tmp 18) = _ := hf 18 (by decide); have e21 : ρ (.tmp 21) = _ := hf 21 (by decide); (conv => lhs; simp [execOp, go_sem, hc, e18, e21])) ?_
                refine w_is (fun w => Below.refl _ w) _ (.inl rfl) (fun ρ w hC hc hfn hf => by have e22 : ρ (.tmp 22) = _ := hf 22 (by decide); (conv => lhs; simp [execOp, go_sem, hc, e22])) ?_
                refine w_is (fun w => Below.refl _ w) _ (.inr ⟨8, 23, false, rfl, rfl, known_is rfl⟩) (fun ρ w hC hc hfn hf => by have e3 : ρ (.tmp 3) = _ := hf 3 (by decide); (conv => lhs; simp [execOp, go_sem, hc, e3])) ?_
                refine w_is (fun w => Below.refl _ w) _ (.inr ⟨8, 23, false, rfl, rfl, known_is rfl⟩) (fun ρ w hC hc hfn hf => by have e24 : ρ (.tmp 24) = _ := hf 24 (by decide); (conv => lhs; simp [execOp, go_sem, hc, e24, h0])) ?_
                refine w_is (fun w => Below.refl _ w) _ (.inr ⟨8, 23, false, rfl, rfl, known_is rfl⟩) (fun ρ w hC hc hfn hf => by have e25 : ρ (.tmp 25) = _ := hf 25 (by decide); (conv => lhs; simp [execOp, go_sem, hc, e25])) ?_
                refine w_skip rfl rfl (known_is rfl) ?_
                refine w_skip rfl rfl (known_is rfl) ?_
                refine w_skip rfl rfl (known_is rfl) ?_
                refine w_skip rfl rfl (known_is rfl) ?_
                refine w_skip rfl rfl (known_is rfl) ?_
                refine w_skip rfl rfl (known_is rfl) ?_
                refine w_skip rfl rfl (known_is rfl) ?_
                refine w_skip rfl rfl (known_is rfl) ?_
                refine w_skip rfl rfl (known_is rfl) ?_
                refine w_is (fun w => Below.refl _ w) _ (.inr ⟨8, 23, false, rfl, rfl, known_is rfl⟩) (fun ρ w hC hc hfn hf => by have e26 : ρ (.tmp 26) = _ := hf 26 (by decide); have e35 : ρ (.tmp 35) = _ := hf 35 (by decide); (conv => lhs; simp [execOp, go_sem, hc, e26, e35])) ?_
                refine w_is (fun w => Below.refl _ w) _ (.inl rfl) (fun ρ w hC hc hfn hf => by have e23 : ρ (.tmp 23) = _ := hf 23 (by decide); have e36 : ρ (.tmp 36) = _ := hf 36 (by decide); (conv => lhs; simp [execOp, go_sem, hc, e23, e36])) ?_
                refine w_is (fun w => Below.refl _ w) _ (.inl rfl) (fun ρ w hC hc hfn hf => by have e37 : ρ (.tmp 37) = _ := hf 37 (by decide); (conv => lhs; simp [execOp, go_sem, hc, e37])) ?_
                refine w_is (fun w => Below.refl _ w) _ (.inr ⟨23, 38, false, rfl, rfl, known_is rfl⟩) (fun ρ w hC hc hfn hf => by have e4 : ρ (.tmp 4) = _ := hf 4 (by decide); (conv => lhs; simp [execOp, go_sem, hc, e4])) ?_
                refine w_is (fun w => Below.refl _ w) _ (.inr ⟨23, 38, false, rfl, rfl, known_is rfl⟩) (fun ρ w hC hc hfn hf => by have e39 : ρ (.tmp 39) = _ := hf 39 (by decide); (conv => lhs; simp [execOp, go_sem, hc, e39, kc w hC])) ?_
                refine w_call (Is _) (fun _ _ _ h _ => h) 36 (.inr ⟨23, 38, false, rfl, rfl, known_is rfl⟩) (fun ρ w hC hc hfn hf => by have e40 : ρ (.tmp 40) = _ := hf 40 (by decide); exact ⟨_, by (conv => lhs; simp [execOp, resolve, invoke, go_sem, hc, hfn, e40]), tc_below hC (cE w)⟩) ?_
                refine w_is (fun w => Below.refl _ w) _ (.inr ⟨23, 38, false, rfl, rfl, known_is rfl⟩) (fun ρ w hC hc hfn hf => by have e41 : ρ (.tmp 41) = _ := hf 41 (by decide); (conv => lhs; simp [execOp, go_sem, hc, e41])) ?_
                refine w_is (fun w => Below.refl _ w) _ (.inl rfl) (fun ρ w hC hc hfn hf => by have e38 : ρ (.tmp 38) = _ := hf 38 (by decide); have e42 : ρ (.tmp 42) = _ := hf 42 (by decide); (conv => lhs; simp [execOp, go_sem, hc, e38, e42])) ?_
                refine w_is (fun w => Below.refl _ w) _ (.inl rfl) (fun ρ w hC hc hfn hf => by have e43 : ρ (.tmp 43) = _ := hf 43 (by decide); (conv => lhs; simp [execOp, go_sem, hc, e43])) ?_
                refine w_is (fun w => Below.refl _ w) _ (.inr ⟨29, 44, false, rfl, rfl, known_is rfl⟩) (fun ρ w hC hc hfn hf => by have e4 : ρ (.tmp 4) = _ := hf 4 (by decide); (conv => lhs; simp [execOp, go_sem, hc, e4])) ?_
                refine w_is (fun w => Below.refl _ w) _ (.inr ⟨29, 44, false, rfl, rfl, known_is rfl⟩) (fun ρ w hC hc hfn hf => by have e45 : ρ (.tmp 45) = _ := hf 45 (by decide); (conv => lhs; simp [execOp, go_sem, hc, e45])) ?_
                refine w_is (fun w => Below.refl _ w) _ (.inr ⟨29, 44, false, rfl, rfl, known_is rfl⟩) (fun ρ w hC hc hfn hf => by have e46 : ρ (.tmp 46) = _ := hf 46 (by decide); (conv => lhs; simp [execOp, go_sem, hc, e46, kc w hC])) ?_
                refine w_is (fun w => Below.refl _ w) _ (.inr ⟨29, 44, false, rfl, rfl, known_is rfl⟩) (fun ρ w hC hc hfn hf => by have e4 : ρ (.tmp 4) = _ := hf 4 (by decide); (conv => lhs; simp [execOp, go_sem, hc, e4])) ?_
                refine w_is (fun w => Below.refl _ w) _ (.inr ⟨29, 44, false, rfl, rfl, known_is rfl⟩) (fun ρ w hC hc hfn hf => by have e48 : ρ (.tmp 48) = _ := hf 48 (by decide); (conv => lhs; simp [execOp, go_sem, hc, e48, kc w hC])) ?_
                refine w_is (fun w => Below.refl _ w) _ (.inr ⟨29, 44, false, rfl, rfl, known_is rfl⟩) (fun ρ w hC hc hfn hf => by have e47 : ρ (.tmp 47) = _ := hf 47 (by decide); have e49 : ρ (.tmp 49) = _ := hf 49 (by decide); (conv => lhs; simp [execOp, go_sem, hc, e47, e49, g5])) ?_
                refine w_is (fun w => Below.refl _ w) _ (.inl rfl) (fun ρ w hC hc hfn hf => by have e44 : ρ (.tmp 44) = _ := hf 44 (by decide); have e50 : ρ (.tmp 50) = _ := hf 50 (by decide); (conv => lhs; simp [execOp, go_sem, hc, e44, e50])) ?_
                intro A V5 hC hn hd hf
                have y0 : A.eval (.tmp 0) = _ := Eq.trans (hf 0) (by conv => lhs; simp [go_sem])
                have y1 : A.eval (.tmp 1) = _ := Eq.trans (hf 1) (by conv => lhs; simp [go_sem])
                have y2 : A.eval (.tmp 2) = _ := Eq.trans (hf 2) (by conv => lhs; simp [go_sem])
                have y3 : A.eval (.tmp 3) = _ := Eq.trans (hf 3) (by conv => lhs; simp [go_sem])
                have y4 : A.eval (.tmp 4) = _ := Eq.trans (hf 4) (by conv => lhs; simp [go_sem])
                have y5 : A.eval (.tmp 5) = _ := Eq.trans (hf 5) (by conv => lhs; simp [go_sem])
                have y6 : A.eval (.tmp 6) = _ := Eq.trans (hf 6) (by conv => lhs; simp [go_sem])
                have y7 : A.eval (.tmp 7) = _ := Eq.trans (hf 7) (by conv => lhs; simp [go_sem])
                have y8 : A.eval (.tmp 8) = _ := Eq.trans (hf 8) (by conv => lhs; simp [go_sem])
                have y9 : A.eval (.tmp 9) = _ := Eq.trans (hf 9) (by conv => lhs; simp [go_sem])
                have y10 : A.eval (.tmp 10) = _ := Eq.trans (hf 10) (by conv => lhs; simp [go_sem])
                have y11 : A.eval (.tmp 11) = _ := Eq.trans (hf 11) (by conv => lhs; simp [go_sem])
                have y12 : A.eval (.tmp 12) = _ := Eq.trans (hf 12) (by conv => lhs; simp [go_sem])
                have y13 : A.eval (.tmp 13) = _ := Eq.trans (hf 13) (by conv => lhs; simp [go_sem])
                have y14 : A.eval (.tmp 14) = _ := Eq.trans (hf 14) (by conv => lhs; simp [go_sem])
                have y15 : A.eval (.tmp 15) = _ := hf 15
                have y16 : A.eval (.tmp 16) = _ := hf 16
                have y17 : A.eval (.tmp 17) = _ := hf 17
                have y18 : A.eval (.tmp 18) = _ := hf 18
                have y19 : A.eval (.tmp 19) = _ := hf 19
                have y20 : A.eval (.tmp 20) = _ := hf 20
                have y21 : A.eval (.tmp 21) = _ := hf 21
                have y22 : A.eval (.tmp 22) = _ := hf 22
                have y23 : A.eval (.tmp 23) = _ := hf 23
                have y24 : A.eval (.tmp 24) = _ := hf 24
                have y25 : A.eval (.tmp 25) = _ := hf 25
                have y26 : A.eval (.tmp 26) = _ := hf 26
                have y27 : A.eval (.tmp 27) = _ := hf 27
                have y28 : A.eval (.tmp 28) = _ := hf 28
                have y29 : A.eval (.tmp 29) = _ := hf 29
                have y30 : A.eval (.tmp 30) = _ := hf 30
                have y31 : A.eval (.tmp 31) = _ := hf 31
                have y32 : A.eval (.tmp 32) = _ := hf 32
                have y33 : A.eval (.tmp 33) = _ := hf 33
                have y34 : A.eval (.tmp 34) = _ := hf 34
                have y35 : A.eval (.tmp 35) = _ := hf 35
                have y36 : A.eval (.tmp 36) = _ := hf 36
                have y37 : A.eval (.tmp 37) = _ := hf 37
                have y38 : A.eval (.tmp 38) = _ := hf 38
                have y39 : A.eval (.tmp 39) = _ := hf 39
                have y40 : A.eval (.tmp 40) = _ := hf 40
                have y41 : A.eval (.tmp 41) = _ := hf 41
                have y42 : A.eval (.tmp 42) = _ := hf 42
                have y43 : A.eval (.tmp 43) = _ := hf 43
                have y44 : A.eval (.tmp 44) = _ := hf 44
                have y45 : A.eval (.tmp 45) = _ := hf 45
                have y46 : A.eval (.tmp 46) = _ := hf 46
                have y47 : A.eval (.tmp 47) = _ := hf 47
                have y48 : A.eval (.tmp 48) = _ := hf 48
                have y49 : A.eval (.tmp 49) = _ := hf 49
                have y50 : A.eval (.tmp 50) = _ := hf 50
                have y51 : A.eval (.tmp 51) = _ := hf 51
                clear hf
                have hA := frame_eq hn
                rw [show List.range 52 = [0, 1, 2, 3, 4, 5, 6, 7, 8, 9, 10, 11, 12, 13, 14, 15, 16, 17, 18, 19, 20, 21, 22, 23, 24, 25, 26, 27, 28, 29, 30, 31, 32, 33, 34, 35, 36, 37, 38, 39, 40, 41, 42, 43, 44, 45, 46, 47, 48, 49, 50, 51] from rfl, hd] at hA
                simp only [List.map_cons, List.map_nil, y0, y1, y2, y3, y4, y5, y6, y7, y8, y9, y10, y11, y12, y13, y14, y15, y16, y17, y18, y19, y20, y21, y22, y23, y24, y25, y26, y27, y28, y29, y30, y31, y32, y33, y34, y35, y36, y37, y38, y39, y40, y41, y42, y43, y44, y45, y46, y47, y48, y49, y50, y51] at hA
                clear y0 y1 y2 y3 y4 y5 y6 y7 y8 y9 y10 y11 y12 y13 y14 y15 y16 y17 y18 y19 y20 y21 y22 y23 y24 y25 y26 y27 y28 y29 y30 y31 y32 y33 y34 y35 y36 y37 y38 y39 y40 y41 y42 y43 y44 y45 y46 y47 y48 y49 y50 y51
                clear hn hd
                subst hA
                go_wp2_with fail
                go_roundw
                case rel =>
                  refine ⟨k + 1, by omega, by go_num, fun i hi => ?_, HBV.out.trans (hC.mono HBV.out.size)⟩
                  by_cases h : i < k
                  · exact HO.out i h
                  · obtain rfl : i = k := by omega
                    exact HAT.out.2 HG.out
                case measure => simp [intOf]; omega
              · have HG := Lib.hid g5
                clear g4
                refine wp_region_typed (C := fun w' => Below V.heap.size V w') (X := fun w w' => Below w.heap.size w w') (n := 52) (by kernel_rfl) (by kernel_rfl) rfl (fun w => Below.refl _ w) (Below.refl _ _).drew ?_
                refine w_is (fun w => Below.refl _ w) _ (.inl rfl) (fun ρ w hC hc hfn hf => by have e4 : ρ (.tmp 4) = _ := hf 4 (by decide); (conv => lhs; simp [execOp, go_sem, hc, e4])) ?_
                refine w_is (fun w => Below.refl _ w) _ (.inl rfl) (fun ρ w hC hc hfn hf => by have e15 : ρ (.tmp 15) = _ := hf 15 (by decide); (conv => lhs; simp [execOp, go_sem, hc, e15, kc w hC])) ?_
                refine w_is (fun w => Below.refl _ w) _ (.inl rfl) (fun ρ w hC hc hfn hf => by have e16 : ρ (.tmp 16) = _ := hf 16 (by decide); (conv => lhs; simp [execOp, go_sem, hc, e16, g1])) ?_
                refine w_is (fun w => Below.refl _ w) _ (.inl rfl) (fun ρ w hC hc hfn hf => by have e17 : ρ (.tmp 17) = _ := hf 17 (by decide); (conv => lhs; simp [execOp, go_sem, hc, e17])) ?_
                refine w_is (fun w => Below.refl _ w) _ (.inr ⟨3, 18, false, rfl, rfl, known_is rfl⟩) (fun ρ w hC hc hfn hf => by have e4 : ρ (.tmp 4) = _ := hf 4 (by decide); (conv => lhs; simp [execOp, go_sem, hc, e4])) ?_
                refine w_is (fun w => Below.refl _ w) _ (.inr ⟨3, 18, false, rfl, rfl, known_is rfl⟩) (fun ρ w hC hc hfn hf => by have e19 : ρ (.tmp 19) = _ := hf 19 (by decide); (conv => lhs; simp [execOp, go_sem, hc, e19, kc w hC])) ?_
                refine w_is (fun w => Below.refl _ w) _ (.inr ⟨3, 18, false, rfl, rfl, known_is rfl⟩) (fun ρ w hC hc hfn hf => by have e20 : ρ (.tmp 20) = _ := hf 20 (by decide); (conv => lhs; simp [execOp, go_sem, hc, e20, g2])) ?_
                refine w_is (fun w => Below.refl _ w) _ (.inl rfl) (fun ρ w hC hc hfn hf => by have e18 : ρ (.tmp 18) = _ := hf 18 (by decide); have e21 : ρ (.tmp 21) = _ := hf 21 (by decide); (conv => lhs; simp [execOp, go_sem, hc, e18, e21])) ?_
                refine w_is (fun w => Below.refl _ w) _ (.inl rfl) (fun ρ w hC hc hfn hf => by have e22 : ρ (.tmp 22) = _ := hf 22 (by decide); (conv => lhs; simp [execOp, go_sem, hc, e22])) ?_
                refine w_is (fun w => Below.refl _ w) _ (.inr ⟨8, 23, false, rfl, rfl, known_is rfl⟩) (fun ρ w hC hc hfn hf => by have e3 : ρ (.tmp 3) = _ := hf 3 (by decide); (conv => lhs; simp [execOp, go_sem, hc, e3])) ?_
                refine w_is (fun w => Below.refl _ w) _ (.inr ⟨8, 23, false, rfl, rfl, known_is rfl⟩) (fun ρ w hC hc hfn hf => by have e24 : ρ (.tmp 24) = _ := hf 24 (by decide); (conv => lhs; simp [execOp, go_sem, hc, e24, h0])) ?_
                refine w_is (fun w => Below.refl _ w) _ (.inr ⟨8, 23, false, rfl, rfl, known_is rfl⟩) (fun ρ w hC hc hfn hf => by have e25 : ρ (.tmp 25) = _ := hf 25 (by decide); (conv => lhs; simp [execOp, go_sem, hc, e25])) ?_
                refine w_skip rfl rfl (known_is rfl) ?_
                refine w_skip rfl rfl (known_is rfl) ?_
                refine w_skip rfl rfl (known_is rfl) ?_
                refine w_skip rfl rfl (known_is rfl) ?_
                refine w_skip rfl rfl (known_is rfl) ?_
                refine w_skip rfl rfl (known_is rfl) ?_
                refine w_skip rfl rfl (known_is rfl) ?_
                refine w_skip rfl rfl (known_is rfl) ?_
                refine w_skip rfl rfl (known_is rfl) ?_
                refine w_is (fun w => Below.refl _ w) _ (.inr ⟨8, 23, false, rfl, rfl, known_is rfl⟩) (fun ρ w hC hc hfn hf => by have e26 : ρ (.tmp 26) = _ := hf 26 (by decide); have e35 : ρ (.tmp 35) = _ := hf 35 (by decide); (conv => lhs; simp [execOp, go_sem, hc, e26, e35])) ?_
                refine w_is (fun w => Below.refl _ w) _ (.inl rfl) (fun ρ w hC hc hfn hf => by have e23 : ρ (.tmp 23) = _ := hf 23 (by decide); have e36 : ρ (.tmp 36) = _ := hf 36 (by decide); (conv => lhs; simp [execOp, go_sem, hc, e23, e36])) ?_
                refine w_is (fun w => Below.refl _ w) _ (.inl rfl) (fun ρ w hC hc hfn hf => by have e37 : ρ (.tmp 37) = _ := hf 37 (by decide); (conv => lhs; simp [execOp, go_sem, hc, e37])) ?_
                refine w_is (fun w => Below.refl _ w) _ (.inr ⟨23, 38, false, rfl, rfl, known_is rfl⟩) (fun ρ w hC hc hfn hf => by have e4 : ρ (.tmp 4) = _ := hf 4 (by decide); (conv => lhs; simp [execOp, go_sem, hc, e4])) ?_
                refine w_is (fun w => Below.refl _ w) _ (.inr ⟨23, 38, false, rfl, rfl, known_is rfl⟩) (fun ρ w hC hc hfn hf => by have e39 : ρ (.tmp 39) = _ := hf 39 (by decide); (conv => lhs; simp [execOp, go_sem, hc, e39, kc w hC])) ?_
                refine w_call (Is _) (fun _ _ _ h _ => h) 36 (.inr ⟨23, 38, false, rfl, rfl, known_is rfl⟩) (fun ρ w hC hc hfn hf => by have e40 : ρ (.tmp 40) = _ := hf 40 (by decide); exact ⟨_, by (conv => lhs; simp [execOp, resolve, invoke, go_sem, hc, hfn, e40]), tc_below hC (cE w)⟩) ?_
                refine w_is (fun w => Below.refl _ w) _ (.inr ⟨23, 38, false, rfl, rfl, known_is rfl⟩) (fun ρ w hC hc hfn hf => by have e41 : ρ (.tmp 41) = _ := hf 41 (by decide); (conv => lhs; simp [execOp, go_sem, hc, e41])) ?_
                refine w_is (fun w => Below.refl _ w) _ (.inl rfl) (fun ρ w hC hc hfn hf => by have e38 : ρ (.tmp 38) = _ := hf 38 (by decide); have e42 : ρ (.tmp 42) = _ := hf 42 (by decide); (conv => lhs; simp [execOp, go_sem, hc, e38, e42])) ?_
                refine w_is (fun w => Below.refl _ w) _ (.inl rfl) (fun ρ w hC hc hfn hf => by have e43 : ρ (.tmp 43) = _ := hf 43 (by decide); (conv => lhs; simp [execOp, go_sem, hc, e43])) ?_
                refine w_is (fun w => Below.refl _ w) _ (.inr ⟨29, 44, false, rfl, rfl, known_is rfl⟩) (fun ρ w hC hc hfn hf => by have e4 : ρ (.tmp 4) = _ := hf 4 (by decide); (conv => lhs; simp [execOp, go_sem, hc, e4])) ?_
                refine w_is (fun w => Below.refl _ w) _ (.inr ⟨29, 44, false, rfl, rfl, known_is rfl⟩) (fun ρ w hC hc hfn hf => by have e45 : ρ (.tmp 45) = _ := hf 45 (by decide); (conv => lhs; simp [execOp, go_sem, hc, e45])) ?_
                refine w_is (fun w => Below.refl _ w) _ (.inr ⟨29, 44, false, rfl, rfl, known_is rfl⟩) (fun ρ w hC hc hfn hf => by have e46 : ρ (.tmp 46) = _ := hf 46 (by decide); (conv => lhs; simp [execOp, go_sem, hc, e46, kc w hC])) ?_
                refine w_is (fun w => Below.refl _ w) _ (.inr ⟨29, 44, false, rfl, rfl, known_is rfl⟩) (fun ρ w hC hc hfn hf => by have e4 : ρ (.tmp 4) = _ := hf 4 (by decide); (conv => lhs; simp [execOp, go_sem, hc, e4])) ?_
                refine w_is (fun w => Below.refl _ w) _ (.inr ⟨29, 44, false, rfl, rfl, known_is rfl⟩) (fun ρ w hC hc hfn hf => by have e48 : ρ (.tmp 48) = _ := hf 48 (by decide); (conv => lhs; simp [execOp, go_sem, hc, e48, kc w hC])) ?_
                refine w_is (fun w => Below.refl _ w) _ (.inr ⟨29, 44, false, rfl, rfl, known_is rfl⟩) (fun ρ w hC hc hfn hf => by have e47 : ρ (.tmp 47) = _ := hf 47 (by decide); have e49 : ρ (.tmp 49) = _ := hf 49 (by decide); (conv => lhs; simp [execOp, go_sem, hc, e47, e49, g5])) ?_
                refine w_is (fun w => Below.refl _ w) _ (.inl rfl) (fun ρ w hC hc hfn hf => by have e44 : ρ (.tmp 44) = _ := hf 44 (by decide); have e50 : ρ (.tmp 50) = _ := hf 50 (by decide); (conv => lhs; simp [execOp, go_sem, hc, e44, e50])) ?_
                intro A V5 hC hn hd hf
                have y0 : A.eval (.tmp 0) = _ := Eq.trans (hf 0) (by conv => lhs; simp [go_sem])
                have y1 : A.eval (.tmp 1) = _ := Eq.trans (hf 1) (by conv => lhs; simp [go_sem])
                have y2 : A.eval (.tmp 2) = _ := Eq.trans (hf 2) (by conv => lhs; simp [go_sem])
                have y3 : A.eval (.tmp 3) = _ := Eq.trans (hf 3) (by conv => lhs; simp [go_sem])
                have y4 : A.eval (.tmp 4) = _ := Eq.trans (hf 4) (by conv => lhs; simp [go_sem])
                have y5 : A.eval (.tmp 5) = _ := Eq.trans (hf 5) (by conv => lhs; simp [go_sem])
                have y6 : A.eval (.tmp 6) = _ := Eq.trans (hf 6) (by conv => lhs; simp [go_sem])
                have y7 : A.eval (.tmp 7) = _ := Eq.trans (hf 7) (by conv => lhs; simp [go_sem])
                have y8 : A.eval (.tmp 8) = _ := Eq.trans (hf 8) (by conv => lhs; simp [go_sem])
                have y9 : A.eval (.tmp 9) = _ := Eq.trans (hf 9) (by conv => lhs; simp [go_sem])
                have y10 : A.eval (.tmp 10) = _ := Eq.trans (hf 10) (by conv => lhs; simp [go_sem])
                have y11 : A.eval (.tmp 11) = _ := Eq.trans (hf 11) (by conv => lhs; simp [go_sem])
                have y12 : A.eval (.tmp 12) = _ := Eq.trans (hf 12) (by conv => lhs; simp [go_sem])
                have y13 : A.eval (.tmp 13) = _ := Eq.trans (hf 13) (by conv => lhs; simp [go_sem])
                have y14 : A.eval (.tmp 14) = _ := Eq.trans (hf 14) (by conv => lhs; simp [go_sem])
                have y15 : A.eval (.tmp 15) = _ := hf 15
                have y16 : A.eval (.tmp 16) = _ := hf 16
                have y17 : A.eval (.tmp 17) = _ := hf 17
                have y18 : A.eval (.tmp 18) = _ := hf 18
                have y19 : A.eval (.tmp 19) = _ := hf 19
                have y20 : A.eval (.tmp 20) = _ := hf 20
                have y21 : A.eval (.tmp 21) = _ := hf 21
                have y22 : A.eval (.tmp 22) = _ := hf 22
                have y23 : A.eval (.tmp 23) = _ := hf 23
                have y24 : A.eval (.tmp 24) = _ := hf 24
                have y25 : A.eval (.tmp 25) = _ := hf 25
                have y26 : A.eval (.tmp 26) = _ := hf 26
                have y27 : A.eval (.tmp 27) = _ := hf 27
                have y28 : A.eval (.tmp 28) = _ := hf 28
                have y29 : A.eval (.tmp 29) = _ := hf 29
                have y30 : A.eval (.tmp 30) = _ := hf 30
                have y31 : A.eval (.tmp 31) = _ := hf 31
                have y32 : A.eval (.tmp 32) = _ := hf 32
                have y33 : A.eval (.tmp 33) = _ := hf 33
                have y34 : A.eval (.tmp 34) = _ := hf 34
                have y35 : A.eval (.tmp 35) = _ := hf 35
                have y36 : A.eval (.tmp 36) = _ := hf 36
                have y37 : A.eval (.tmp 37) = _ := hf 37
                have y38 : A.eval (.tmp 38) = _ := hf 38
                have y39 : A.eval (.tmp 39) = _ := hf 39
                have y40 : A.eval (.tmp 40) = _ := hf 40
                have y41 : A.eval (.tmp 41) = _ := hf 41
                have y42 : A.eval (.tmp 42) = _ := hf 42
                have y43 : A.eval (.tmp 43) = _ := hf 43
                have y44 : A.eval (.tmp 44) = _ := hf 44
                have y45 : A.eval (.tmp 45) = _ := hf 45
                have y46 : A.eval (.tmp 46) = _ := hf 46
                have y47 : A.eval (.tmp 47) = _ := hf 47
                have y48 : A.eval (.tmp 48) = _ := hf 48
                have y49 : A.eval (.tmp 49) = _ := hf 49
                have y50 : A.eval (.tmp 50) = _ := hf 50
                have y51 : A.eval (.tmp 51) = _ := hf 51
                clear hf
                have hA := frame_eq hn
                rw [show List.range 52 = [0, 1, 2, 3, 4, 5, 6, 7, 8, 9, 10, 11, 12, 13, 14, 15, 16, 17, 18, 19, 20, 21, 22, 23, 24, 25, 26, 27, 28, 29, 30, 31, 32, 33, 34, 35, 36, 37, 38, 39, 40, 41, 42, 43, 44, 45, 46, 47, 48, 49, 50, 51] from rfl, hd] at hA
                simp only [List.map_cons, List.map_nil, y0, y1, y2, y3, y4, y5, y6, y7, y8, y9, y10, y11, y12, y13, y14, y15, y16, y17, y18, y19, y20, y21, y22, y23, y24, y25, y26, y27, y28, y29, y30, y31, y32, y33, y34, y35, y36, y37, y38, y39, y40, y41, y42, y43, y44, y45, y46, y47, y48, y49, y50, y51] at hA
                clear y0 y1 y2 y3 y4 y5 y6 y7 y8 y9 y10 y11 y12 y13 y14 y15 y16 y17 y18 y19 y20 y21 y22 y23 y24 y25 y26 y27 y28 y29 y30 y31 y32 y33 y34 y35 y36 y37 y38 y39 y40 y41 y42 y43 y44 y45 y46 y47 y48 y49 y50 y51
                clear hn hd
                subst hA
                go_wp2_with fail
                go_ret
                rw [HN.out (fun h => HG.out (HAT.out.1 h).2.2.2)]
                exact ⟨rfl, HBV.out.trans (hC.mono HBV.out.size)⟩
            · have cE := fun W => rright_any y.2.1 y.2.2.1 y.2.2.2.1 y.2.2.2.2.1 y.2.2.2.2.2.1 y.2.2.2.2.2.2 W
              rw [decide_eq_false (show ¬ HtOk y.2.1 y.2.2.1 y.2.2.2.1 y.2.2.2.2.1 y.2.2.2.2.2.1 y.2.2.2.2.2.2 from g4)] at cE
              have HG := Lib.hid g4
              clear g4
              refine wp_region_typed (C := fun w' => Below V.heap.size V w') (X := fun w w' => Below w.heap.size w w') (n := 52) (by kernel_rfl) (by kernel_rfl) rfl (fun w => Below.refl _ w) (Below.refl _ _).drew ?_
              refine w_is (fun w => Below.refl _ w) _ (.inl rfl) (fun ρ w hC hc hfn hf => by have e4 : ρ (.tmp 4) = _ := hf 4 (by decide); (conv => lhs; simp [execOp, go_sem, hc, e4])) ?_
              refine w_is (fun w => Below.refl _ w) _ (.inl rfl) (fun ρ w hC hc hfn hf => by have e15 : ρ (.tmp 15) = _ := hf 15 (by decide); (conv => lhs; simp [execOp, go_sem, hc, e15, kc w hC])) ?_
              refine w_is (fun w => Below.refl _ w) _ (.inl rfl) (fun ρ w hC hc hfn hf => by have e16 : ρ (.tmp 16) = _ := hf 16 (by decide); (conv => lhs; simp [execOp, go_sem, hc, e16, g1])) ?_
              refine w_is (fun w => Below.refl _ w) _ (.inl rfl) (fun ρ w hC hc hfn hf => by have e17 : ρ (.tmp 17) = _ := hf 17 (by decide); (conv => lhs; simp [execOp, go_sem, hc, e17])) ?_
              refine w_is (fun w => Below.refl _ w) _ (.inr ⟨3, 18, false, rfl, rfl, known_is rfl⟩) (fun ρ w hC hc hfn hf => by have e4 : ρ (.tmp 4) = _ := hf 4 (by decide); (conv => lhs; simp [execOp, go_sem, hc, e4])) ?_
              refine w_is (fun w => Below.refl _ w) _ (.inr ⟨3, 18, false, rfl, rfl, known_is rfl⟩) (fun ρ w hC hc hfn hf => by have e19 : ρ (.tmp 19) = _ := hf 19 (by decide); (conv => lhs; simp [execOp, go_sem, hc, e19, kc w hC])) ?_
              refine w_is (fun w => Below.refl _ w) _ (.inr ⟨3, 18, false, rfl, rfl, known_is rfl⟩) (fun ρ w hC hc hfn hf => by have e20 : ρ (.tmp 20) = _ := hf 20 (by decide); (conv => lhs; simp [execOp, go_sem, hc, e20, g2])) ?_
              refine w_is (fun w => Below.refl _ w) _ (.inl rfl) (fun ρ w hC hc hfn hf => by have e18 : ρ (.tmp 18) = _ := hf 18 (by decide); have e21 : ρ (.tmp 21) = _ := hf 21 (by decide); (conv => lhs; simp [execOp, go_sem, hc, e18, e21])) ?_
              refine w_is (fun w => Below.refl _ w) _ (.inl rfl) (fun ρ w hC hc hfn hf => by have e22 : ρ (.tmp 22) = _ := hf 22 (by decide); (conv => lhs; simp [execOp, go_sem, hc, e22])) ?_
              refine w_is (fun w => Below.refl _ w) _ (.inr ⟨8, 23, false, rfl, rfl, known_is rfl⟩) (fun ρ w hC hc hfn hf => by have e3 : ρ (.tmp 3) = _ := hf 3 (by decide); (conv => lhs; simp [execOp, go_sem, hc, e3])) ?_
              refine w_is (fun w => Below.refl _ w) _ (.inr ⟨8, 23, false, rfl, rfl, known_is rfl⟩) (fun ρ w hC hc hfn hf => by have e24 : ρ (.tmp 24) = _ := hf 24 (by decide); (conv => lhs; simp [execOp, go_sem, hc, e24, h0])) ?_
              refine w_is (fun w => Below.refl _ w) _ (.inr ⟨8, 23, false, rfl, rfl, known_is rfl⟩) (fun ρ w hC hc hfn hf => by have e25 : ρ (.tmp 25) = _ := hf 25 (by decide); (conv => lhs; simp [execOp, go_sem, hc, e25])) ?_
              refine w_skip rfl rfl (known_is rfl) ?_
              refine w_skip rfl rfl (known_is rfl) ?_
              refine w_skip rfl rfl (known_is rfl) ?_
              refine w_skip rfl rfl (known_is rfl) ?_
              refine w_skip rfl rfl (known_is rfl) ?_
              refine w_skip rfl rfl (known_is rfl) ?_
              refine w_skip rfl rfl (known_is rfl) ?_
              refine w_skip rfl rfl (known_is rfl) ?_
              refine w_skip rfl rfl (known_is rfl) ?_
              refine w_is (fun w => Below.refl _ w) _ (.inr ⟨8, 23, false, rfl, rfl, known_is rfl⟩) (fun ρ w hC hc hfn hf => by have e26 : ρ (.tmp 26) = _ := hf 26 (by decide); have e35 : ρ (.tmp 35) = _ := hf 35 (by decide); (conv => lhs; simp [execOp, go_sem, hc, e26, e35])) ?_
              refine w_is (fun w => Below.refl _ w) _ (.inl rfl) (fun ρ w hC hc hfn hf => by have e23 : ρ (.tmp 23) = _ := hf 23 (by decide); have e36 : ρ (.tmp 36) = _ := hf 36 (by decide); (conv => lhs; simp [execOp, go_sem, hc, e23, e36])) ?_
              refine w_is (fun w => Below.refl _ w) _ (.inl rfl) (fun ρ w hC hc hfn hf => by have e37 : ρ (.tmp 37) = _ := hf 37 (by decide); (conv => lhs; simp [execOp, go_sem, hc, e37])) ?_
              refine w_is (fun w => Below.refl _ w) _ (.inr ⟨23, 38, false, rfl, rfl, known_is rfl⟩) (fun ρ w hC hc hfn hf => by have e4 : ρ (.tmp 4) = _ := hf 4 (by decide); (conv => lhs; simp [execOp, go_sem, hc, e4])) ?_
              refine w_is (fun w => Below.refl _ w) _ (.inr ⟨23, 38, false, rfl, rfl, known_is rfl⟩) (fun ρ w hC hc hfn hf => by have e39 : ρ (.tmp 39) = _ := hf 39 (by decide); (conv => lhs; simp [execOp, go_sem, hc, e39, kc w hC])) ?_
              refine w_call (Is _) (fun _ _ _ h _ => h) 36 (.inr ⟨23, 38, false, rfl, rfl, known_is rfl⟩) (fun ρ w hC hc hfn hf => by have e40 : ρ (.tmp 40) = _ := hf 40 (by decide); exact ⟨_, by (conv => lhs; simp [execOp, resolve, invoke, go_sem, hc, hfn, e40]), tc_below hC (cE w)⟩) ?_
              refine w_is (fun w => Below.refl _ w) _ (.inr ⟨23, 38, false, rfl, rfl, known_is rfl⟩) (fun ρ w hC hc hfn hf => by have e41 : ρ (.tmp 41) = _ := hf 41 (by decide); (conv => lhs; simp [execOp, go_sem, hc, e41])) ?_
              refine w_is (fun w => Below.refl _ w) _ (.inl rfl) (fun ρ w hC hc hfn hf => by have e38 : ρ (.tmp 38) = _ := hf 38 (by decide); have e42 : ρ (.tmp 42) = _ := hf 42 (by decide); (conv => lhs; simp [execOp, go_sem, hc, e38, e42])) ?_
              refine w_is (fun w => Below.refl _ w) _ (.inl rfl) (fun ρ w hC hc hfn hf => by have e43 : ρ (.tmp 43) = _ := hf 43 (by decide); (conv => lhs; simp [execOp, go_sem, hc, e43])) ?_
              refine w_skip rfl rfl (known_is rfl) ?_
              refine w_skip rfl rfl (known_is rfl) ?_
              refine w_skip rfl rfl (known_is rfl) ?_
              refine w_skip rfl rfl (known_is rfl) ?_
              refine w_skip rfl rfl (known_is rfl) ?_
              refine w_skip rfl rfl (known_is rfl) ?_
              refine w_is (fun w => Below.refl _ w) _ (.inl rfl) (fun ρ w hC hc hfn hf => by have e44 : ρ (.tmp 44) = _ := hf 44 (by decide); have e50 : ρ (.tmp 50) = _ := hf 50 (by decide); (conv => lhs; simp [execOp, go_sem, hc, e44, e50])) ?_
              intro A V5 hC hn hd hf
              have y0 : A.eval (.tmp 0) = _ := Eq.trans (hf 0) (by conv => lhs; simp [go_sem])
              have y1 : A.eval (.tmp 1) = _ := Eq.trans (hf 1) (by conv => lhs; simp [go_sem])
              have y2 : A.eval (.tmp 2) = _ := Eq.trans (hf 2) (by conv => lhs; simp [go_sem])
              have y3 : A.eval (.tmp 3) = _ := Eq.trans (hf 3) (by conv => lhs; simp [go_sem])
              have y4 : A.eval (.tmp 4) = _ := Eq.trans (hf 4) (by conv => lhs; simp [go_sem])
              have y5 : A.eval (.tmp 5) = _ := Eq.trans (hf 5) (by conv => lhs; simp [go_sem])
              have y6 : A.eval (.tmp 6) = _ := Eq.trans (hf 6) (by conv => lhs; simp [go_sem])
              have y7 : A.eval (.tmp 7) = _ := Eq.trans (hf 7) (by conv => lhs; simp [go_sem])
              have y8 : A.eval (.tmp 8) = _ := Eq.trans (hf 8) (by conv => lhs; simp [go_sem])
              have y9 : A.eval (.tmp 9) = _ := Eq.trans (hf 9) (by conv => lhs; simp [go_sem])
              have y10 : A.eval (.tmp 10) = _ := Eq.trans (hf 10) (by conv => lhs; simp [go_sem])
              have y11 : A.eval (.tmp 11) = _ := Eq.trans (hf 11) (by conv => lhs; simp [go_sem])
              have y12 : A.eval (.tmp 12) = _ := Eq.trans (hf 12) (by conv => lhs; simp [go_sem])
              have y13 : A.eval (.tmp 13) = _ := Eq.trans (hf 13) (by conv => lhs; simp [go_sem])
              have y14 : A.eval (.tmp 14) = _ := Eq.trans (hf 14) (by conv => lhs; simp [go_sem])
              have y15 : A.eval (.tmp 15) = _ := hf 15
              have y16 : A.eval (.tmp 16) = _ := hf 16
              have y17 : A.eval (.tmp 17) = _ := hf 17
              have y18 : A.eval (.tmp 18) = _ := hf 18
              have y19 : A.eval (.tmp 19) = _ := hf 19
              have y20 : A.eval (.tmp 20) = _ := hf 20
              have y21 : A.eval (.tmp 21) = _ := hf 21
              have y22 : A.eval (.tmp 22) = _ := hf 22
              have y23 : A.eval (.tmp 23) = _ := hf 23
              have y24 : A.eval (.tmp 24) = _ := hf 24
              have y25 : A.eval (.tmp 25) = _ := hf 25
              have y26 : A.eval (.tmp 26) = _ := hf 26
              have y27 : A.eval (.tmp 27) = _ := hf 27
              have y28 : A.eval (.tmp 28) = _ := hf 28
              have y29 : A.eval (.tmp 29) = _ := hf 29
              have y30 : A.eval (.tmp 30) = _ := hf 30
              have y31 : A.eval (.tmp 31) = _ := hf 31
              have y32 : A.eval (.tmp 32) = _ := hf 32
              have y33 : A.eval (.tmp 33) = _ := hf 33
              have y34 : A.eval (.tmp 34) = _ := hf 34
              have y35 : A.eval (.tmp 35) = _ := hf 35
              have y36 : A.eval (.tmp 36) = _ := hf 36
              have y37 : A.eval (.tmp 37) = _ := hf 37
              have y38 : A.eval (.tmp 38) = _ := hf 38
              have y39 : A.eval (.tmp 39) = _ := hf 39
              have y40 : A.eval (.tmp 40) = _ := hf 40
              have y41 : A.eval (.tmp 41) = _ := hf 41
              have y42 : A.eval (.tmp 42) = _ := hf 42
              have y43 : A.eval (.tmp 43) = _ := hf 43
              have y44 : A.eval (.tmp 44) = _ := hf 44
              have y45 : A.eval (.tmp 45) = _ := hf 45
              have y46 : A.eval (.tmp 46) = _ := hf 46
              have y47 : A.eval (.tmp 47) = _ := hf 47
              have y48 : A.eval (.tmp 48) = _ := hf 48
              have y49 : A.eval (.tmp 49) = _ := hf 49
              have y50 : A.eval (.tmp 50) = _ := hf 50
              have y51 : A.eval (.tmp 51) = _ := hf 51
              clear hf
              have hA := frame_eq hn
              rw [show List.range 52 = [0, 1, 2, 3, 4, 5, 6, 7, 8, 9, 10, 11, 12, 13, 14, 15, 16, 17, 18, 19, 20, 21, 22, 23, 24, 25, 26, 27, 28, 29, 30, 31, 32, 33, 34, 35, 36, 37, 38, 39, 40, 41, 42, 43, 44, 45, 46, 47, 48, 49, 50, 51] from rfl, hd] at hA
              simp only [List.map_cons, List.map_nil, y0, y1, y2, y3, y4, y5, y6, y7, y8, y9, y10, y11, y12, y13, y14, y15, y16, y17, y18, y19, y20, y21, y22, y23, y24, y25, y26, y27, y28, y29, y30, y31, y32, y33, y34, y35, y36, y37, y38, y39, y40, y41, y42, y43, y44, y45, y46, y47, y48, y49, y50, y51] at hA
              clear y0 y1 y2 y3 y4 y5 y6 y7 y8 y9 y10 y11 y12 y13 y14 y15 y16 y17 y18 y19 y20 y21 y22 y23 y24 y25 y26 y27 y28 y29 y30 y31 y32 y33 y34 y35 y36 y37 y38 y39 y40 y41 y42 y43 y44 y45 y46 y47 y48 y49 y50 y51
              clear hn hd
              subst hA
              go_wp2_with fail
              go_ret
              rw [HN.out (fun h => HG.out (HAT.out.1 h).2.2.1)]
              exact ⟨rfl, HBV.out.trans (hC.mono HBV.out.size)⟩
          · have dp' := dp h0
            have kp : ∀ w', Below V.heap.size V w' → w'.cell? ⟨b, off + (k - 1) * 7, none⟩ = some (.int .i64 z) := fun w' hb => (hb.cell (p := ⟨b, off + (k - 1) * 7, none⟩) hbv).trans dp'
            replace kc : ∀ w', Below V.heap.size V w' → w'.cell? ⟨wr.heap.size, 0, none⟩ = some (.int .i64 y.1) ∧ w'.cell? ⟨wr.heap.size, 1, none⟩ = some (.bool y.2.1) ∧ w'.cell? ⟨wr.heap.size, 2, none⟩ = some (.int .i64 y.2.2.1) ∧ w'.cell? ⟨wr.heap.size, 3, none⟩ = some (.int .i64 y.2.2.2.1) ∧ w'.cell? ⟨wr.heap.size, 4, none⟩ = some (.int .i64 y.2.2.2.2.1) ∧ w'.cell? ⟨wr.heap.size, 5, none⟩ = some (.int .i64 y.2.2.2.2.2.1) ∧ w'.cell? ⟨wr.heap.size, 6, none⟩ = some (.int .i64 y.2.2.2.2.2.2) ∧ w'.cell? ⟨b, off + (k - 1) * 7, none⟩ = some (.int .i64 z) := fun w' hb => ⟨(hb.cell (p := ⟨wr.heap.size, 0, none⟩) hgv).trans d0, (hb.cell (p := ⟨wr.heap.size, 1, none⟩) hgv).trans d1, (hb.cell (p := ⟨wr.heap.size, 2, none⟩) hgv).trans d2, (hb.cell (p := ⟨wr.heap.size, 3, none⟩) hgv).trans d3, (hb.cell (p := ⟨wr.heap.size, 4, none⟩) hgv).trans d4, (hb.cell (p := ⟨wr.heap.size, 5, none⟩) hgv).trans d5, (hb.cell (p := ⟨wr.heap.size, 6, none⟩) hgv).trans d6, kp w' hb⟩
            clear kp dp'
            have w1_ : IntKind.i64.wrap ((k : Int) - 1) = (k : Int) - 1 := by rw [IntKind.wrap_i64]; omega
            have w2_ : (1 : Int) ≤ (k : Int) := by omega
            have w3_ : ((k : Int) - 1).toNat = k - 1 := by omega
            have w4_ : (k : Int) - 1 < (l.length : Int) := by omega
            have w5_ : k - 1 < l.length := by omega
            have w6_ : (0 : Int) ≤ (k : Int) - 1 := by omega
            by_cases g3 : y.1 ≤ z
            · refine wp_region_typed (C := fun w' => Below V.heap.size V w') (X := fun w w' => Below w.heap.size w w') (n := 52) (by kernel_rfl) (by kernel_rfl) rfl (fun w => Below.refl _ w) (Below.refl _ _).drew ?_
              refine w_is (fun w => Below.refl _ w) _ (.inl rfl) (fun ρ w hC hc hfn hf => by have e4 : ρ (.tmp 4) = _ := hf 4 (by decide); (conv => lhs; simp [execOp, go_sem, hc, e4])) ?_
              refine w_is (fun w => Below.refl _ w) _ (.inl rfl) (fun ρ w hC hc hfn hf => by have e15 : ρ (.tmp 15) = _ := hf 15 (by decide); (conv => lhs; simp [execOp, go_sem, hc, e15, kc w hC])) ?_
              refine w_is (fun w => Below.refl _ w) _ (.inl rfl) (fun ρ w hC hc hfn hf => by have e16 : ρ (.tmp 16) = _ := hf 16 (by decide); (conv => lhs; simp [execOp, go_sem, hc, e16, g1])) ?_
              refine w_is (fun w => Below.refl _ w) _ (.inl rfl) (fun ρ w hC hc hfn hf => by have e17 : ρ (.tmp 17) = _ := hf 17 (by decide); (conv => lhs; simp [execOp, go_sem, hc, e17])) ?_
              refine w_is (fun w => Below.refl _ w) _ (.inr ⟨3, 18, false, rfl, rfl, known_is rfl⟩) (fun ρ w hC hc hfn hf => by have e4 : ρ (.tmp 4) = _ := hf 4 (by decide); (conv => lhs; simp [execOp, go_sem, hc, e4])) ?_
              refine w_is (fun w => Below.refl _ w) _ (.inr ⟨3, 18, false, rfl, rfl, known_is rfl⟩) (fun ρ w hC hc hfn hf => by have e19 : ρ (.tmp 19) = _ := hf 19 (by decide); (conv => lhs; simp [execOp, go_sem, hc, e19, kc w hC])) ?_
              refine w_is (fun w => Below.refl _ w) _ (.inr ⟨3, 18, false, rfl, rfl, known_is rfl⟩) (fun ρ w hC hc hfn hf => by have e20 : ρ (.tmp 20) = _ := hf 20 (by decide); (conv => lhs; simp [execOp, go_sem, hc, e20, g2])) ?_
              refine w_is (fun w => Below.refl _ w) _ (.inl rfl) (fun ρ w hC hc hfn hf => by have e18 : ρ (.tmp 18) = _ := hf 18 (by decide); have e21 : ρ (.tmp 21) = _ := hf 21 (by decide); (conv => lhs; simp [execOp, go_sem, hc, e18, e21])) ?_
              refine w_is (fun w => Below.refl _ w) _ (.inl rfl) (fun ρ w hC hc hfn hf => by have e22 : ρ (.tmp 22) = _ := hf 22 (by decide); (conv => lhs; simp [execOp, go_sem, hc, e22])) ?_
              refine w_is (fun w => Below.refl _ w) _ (.inr ⟨8, 23, false, rfl, rfl, known_is rfl⟩) (fun ρ w hC hc hfn hf => by have e3 : ρ (.tmp 3) = _ := hf 3 (by decide); (conv => lhs; simp [execOp, go_sem, hc, e3])) ?_
              refine w_is (fun w => Below.refl _ w) _ (.inr ⟨8, 23, false, rfl, rfl, known_is rfl⟩) (fun ρ w hC hc hfn hf => by have e24 : ρ (.tmp 24) = _ := hf 24 (by decide); (conv => lhs; simp [execOp, go_sem, hc, e24, h0])) ?_
              refine w_is (fun w => Below.refl _ w) _ (.inr ⟨8, 23, false, rfl, rfl, known_is rfl⟩) (fun ρ w hC hc hfn hf => by have e25 : ρ (.tmp 25) = _ := hf 25 (by decide); (conv => lhs; simp [execOp, go_sem, hc, e25])) ?_
              refine w_is (fun w => Below.refl _ w) _ (.inr ⟨11, 26, true, rfl, rfl, known_is rfl⟩) (fun ρ w hC hc hfn hf => by have e0 : ρ (.tmp 0) = _ := hf 0 (by decide); (conv => lhs; simp [execOp, go_sem, hc, e0])) ?_
              refine w_is (fun w => Below.refl _ w) _ (.inr ⟨11, 26, true, rfl, rfl, known_is rfl⟩) (fun ρ w hC hc hfn hf => by have e3 : ρ (.tmp 3) = _ := hf 3 (by decide); (conv => lhs; simp [execOp, go_sem, hc, e3])) ?_
              refine w_is (fun w => Below.refl _ w) _ (.inr ⟨11, 26, true, rfl, rfl, known_is rfl⟩) (fun ρ w hC hc hfn hf => by have e28 : ρ (.tmp 28) = _ := hf 28 (by decide); (conv => lhs; simp [execOp, go_sem, hc, e28, w1_])) ?_
              refine w_is (fun w => Below.refl _ w) _ (.inr ⟨11, 26, true, rfl, rfl, known_is rfl⟩) (fun ρ w hC hc hfn hf => by have e27 : ρ (.tmp 27) = _ := hf 27 (by decide); have e29 : ρ (.tmp 29) = _ := hf 29 (by decide); (conv => lhs; simp [execOp, go_sem, hc, e27, e29, w1_, w2_, w3_, w4_, w5_, w6_])) ?_
              refine w_is (fun w => Below.refl _ w) _ (.inr ⟨11, 26, true, rfl, rfl, known_is rfl⟩) (fun ρ w hC hc hfn hf => by have e30 : ρ (.tmp 30) = _ := hf 30 (by decide); (conv => lhs; simp [execOp, go_sem, hc, e30])) ?_
              refine w_is (fun w => Below.refl _ w) _ (.inr ⟨11, 26, true, rfl, rfl, known_is rfl⟩) (fun ρ w hC hc hfn hf => by have e31 : ρ (.tmp 31) = _ := hf 31 (by decide); (conv => lhs; simp [execOp, go_sem, hc, e31, kc w hC])) ?_
              refine w_is (fun w => Below.refl _ w) _ (.inr ⟨11, 26, true, rfl, rfl, known_is rfl⟩) (fun ρ w hC hc hfn hf => by have e4 : ρ (.tmp 4) = _ := hf 4 (by decide); (conv => lhs; simp [execOp, go_sem, hc, e4])) ?_
              refine w_is (fun w => Below.refl _ w) _ (.inr ⟨11, 26, true, rfl, rfl, known_is rfl⟩) (fun ρ w hC hc hfn hf => by have e33 : ρ (.tmp 33) = _ := hf 33 (by decide); (conv => lhs; simp [execOp, go_sem, hc, e33, kc w hC])) ?_
              refine w_is (fun w => Below.refl _ w) _ (.inr ⟨11, 26, true, rfl, rfl, known_is rfl⟩) (fun ρ w hC hc hfn hf => by have e32 : ρ (.tmp 32) = _ := hf 32 (by decide); have e34 : ρ (.tmp 34) = _ := hf 34 (by decide); (conv => lhs; simp [execOp, go_sem, hc, e32, e34, g3])) ?_
              refine w_is (fun w => Below.refl _ w) _ (.inr ⟨8, 23, false, rfl, rfl, known_is rfl⟩) (fun ρ w hC hc hfn hf => by have e26 : ρ (.tmp 26) = _ := hf 26 (by decide); have e35 : ρ (.tmp 35) = _ := hf 35 (by decide); (conv => lhs; simp [execOp, go_sem, hc, e26, e35])) ?_
              refine w_is (fun w => Below.refl _ w) _ (.inl rfl) (fun ρ w hC hc hfn hf => by have e23 : ρ (.tmp 23) = _ := hf 23 (by decide); have e36 : ρ (.tmp 36) = _ := hf 36 (by decide); (conv => lhs; simp [execOp, go_sem, hc, e23, e36])) ?_
              refine w_is (fun w => Below.refl _ w) _ (.inl rfl) (fun ρ w hC hc hfn hf => by have e37 : ρ (.tmp 37) = _ := hf 37 (by decide); (conv => lhs; simp [execOp, go_sem, hc, e37])) ?_
              refine w_skip rfl rfl (known_is rfl) ?_
              refine w_skip rfl rfl (known_is rfl) ?_
              refine w_skip rfl rfl (known_is rfl) ?_
              refine w_skip rfl rfl (known_is rfl) ?_
              refine w_is (fun w => Below.refl _ w) _ (.inl rfl) (fun ρ w hC hc hfn hf => by have e38 : ρ (.tmp 38) = _ := hf 38 (by decide); have e42 : ρ (.tmp 42) = _ := hf 42 (by decide); (conv => lhs; simp [execOp, go_sem, hc, e38, e42])) ?_
              refine w_is (fun w => Below.refl _ w) _ (.inl rfl) (fun ρ w hC hc hfn hf => by have e43 : ρ (.tmp 43) = _ := hf 43 (by decide); (conv => lhs; simp [execOp, go_sem, hc, e43])) ?_
              refine w_skip rfl rfl (known_is rfl) ?_
              refine w_skip rfl rfl (known_is rfl) ?_
              refine w_skip rfl rfl (known_is rfl) ?_
              refine w_skip rfl rfl (known_is rfl) ?_
              refine w_skip rfl rfl (known_is rfl) ?_
              refine w_skip rfl rfl (known_is rfl) ?_
              refine w_is (fun w => Below.refl _ w) _ (.inl rfl) (fun ρ w hC hc hfn hf => by have e44 : ρ (.tmp 44) = _ := hf 44 (by decide); have e50 : ρ (.tmp 50) = _ := hf 50 (by decide); (conv => lhs; simp [execOp, go_sem, hc, e44, e50])) ?_
              intro A V5 hC hn hd hf
              have y0 : A.eval (.tmp 0) = _ := Eq.trans (hf 0) (by conv => lhs; simp [go_sem])
              have y1 : A.eval (.tmp 1) = _ := Eq.trans (hf 1) (by conv => lhs; simp [go_sem])
              have y2 : A.eval (.tmp 2) = _ := Eq.trans (hf 2) (by conv => lhs; simp [go_sem])
              have y3 : A.eval (.tmp 3) = _ := Eq.trans (hf 3) (by conv => lhs; simp [go_sem])
              have y4 : A.eval (.tmp 4) = _ := Eq.trans (hf 4) (by conv => lhs; simp [go_sem])
              have y5 : A.eval (.tmp 5) = _ := Eq.trans (hf 5) (by conv => lhs; simp [go_sem])
              have y6 : A.eval (.tmp 6) = _ := Eq.trans (hf 6) (by conv => lhs; simp [go_sem])
              have y7 : A.eval (.tmp 7) = _ := Eq.trans (hf 7) (by conv => lhs; simp [go_sem])
              have y8 : A.eval (.tmp 8) = _ := Eq.trans (hf 8) (by conv => lhs; simp [go_sem])
              have y9 : A.eval (.tmp 9) = _ := Eq.trans (hf 9) (by conv => lhs; simp [go_sem])
              have y10 : A.eval (.tmp 10) = _ := Eq.trans (hf 10) (by conv => lhs; simp [go_sem])
              have y11 : A.eval (.tmp 11) = _ := Eq.trans (hf 11) (by conv => lhs; simp [go_sem])
              have y12 : A.eval (.tmp 12) = _ := Eq.trans (hf 12) (by conv => lhs; simp [go_sem])
              have y13 : A.eval (.tmp 13) = _ := Eq.trans (hf 13) (by conv => lhs; simp [go_sem])
              have y14 : A.eval (.tmp 14) = _ := Eq.trans (hf 14) (by conv => lhs; simp [go_sem])
              have y15 : A.eval (.tmp 15) = _ := hf 15
              have y16 : A.eval (.tmp 16) = _ := hf 16
              have y17 : A.eval (.tmp 17) = _ := hf 17
              have y18 : A.eval (.tmp 18) = _ := hf 18
              have y19 : A.eval (.tmp 19) = _ := hf 19
              have y20 : A.eval (.tmp 20) = _ := hf 20
              have y21 : A.eval (.tmp 21) = _ := hf 21
              have y22 : A.eval (.tmp 22) = _ := hf 22
              have y23 : A.eval (.tmp 23) = _ := hf 23
              have y24 : A.eval (.tmp 24) = _ := hf 24
              have y25 : A.eval (.tmp 25) = _ := hf 25
              have y26 : A.eval (.tmp 26) = _ := hf 26
              have y27 : A.eval (.tmp 27) = _ := hf 27
              have y28 : A.eval (.tmp 28) = _ := hf 28
              have y29 : A.eval (.tmp 29) = _ := hf 29
              have y30 : A.eval (.tmp 30) = _ := hf 30
              have y31 : A.eval (.tmp 31) = _ := hf 31
              have y32 : A.eval (.tmp 32) = _ := hf 32
              have y33 : A.eval (.tmp 33) = _ := hf 33
              have y34 : A.eval (.tmp 34) = _ := hf 34
              have y35 : A.eval (.tmp 35) = _ := hf 35
              have y36 : A.eval (.tmp 36) = _ := hf 36
              have y37 : A.eval (.tmp 37) = _ := hf 37
              have y38 : A.eval (.tmp 38) = _ := hf 38
              have y39 : A.eval (.tmp 39) = _ := hf 39
              have y40 : A.eval (.tmp 40) = _ := hf 40
              have y41 : A.eval (.tmp 41) = _ := hf 41
              have y42 : A.eval (.tmp 42) = _ := hf 42
              have y43 : A.eval (.tmp 43) = _ := hf 43
              have y44 : A.eval (.tmp 44) = _ := hf 44
              have y45 : A.eval (.tmp 45) = _ := hf 45
              have y46 : A.eval (.tmp 46) = _ := hf 46
              have y47 : A.eval (.tmp 47) = _ := hf 47
              have y48 : A.eval (.tmp 48) = _ := hf 48
              have y49 : A.eval (.tmp 49) = _ := hf 49
              have y50 : A.eval (.tmp 50) = _ := hf 50
              have y51 : A.eval (.tmp 51) = _ := hf 51
              clear hf
              have hA := frame_eq hn
              rw [show List.range 52 = [0, 1, 2, 3, 4, 5, 6, 7, 8, 9, 10, 11, 12, 13, 14, 15, 16, 17, 18, 19, 20, 21, 22, 23, 24, 25, 26, 27, 28, 29, 30, 31, 32, 33, 34, 35, 36, 37, 38, 39, 40, 41, 42, 43, 44, 45, 46, 47, 48, 49, 50, 51] from rfl, hd] at hA
              simp only [List.map_cons, List.map_nil, y0, y1, y2, y3, y4, y5, y6, y7, y8, y9, y10, y11, y12, y13, y14, y15, y16, y17, y18, y19, y20, y21, y22, y23, y24, y25, y26, y27, y28, y29, y30, y31, y32, y33, y34, y35, y36, y37, y38, y39, y40, y41, y42, y43, y44, y45, y46, y47, y48, y49, y50, y51] at hA
              clear y0 y1 y2 y3 y4 y5 y6 y7 y8 y9 y10 y11 y12 y13 y14 y15 y16 y17 y18 y19 y20 y21 y22 y23 y24 y25 y26 y27 y28 y29 y30 y31 y32 y33 y34 y35 y36 y37 y38 y39 y40 y41 y42 y43 y44 y45 y46 y47 y48 y49 y50 y51
              clear hn hd
              subst hA
              go_wp2_with fail
              go_ret
              rw [HN.out (fun h => absurd ((HAT.out.1 h).2.1 h0) (by omega))]
              exact ⟨rfl, HBV.out.trans (hC.mono HBV.out.size)⟩
            · by_cases g4 : hOk y.2
              · have cE := fun W => rright_any y.2.1 y.2.2.1 y.2.2.2.1 y.2.2.2.2.1 y.2.2.2.2.2.1 y.2.2.2.2.2.2 W
                rw [decide_eq_true (show HtOk y.2.1 y.2.2.1 y.2.2.2.1 y.2.2.2.2.1 y.2.2.2.2.2.1 y.2.2.2.2.2.2 from g4)] at cE
                by_cases g5 : y.2.2.2.2.2.2 = y.1
                · have HG := Lib.hid (And.intro (show NodeOk y.1 from ⟨by omega, by omega⟩) (And.intro (show 0 < k → z < y.1 from (fun _ => by omega)) (And.intro g4 g5)))
                  clear g4
                  refine wp_region_typed (C := fun w' => Below V.heap.size V w') (X := fun w w' => Below w.heap.size w w') (n := 52) (by kernel_rfl) (by kernel_rfl) rfl (fun w => Below.refl _ w) (Below.refl _ _).drew ?_
                  refine w_is (fun w => Below.refl _ w) _ (.inl rfl) (fun ρ w hC hc hfn hf => by have e4 : ρ (.tmp 4) = _ := hf 4 (by decide); (conv => lhs; simp [execOp, go_sem, hc, e4])) ?_
                  refine w_is (fun w => Below.refl _ w) _ (.inl rfl) (fun ρ w hC hc hfn hf => by have e15 : ρ (.tmp 15) = _ := hf 15 (by decide); (conv => lhs; simp [execOp, go_sem, hc, e15, kc w hC])) ?_
                  refine w_is (fun w => Below.refl _ w) _ (.inl rfl) (fun ρ w hC hc hfn hf => by have e16 : ρ (.tmp 16) = _ := hf 16 (by decide); (conv => lhs; simp [execOp, go_sem, hc, e16, g1])) ?_
                  refine w_is (fun w => Below.refl _ w) _ (.inl rfl) (fun ρ w hC hc hfn hf => by have e17 : ρ (.tmp 17) = _ := hf 17 (by decide); (conv => lhs; simp [execOp, go_sem, hc, e17])) ?_
                  refine w_is (fun w => Below.refl _ w) _ (.inr ⟨3, 18, false, rfl, rfl, known_is rfl⟩) (fun ρ w hC hc hfn hf => by have e4 : ρ (.tmp 4) = _ := hf 4 (by decide); (conv => lhs; simp [execOp, go_sem, hc, e4])) ?_
                  refine w_is (fun w => Below.refl _ w) _ (.inr ⟨3, 18, false, rfl, rfl, known_is rfl⟩) (fun ρ w hC hc hfn hf => by have e19 : ρ (.tmp 19) = _ := hf 19 (by decide); (conv => lhs; simp [execOp, go_sem, hc, e19, kc w hC])) ?_
                  refine w_is (fun w => Below.refl _ w) _ (.inr ⟨3, 18, false, rfl, rfl, known_is rfl⟩) (fun ρ w hC hc hfn hf => by have e20 : ρ (.tmp 20) = _ := hf 20 (by decide); (conv => lhs; simp [execOp, go_sem, hc, e20, g2])) ?_
                  refine w_is (fun w => Below.refl _ w) _ (.inl rfl) (fun ρ w hC hc hfn hf => by have e18 : ρ (.tmp 18) = _ := hf 18 (by decide); have e21 : ρ (.tmp 21) = _ := hf 21 (by decide); (conv => lhs; simp [execOp, go_sem, hc, e18, e21])) ?_
                  refine w_is (fun w => Below.refl _ w) _ (.inl rfl) (fun ρ w hC hc hfn hf => by have e22 : ρ (.tmp 22) = _ := hf 22 (by decide); (conv => lhs; simp [execOp, go_sem, hc, e22])) ?_
                  refine w_is (fun w => Below.refl _ w) _ (.inr ⟨8, 23, false, rfl, rfl, known_is rfl⟩) (fun ρ w hC hc hfn hf => by have e3 : ρ (.tmp 3) = _ := hf 3 (by decide); (conv => lhs; simp [execOp, go_sem, hc, e3])) ?_
                  refine w_is (fun w => Below.refl _ w) _ (.inr ⟨8, 23, false, rfl, rfl, known_is rfl⟩) (fun ρ w hC hc hfn hf => by have e24 : ρ (.tmp 24) = _ := hf 24 (by decide); (conv => lhs; simp [execOp, go_sem, hc, e24, h0])) ?_
                  refine w_is (fun w => Below.refl _ w) _ (.inr ⟨8, 23, false, rfl, rfl, known_is rfl⟩) (fun ρ w hC hc hfn hf => by have e25 : ρ (.tmp 25) = _ := hf 25 (by decide); (conv => lhs; simp [execOp, go_sem, hc, e25])) ?_
                  refine w_is (fun w => Below.refl _ w) _ (.inr ⟨11, 26, true, rfl, rfl, known_is rfl⟩) (fun ρ w hC hc hfn hf => by have e0 : ρ (.tmp 0) = _ := hf 0 (by decide); (conv => lhs; simp [execOp, go_sem, hc, e0])) ?_
                  refine w_is (fun w => Below.refl _ w) _ (.inr ⟨11, 26, true, rfl, rfl, known_is rfl⟩) (fun ρ w hC hc hfn hf => by have e3 : ρ (.tmp 3) = _ := hf 3 (by decide); (conv => lhs; simp [execOp, go_sem, hc, e3])) ?_
                  refine w_is (fun w => Below.refl _ w) _ (.inr ⟨11, 26, true, rfl, rfl, known_is rfl⟩) (fun ρ w hC hc hfn hf => by have e28 : ρ (.tmp 28) = _ := hf 28 (by decide); (conv => lhs; simp [execOp, go_sem, hc, e28, w1_])) ?_
                  refine w_is (fun w => Below.refl _ w) _ (.inr ⟨11, 26, true, rfl, rfl, known_is rfl⟩) (fun ρ w hC hc hfn hf => by have e27 : ρ (.tmp 27) = _ := hf 27 (by decide); have e29 : ρ (.tmp 29) = _ := hf 29 (by decide); (conv => lhs; simp [execOp, go_sem, hc, e27, e29, w1_, w2_, w3_, w4_, w5_, w6_])) ?_
                  refine w_is (fun w => Below.refl _ w) _ (.inr ⟨11, 26, true, rfl, rfl, known_is rfl⟩) (fun ρ w hC hc hfn hf => by have e30 : ρ (.tmp 30) = _ := hf 30 (by decide); (conv => lhs; simp [execOp, go_sem, hc, e30])) ?_
                  refine w_is (fun w => Below.refl _ w) _ (.inr ⟨11, 26, true, rfl, rfl, known_is rfl⟩) (fun ρ w hC hc hfn hf => by have e31 : ρ (.tmp 31) = _ := hf 31 (by decide); (conv => lhs; simp [execOp, go_sem, hc, e31, kc w hC])) ?_
                  refine w_is (fun w => Below.refl _ w) _ (.inr ⟨11, 26, true, rfl, rfl, known_is rfl⟩) (fun ρ w hC hc hfn hf => by have e4 : ρ (.tmp 4) = _ := hf 4 (by decide); (conv => lhs; simp [execOp, go_sem, hc, e4])) ?_
                  refine w_is (fun w => Below.refl _ w) _ (.inr ⟨11, 26, true, rfl, rfl, known_is rfl⟩) (fun ρ w hC hc hfn hf => by have e33 : ρ (.tmp 33) = _ := hf 33 (by decide); (conv => lhs; simp [execOp, go_sem, hc, e33, kc w hC])) ?_
                  refine w_is (fun w => Below.refl _ w) _ (.inr ⟨11, 26, true, rfl, rfl, known_is rfl⟩) (fun ρ w hC hc hfn hf => by have e32 : ρ (.tmp 32) = _ := hf 32 (by decide); have e34 : ρ (.tmp 34) = _ := hf 34 (by decide); (conv => lhs; simp [execOp, go_sem, hc, e32, e34, g3])) ?_
                  refine w_is (fun w => Below.refl _ w) _ (.inr ⟨8, 23, false, rfl, rfl, known_is rfl⟩) (fun ρ w hC hc hfn hf => by have e26 : ρ (.tmp 26) = _ := hf 26 (by decide); have e35 : ρ (.tmp 35) = _ := hf 35 (by decide); (conv => lhs; simp [execOp, go_sem, hc, e26, e35])) ?_
                  refine w_is (fun w => Below.refl _ w) _ (.inl rfl) (fun ρ w hC hc hfn hf => by have e23 : ρ (.tmp 23) = _ := hf 23 (by decide); have e36 : ρ (.tmp 36) = _ := hf 36 (by decide); (conv => lhs; simp [execOp, go_sem, hc, e23, e36])) ?_
                  refine w_is (fun w => Below.refl _ w) _ (.inl rfl) (fun ρ w hC hc hfn hf => by have e37 : ρ (.tmp 37) = _ := hf 37 (by decide); (conv => lhs; simp [execOp, go_sem, hc, e37])) ?_
                  refine w_is (fun w => Below.refl _ w) _ (.inr ⟨23, 38, false, rfl, rfl, known_is rfl⟩) (fun ρ w hC hc hfn hf => by have e4 : ρ (.tmp 4) = _ := hf 4 (by decide); (conv => lhs; simp [execOp, go_sem, hc, e4])) ?_
                  refine w_is (fun w => Below.refl _ w) _ (.inr ⟨23, 38, false, rfl, rfl, known_is rfl⟩) (fun ρ w hC hc hfn hf => by have e39 : ρ (.tmp 39) = _ := hf 39 (by decide); (conv => lhs; simp [execOp, go_sem, hc, e39, kc w hC])) ?_
                  refine w_call (Is _) (fun _ _ _ h _ => h) 36 (.inr ⟨23, 38, false, rfl, rfl, known_is rfl⟩) (fun ρ w hC hc hfn hf => by have e40 : ρ (.tmp 40) = _ := hf 40 (by decide); exact ⟨_, by (conv => lhs; simp [execOp, resolve, invoke, go_sem, hc, hfn, e40]), tc_below hC (cE w)⟩) ?_
                  refine w_is (fun w => Below.refl _ w) _ (.inr ⟨23, 38, false, rfl, rfl, known_is rfl⟩) (fun ρ w hC hc hfn hf => by have e41 : ρ (.tmp 41) = _ := hf 41 (by decide); (conv => lhs; simp [execOp, go_sem, hc, e41])) ?_
                  refine w_is (fun w => Below.refl _ w) _ (.inl rfl) (fun ρ w hC hc hfn hf => by have e38 : ρ (.tmp 38) = _ := hf 38 (by decide); have e42 : ρ (.tmp 42) = _ := hf 42 (by decide); (conv => lhs; simp [execOp, go_sem, hc, e38, e42])) ?_
                  refine w_is (fun w => Below.refl _ w) _ (.inl rfl) (fun ρ w hC hc hfn hf => by have e43 : ρ (.tmp 43) = _ := hf 43 (by decide); (conv => lhs; simp [execOp, go_sem, hc, e43])) ?_
                  refine w_is (fun w => Below.refl _ w) _ (.inr ⟨29, 44, false, rfl, rfl, known_is rfl⟩) (fun ρ w hC hc hfn hf => by have e4 : ρ (.tmp 4) = _ := hf 4 (by decide); (conv => lhs; simp [execOp, go_sem, hc, e4])) ?_
                  refine w_is (fun w => Below.refl _ w) _ (.inr ⟨29, 44, false, rfl, rfl, known_is rfl⟩) (fun ρ w hC hc hfn hf => by have e45 : ρ (.tmp 45) = _ := hf 45 (by decide); (conv => lhs; simp [execOp, go_sem, hc, e45])) ?_
                  refine w_is (fun w => Below.refl _ w) _ (.inr ⟨29, 44, false, rfl, rfl, known_is rfl⟩) (fun ρ w hC hc hfn hf => by have e46 : ρ (.tmp 46) = _ := hf 46 (by decide); (conv => lhs; simp [execOp, go_sem, hc, e46, kc w hC])) ?_
                  refine w_is (fun w => Below.refl _ w) _ (.inr ⟨29, 44, false, rfl, rfl, known_is rfl⟩) (fun ρ w hC hc hfn hf => by have e4 : ρ (.tmp 4) = _ := hf 4 (by decide); (conv => lhs; simp [execOp, go_sem, hc, e4])) ?_
                  refine w_is (fun w => Below.refl _ w) _ (.inr ⟨29, 44, false, rfl, rfl, known_is rfl⟩) (fun ρ w hC hc hfn hf => by have e48 : ρ (.tmp 48) = _ := hf 48 (by decide); (conv => lhs; simp [execOp, go_sem, hc, e48, kc w hC])) ?_
                  refine w_is (fun w => Below.refl _ w) _ (.inr ⟨29, 44, false, rfl, rfl, known_is rfl⟩) (fun ρ w hC hc hfn hf => by have e47 : ρ (.tmp 47) = _ := hf 47 (by decide); have e49 : ρ (.tmp 49) = _ := hf 49 (by decide); (conv => lhs; simp [execOp, go_sem, hc, e47, e49, g5])) ?_
                  refine w_is (fun w => Below.refl _ w) _ (.inl rfl) (fun ρ w hC hc hfn hf => by have e44 : ρ (.tmp 44) = _ := hf 44 (by decide); have e50 : ρ (.tmp 50) = _ := hf 50 (by decide); (conv => lhs; simp [execOp, go_sem, hc, e44, e50])) ?_
                  intro A V5 hC hn hd hf
                  have y0 : A.eval (.tmp 0) = _ := Eq.trans (hf 0) (by conv => lhs; simp [go_sem])
                  have y1 : A.eval (.tmp 1) = _ := Eq.trans (hf 1) (by conv => lhs; simp [go_sem])
                  have y2 : A.eval (.tmp 2) = _ := Eq.trans (hf 2) (by conv => lhs; simp [go_sem])
                  have y3 : A.eval (.tmp 3) = _ := Eq.trans (hf 3) (by conv => lhs; simp [go_sem])
                  have y4 : A.eval (.tmp 4) = _ := Eq.trans (hf 4) (by conv => lhs; simp [go_sem])
                  have y5 : A.eval (.tmp 5) = _ := Eq.trans (hf 5) (by conv => lhs; simp [go_sem])
                  have y6 : A.eval (.tmp 6) = _ := Eq.trans (hf 6) (by conv => lhs; simp [go_sem])
                  have y7 : A.eval (.tmp 7) = _ := Eq.trans (hf 7) (by conv => lhs; simp [go_sem])
                  have y8 : A.eval (.tmp 8) = _ := Eq.trans (hf 8) (by conv => lhs; simp [go_sem])
                  have y9 : A.eval (.tmp 9) = _ := Eq.trans (hf 9) (by conv => lhs; simp [go_sem])
                  have y10 : A.eval (.tmp 10) = _ := Eq.trans (hf 10) (by conv => lhs; simp [go_sem])
                  have y11 : A.eval (.tmp 11) = _ := Eq.trans (hf 11) (by conv => lhs; simp [go_sem])
                  have y12 : A.eval (.tmp 12) = _ := Eq.trans (hf 12) (by conv => lhs; simp [go_sem])
                  have y13 : A.eval (.tmp 13) = _ := Eq.trans (hf 13) (by conv => lhs; simp [go_sem])
                  have y14 : A.eval (.tmp 14) = _ := Eq.trans (hf 14) (by conv => lhs; simp [go_sem])
                  have y15 : A.eval (.tmp 15) = _ := hf 15
                  have y16 : A.eval (.tmp 16) = _ := hf 16
                  have y17 : A.eval (.tmp 17) = _ := hf 17
                  have y18 : A.eval (.tmp 18) = _ := hf 18
                  have y19 : A.eval (.tmp 19) = _ := hf 19
                  have y20 : A.eval (.tmp 20) = _ := hf 20
                  have y21 : A.eval (.tmp 21) = _ := hf 21
                  have y22 : A.eval (.tmp 22) = _ := hf 22
                  have y23 : A.eval (.tmp 23) = _ := hf 23
                  have y24 : A.eval (.tmp 24) = _ := hf 24
                  have y25 : A.eval (.tmp 25) = _ := hf 25
                  have y26 : A.eval (.tmp 26) = _ := hf 26
                  have y27 : A.eval (.tmp 27) = _ := hf 27
                  have y28 : A.eval (.tmp 28) = _ := hf 28
                  have y29 : A.eval (.tmp 29) = _ := hf 29
                  have y30 : A.eval (.tmp 30) = _ := hf 30
                  have y31 : A.eval (.tmp 31) = _ := hf 31
                  have y32 : A.eval (.tmp 32) = _ := hf 32
                  have y33 : A.eval (.tmp 33) = _ := hf 33
                  have y34 : A.eval (.tmp 34) = _ := hf 34
                  have y35 : A.eval (.tmp 35) = _ := hf 35
                  have y36 : A.eval (.tmp 36) = _ := hf 36
                  have y37 : A.eval (.tmp 37) = _ := hf 37
                  have y38 : A.eval (.tmp 38) = _ := hf 38
                  have y39 : A.eval (.tmp 39) = _ := hf 39
                  have y40 : A.eval (.tmp 40) = _ := hf 40
                  have y41 : A.eval (.tmp 41) = _ := hf 41
                  have y42 : A.eval (.tmp 42) = _ := hf 42
                  have y43 : A.eval (.tmp 43) = _ := hf 43
                  have y44 : A.eval (.tmp 44) = _ := hf 44
                  have y45 : A.eval (.tmp 45) = _ := hf 45
                  have y46 : A.eval (.tmp 46) = _ := hf 46
                  have y47 : A.eval (.tmp 47) = _ := hf 47
                  have y48 : A.eval (.tmp 48) = _ := hf 48
                  have y49 : A.eval (.tmp 49) = _ := hf 49
                  have y50 : A.eval (.tmp 50) = _ := hf 50
                  have y51 : A.eval (.tmp 51) = _ := hf 51
                  clear hf
                  have hA := frame_eq hn
                  rw [show List.range 52 = [0, 1, 2, 3, 4, 5, 6, 7, 8, 9, 10, 11, 12, 13, 14, 15, 16, 17, 18, 19, 20, 21, 22, 23, 24, 25, 26, 27, 28, 29, 30, 31, 32, 33, 34, 35, 36, 37, 38, 39, 40, 41, 42, 43, 44, 45, 46, 47, 48, 49, 50, 51] from rfl, hd] at hA
                  simp only [List.map_cons, List.map_nil, y0, y1, y2, y3, y4, y5, y6, y7, y8, y9, y10, y11, y12, y13, y14, y15, y16, y17, y18, y19, y20, y21, y22, y23, y24, y25, y26, y27, y28, y29, y30, y31, y32, y33, y34, y35, y36, y37, y38, y39, y40, y41, y42, y43, y44, y45, y46, y47, y48, y49, y50, y51] at hA
                  clear y0 y1 y2 y3 y4 y5 y6 y7 y8 y9 y10 y11 y12 y13 y14 y15 y16 y17 y18 y19 y20 y21 y22 y23 y24 y25 y26 y27 y28 y29 y30 y31 y32 y33 y34 y35 y36 y37 y38 y39 y40 y41 y42 y43 y44 y45 y46 y47 y48 y49 y50 y51
                  clear hn hd
                  subst hA
                  go_wp2_with fail
                  go_roundw
                  case rel =>
                    refine ⟨k + 1, by omega, by go_num, fun i hi => ?_, HBV.out.trans (hC.mono HBV.out.size)⟩
                    by_cases h : i < k
                    · exact HO.out i h
                    · obtain rfl : i = k := by omega
                      exact HAT.out.2 HG.out
                  case measure => simp [intOf]; omega
                · have HG := Lib.hid g5
                  clear g4
                  refine wp_region_typed (C := fun w' => Below V.heap.size V w') (X := fun w w' => Below w.heap.size w w') (n := 52) (by kernel_rfl) (by kernel_rfl) rfl (fun w => Below.refl _ w) (Below.refl _ _).drew ?_
                  refine w_is (fun w => Below.refl _ w) _ (.inl rfl) (fun ρ w hC hc hfn hf => by have e4 : ρ (.tmp 4) = _ := hf 4 (by decide); (conv => lhs; simp [execOp, go_sem, hc, e4])) ?_
                  refine w_is (fun w => Below.refl _ w) _ (.inl rfl) (fun ρ w hC hc hfn hf => by have e15 : ρ (.tmp 15) = _ := hf 15 (by decide); (conv => lhs; simp [execOp, go_sem, hc, e15, kc w hC])) ?_
                  refine w_is (fun w => Below.refl _ w) _ (.inl rfl) (fun ρ w hC hc hfn hf => by have e16 : ρ (.tmp 16) = _ := hf 16 (by decide); (conv => lhs; simp [execOp, go_sem, hc, e16, g1])) ?_
                  refine w_is (fun w => Below.refl _ w) _ (.inl rfl) (fun ρ w hC hc hfn hf => by have e17 : ρ (.tmp 17) = _ := hf 17 (by decide); (conv => lhs; simp [execOp, go_sem, hc, e17])) ?_
                  refine w_is (fun w => Below.refl _ w) _ (.inr ⟨3, 18, false, rfl, rfl, known_is rfl⟩) (fun ρ w hC hc hfn hf => by have e4 : ρ (.tmp 4) = _ := hf 4 (by decide); (conv => lhs; simp [execOp, go_sem, hc, e4])) ?_
                  refine w_is (fun w => Below.refl _ w) _ (.inr ⟨3, 18, false, rfl, rfl, known_is rfl⟩) (fun ρ w hC hc hfn hf => by have e19 : ρ (.tmp 19) = _ := hf 19 (by decide); (conv => lhs; simp [execOp, go_sem, hc, e19, kc w hC])) ?_
                  refine w_is (fun w => Below.refl _ w) _ (.inr ⟨3, 18, false, rfl, rfl, known_is rfl⟩) (fun ρ w hC hc hfn hf => by have e20 : ρ (.tmp 20) = _ := hf 20 (by decide); (conv => lhs; simp [execOp, go_sem, hc, e20, g2])) ?_
                  refine w_is (fun w => Below.refl _ w) _ (.inl rfl) (fun ρ w hC hc hfn hf => by have e18 : ρ (.tmp 18) = _ := hf 18 (by decide); have e21 : ρ (.tmp 21) = _ := hf 21 (by decide); (conv => lhs; simp [execOp, go_sem, hc, e18, e21])) ?_
                  refine w_is (fun w => Below.refl _ w) _ (.inl rfl) (fun ρ w hC hc hfn hf => by have e22 : ρ (.tmp 22) = _ := hf 22 (by decide); (conv => lhs; simp [execOp, go_sem, hc, e22])) ?_
                  refine w_is (fun w => Below.refl _ w) _ (.inr ⟨8, 23, false, rfl, rfl, known_is rfl⟩) (fun ρ w hC hc hfn hf => by have e3 : ρ (.tmp 3) = _ := hf 3 (by decide); (conv => lhs; simp [execOp, go_sem, hc, e3])) ?_
                  refine w_is (fun w => Below.refl _ w) _ (.inr ⟨8, 23, false, rfl, rfl, known_is rfl⟩) (fun ρ w hC hc hfn hf => by have e24 : ρ (.tmp 24) = _ := hf 24 (by decide); (conv => lhs; simp [execOp, go_sem, hc, e24, h0])) ?_
                  refine w_is (fun w => Below.refl _ w) _ (.inr ⟨8, 23, false, rfl, rfl, known_is rfl⟩) (fun ρ w hC hc hfn hf => by have e25 : ρ (.tmp 25) = _ := hf 25 (by decide); (conv => lhs; simp [execOp, go_sem, hc, e25])) ?_
                  refine w_is (fun w => Below.refl _ w) _ (.inr ⟨11, 26, true, rfl, rfl, known_is rfl⟩) (fun ρ w hC hc hfn hf => by have e0 : ρ (.tmp 0) = _ := hf 0 (by decide); (conv => lhs; simp [execOp, go_sem, hc, e0])) ?_
                  refine w_is (fun w => Below.refl _ w) _ (.inr ⟨11, 26, true, rfl, rfl, known_is rfl⟩) (fun ρ w hC hc hfn hf => by have e3 : ρ (.tmp 3) = _ := hf 3 (by decide); (conv => lhs; simp [execOp, go_sem, hc, e3])) ?_
                  refine w_is (fun w => Below.refl _ w) _ (.inr ⟨11, 26, true, rfl, rfl, known_is rfl⟩) (fun ρ w hC hc hfn hf => by have e28 : ρ (.tmp 28) = _ := hf 28 (by decide); (conv => lhs; simp [execOp, go_sem, hc, e28, w1_])) ?_
                  refine w_is (fun w => Below.refl _ w) _ (.inr ⟨11, 26, true, rfl, rfl, known_is rfl⟩) (fun ρ w hC hc hfn hf => by have e27 : ρ (.tmp 27) = _ := hf 27 (by decide); have e29 : ρ (.tmp 29) = _ := hf 29 (by decide); (conv => lhs; simp [execOp, go_sem, hc, e27, e29, w1_, w2_, w3_, w4_, w5_, w6_])) ?_
                  refine w_is (fun w => Below.refl _ w) _ (.inr ⟨11, 26, true, rfl, rfl, known_is rfl⟩) (fun ρ w hC hc hfn hf => by have e30 : ρ (.tmp 30) = _ := hf 30 (by decide); (conv => lhs; simp [execOp, go_sem, hc, e30])) ?_
                  refine w_is (fun w => Below.refl _ w) _ (.inr ⟨11, 26, true, rfl, rfl, known_is rfl⟩) (fun ρ w hC hc hfn hf => by have e31 : ρ (.tmp 31) = _ := hf 31 (by decide); (conv => lhs; simp [execOp, go_sem, hc, e31, kc w hC])) ?_
                  refine w_is (fun w => Below.refl _ w) _ (.inr ⟨11, 26, true, rfl, rfl, known_is rfl⟩) (fun ρ w hC hc hfn hf => by have e4 : ρ (.tmp 4) = _ := hf 4 (by decide); (conv => lhs; simp [execOp, go_sem, hc, e4])) ?_
                  refine w_is (fun w => Below.refl _ w) _ (.inr ⟨11, 26, true, rfl, rfl, known_is rfl⟩) (fun ρ w hC hc hfn hf => by have e33 : ρ (.tmp 33) = _ := hf 33 (by decide); (conv => lhs; simp [execOp, go_sem, hc, e33, kc w hC])) ?_
                  refine w_is (fun w => Below.refl _ w) _ (.inr ⟨11, 26, true, rfl, rfl, known_is rfl⟩) (fun ρ w hC hc hfn hf => by have e32 : ρ (.tmp 32) = _ := hf 32 (by decide); have e34 : ρ (.tmp 34) = _ := hf 34 (by decide); (conv => lhs; simp [execOp, go_sem, hc, e32, e34, g3])) ?_
                  refine w_is (fun w => Below.refl _ w) _ (.inr ⟨8, 23, false, rfl, rfl, known_is rfl⟩) (fun ρ w hC hc hfn hf => by have e26 : ρ (.tmp 26) = _ := hf 26 (by decide); have e35 : ρ (.tmp 35) = _ := hf 35 (by decide); (conv => lhs; simp [execOp, go_sem, hc, e26, e35])) ?_
                  refine w_is (fun w => Below.refl _ w) _ (.inl rfl) (fun ρ w hC hc hfn hf => by have e23 : ρ (.tmp 23) = _ := hf 23 (by decide); have e36 : ρ (.tmp 36) = _ := hf 36 (by decide); (conv => lhs; simp [execOp, go_sem, hc, e23, e36])) ?_
                  refine w_is (fun w => Below.refl _ w) _ (.inl rfl) (fun ρ w hC hc hfn hf => by have e37 : ρ (.tmp 37) = _ := hf 37 (by decide); (conv => lhs; simp [execOp, go_sem, hc, e37])) ?_
                  refine w_is (fun w => Below.refl _ w) _ (.inr ⟨23, 38, false, rfl, rfl, known_is rfl⟩) (fun ρ w hC hc hfn hf => by have e4 : ρ (.tmp 4) = _ := hf 4 (by decide); (conv => lhs; simp [execOp, go_sem, hc, e4])) ?_
                  refine w_is (fun w => Below.refl _ w) _ (.inr ⟨23, 38, false, rfl, rfl, known_is rfl⟩) (fun ρ w hC hc hfn hf => by have e39 : ρ (.tmp 39) = _ := hf 39 (by decide); (conv => lhs; simp [execOp, go_sem, hc, e39, kc w hC])) ?_
                  refine w_call (Is _) (fun _ _ _ h _ => h) 36 (.inr ⟨23, 38, false, rfl, rfl, known_is rfl⟩) (fun ρ w hC hc hfn hf => by have e40 : ρ (.tmp 40) = _ := hf 40 (by decide); exact ⟨_, by (conv => lhs; simp [execOp, resolve, invoke, go_sem, hc, hfn, e40]), tc_below hC (cE w)⟩) ?_
                  refine w_is (fun w => Below.refl _ w) _ (.inr ⟨23, 38, false, rfl, rfl, known_is rfl⟩) (fun ρ w hC hc hfn hf => by have e41 : ρ (.tmp 41) = _ := hf 41 (by decide); (conv => lhs; simp [execOp, go_sem, hc, e41])) ?_
                  refine w_is (fun w => Below.refl _ w) _ (.inl rfl) (fun ρ w hC hc hfn hf => by have e38 : ρ (.tmp 38) = _ := hf 38 (by decide); have e42 : ρ (.tmp 42) = _ := hf 42 (by decide); (conv => lhs; simp [execOp, go_sem, hc, e38, e42])) ?_
                  refine w_is (fun w => Below.refl _ w) _ (.inl rfl) (fun ρ w hC hc hfn hf => by have e43 : ρ (.tmp 43) = _ := hf 43 (by decide); (conv => lhs; simp [execOp, go_sem, hc, e43])) ?_
                  refine w_is (fun w => Below.refl _ w) _ (.inr ⟨29, 44, false, rfl, rfl, known_is rfl⟩) (fun ρ w hC hc hfn hf => by have e4 : ρ (.tmp 4) = _ := hf 4 (by decide); (conv => lhs; simp [execOp, go_sem, hc, e4])) ?_
                  refine w_is (fun w => Below.refl _ w) _ (.inr ⟨29, 44, false, rfl, rfl, known_is rfl⟩) (fun ρ w hC hc hfn hf => by have e45 : ρ (.tmp 45) = _ := hf 45 (by decide); (conv => lhs; simp [execOp, go_sem, hc, e45])) ?_
                  refine w_is (fun w => Below.refl _ w) _ (.inr ⟨29, 44, false, rfl, rfl, known_is rfl⟩) (fun ρ w hC hc hfn hf => by have e46 : ρ (.tmp 46) = _ := hf 46 (by decide); (conv => lhs; simp [execOp, go_sem, hc, e46, kc w hC])) ?_
                  refine w_is (fun w => Below.refl _ w) _ (.inr ⟨29, 44, false, rfl, rfl, known_is rfl⟩) (fun ρ w hC hc hfn hf => by have e4 : ρ (.tmp 4) = _ := hf 4 (by decide); (conv => lhs; simp [execOp, go_sem, hc, e4])) ?_
                  refine w_is (fun w => Below.refl _ w) _ (.inr ⟨29, 44, false, rfl, rfl, known_is rfl⟩) (fun ρ w hC hc hfn hf => by have e48 : ρ (.tmp 48) = _ := hf 48 (by decide); (conv => lhs; simp [execOp, go_sem, hc, e48, kc w hC])) ?_
                  refine w_is (fun w => Below.refl _ w) _ (.inr ⟨29, 44, false, rfl, rfl, known_is rfl⟩) (fun ρ w hC hc hfn hf => by have e47 : ρ (.tmp 47) = _ := hf 47 (by decide); have e49 : ρ (.tmp 49) = _ := hf 49 (by decide); (conv => lhs; simp [execOp, go_sem, hc, e47, e49, g5])) ?_
                  refine w_is (fun w => Below.refl _ w) _ (.inl rfl) (fun ρ w hC hc hfn hf => by have e44 : ρ (.tmp 44) = _ := hf 44 (by decide); have e50 : ρ (.tmp 50) = _ := hf 50 (by decide); (conv => lhs; simp [execOp, go_sem, hc, e44, e50])) ?_
                  intro A V5 hC hn hd hf
                  have y0 : A.eval (.tmp 0) = _ := Eq.trans (hf 0) (by conv => lhs; simp [go_sem])
                  have y1 : A.eval (.tmp 1) = _ := Eq.trans (hf 1) (by conv => lhs; simp [go_sem])
                  have y2 : A.eval (.tmp 2) = _ := Eq.trans (hf 2) (by conv => lhs; simp [go_sem])
                  have y3 : A.eval (.tmp 3) = _ := Eq.trans (hf 3) (by conv => lhs; simp [go_sem])
                  have y4 : A.eval (.tmp 4) = _ := Eq.trans (hf 4) (by conv => lhs; simp [go_sem])
                  have y5 : A.eval (.tmp 5) = _ := Eq.trans (hf 5) (by conv => lhs; simp [go_sem])
                  have y6 : A.eval (.tmp 6) = _ := Eq.trans (hf 6) (by conv => lhs; simp [go_sem])
                  have y7 : A.eval (.tmp 7) = _ := Eq.trans (hf 7) (by conv => lhs; simp [go_sem])
                  have y8 : A.eval (.tmp 8) = _ := Eq.trans (hf 8) (by conv => lhs; simp [go_sem])
                  have y9 : A.eval (.tmp 9) = _ := Eq.trans (hf 9) (by conv => lhs; simp [go_sem])
                  have y10 : A.eval (.tmp 10) = _ := Eq.trans (hf 10) (by conv => lhs; simp [go_sem])
                  have y11 : A.eval (.tmp 11) = _ := Eq.trans (hf 11) (by conv => lhs; simp [go_sem])
                  have y12 : A.eval (.tmp 12) = _ := Eq.trans (hf 12) (by conv => lhs; simp [go_sem])
                  have y13 : A.eval (.tmp 13) = _ := Eq.trans (hf 13) (by conv => lhs; simp [go_sem])
                  have y14 : A.eval (.tmp 14) = _ := Eq.trans (hf 14) (by conv => lhs; simp [go_sem])
                  have y15 : A.eval (.tmp 15) = _ := hf 15
                  have y16 : A.eval (.tmp 16) = _ := hf 16
                  have y17 : A.eval (.tmp 17) = _ := hf 17
                  have y18 : A.eval (.tmp 18) = _ := hf 18
                  have y19 : A.eval (.tmp 19) = _ := hf 19
                  have y20 : A.eval (.tmp 20) = _ := hf 20
                  have y21 : A.eval (.tmp 21) = _ := hf 21
                  have y22 : A.eval (.tmp 22) = _ := hf 22
                  have y23 : A.eval (.tmp 23) = _ := hf 23
                  have y24 : A.eval (.tmp 24) = _ := hf 24
                  have y25 : A.eval (.tmp 25) = _ := hf 25
                  have y26 : A.eval (.tmp 26) = _ := hf 26
                  have y27 : A.eval (.tmp 27) = _ := hf 27
                  have y28 : A.eval (.tmp 28) = _ := hf 28
                  have y29 : A.eval (.tmp 29) = _ := hf 29
                  have y30 : A.eval (.tmp 30) = _ := hf 30
                  have y31 : A.eval (.tmp 31) = _ := hf 31
                  have y32 : A.eval (.tmp 32) = _ := hf 32
                  have y33 : A.eval (.tmp 33) = _ := hf 33
                  have y34 : A.eval (.tmp 34) = _ := hf 34
                  have y35 : A.eval (.tmp 35) = _ := hf 35
                  have y36 : A.eval (.tmp 36) = _ := hf 36
                  have y37 : A.eval (.tmp 37) = _ := hf 37
                  have y38 : A.eval (.tmp 38) = _ := hf 38
                  have y39 : A.eval (.tmp 39) = _ := hf 39
                  have y40 : A.eval (.tmp 40) = _ := hf 40
                  have y41 : A.eval (.tmp 41) = _ := hf 41
                  have y42 : A.eval (.tmp 42) = _ := hf 42
                  have y43 : A.eval (.tmp 43) = _ := hf 43
                  have y44 : A.eval (.tmp 44) = _ := hf 44
                  have y45 : A.eval (.tmp 45) = _ := hf 45
                  have y46 : A.eval (.tmp 46) = _ := hf 46
                  have y47 : A.eval (.tmp 47) = _ := hf 47
                  have y48 : A.eval (.tmp 48) = _ := hf 48
                  have y49 : A.eval (.tmp 49) = _ := hf 49
                  have y50 : A.eval (.tmp 50) = _ := hf 50
                  have y51 : A.eval (.tmp 51) = _ := hf 51
                  clear hf
                  have hA := frame_eq hn
                  rw [show List.range 52 = [0, 1, 2, 3, 4, 5, 6, 7, 8, 9, 10, 11, 12, 13, 14, 15, 16, 17, 18, 19, 20, 21, 22, 23, 24, 25, 26, 27, 28, 29, 30, 31, 32, 33, 34, 35, 36, 37, 38, 39, 40, 41, 42, 43, 44, 45, 46, 47, 48, 49, 50, 51] from rfl, hd] at hA
                  simp only [List.map_cons, List.map_nil, y0, y1, y2, y3, y4, y5, y6, y7, y8, y9, y10, y11, y12, y13, y14, y15, y16, y17, y18, y19, y20, y21, y22, y23, y24, y25, y26, y27, y28, y29, y30, y31, y32, y33, y34, y35, y36, y37, y38, y39, y40, y41, y42, y43, y44, y45, y46, y47, y48, y49, y50, y51] at hA
                  clear y0 y1 y2 y3 y4 y5 y6 y7 y8 y9 y10 y11 y12 y13 y14 y15 y16 y17 y18 y19 y20 y21 y22 y23 y24 y25 y26 y27 y28 y29 y30 y31 y32 y33 y34 y35 y36 y37 y38 y39 y40 y41 y42 y43 y44 y45 y46 y47 y48 y49 y50 y51
                  clear hn hd
                  subst hA
                  go_wp2_with fail
                  go_ret
                  rw [HN.out (fun h => HG.out (HAT.out.1 h).2.2.2)]
                  exact ⟨rfl, HBV.out.trans (hC.mono HBV.out.size)⟩
              · have cE := fun W => rright_any y.2.1 y.2.2.1 y.2.2.2.1 y.2.2.2.2.1 y.2.2.2.2.2.1 y.2.2.2.2.2.2 W
                rw [decide_eq_false (show ¬ HtOk y.2.1 y.2.2.1 y.2.2.2.1 y.2.2.2.2.1 y.2.2.2.2.2.1 y.2.2.2.2.2.2 from g4)] at cE
                have HG := Lib.hid g4
                clear g4
                refine wp_region_typed (C := fun w' => Below V.heap.size V w') (X := fun w w' => Below w.heap.size w w') (n := 52) (by kernel_rfl) (by kernel_rfl) rfl (fun w => Below.refl _ w) (Below.refl _ _).drew ?_
                refine w_is (fun w => Below.refl _ w) _ (.inl rfl) (fun ρ w hC hc hfn hf => by have e4 : ρ (.tmp 4) = _ := hf 4 (by decide); (conv => lhs; simp [execOp, go_sem, hc, e4])) ?_
                refine w_is (fun w => Below.refl _ w) _ (.inl rfl) (fun ρ w hC hc hfn hf => by have e15 : ρ (.tmp 15) = _ := hf 15 (by decide); (conv => lhs; simp [execOp, go_sem, hc, e15, kc w hC])) ?_
                refine w_is (fun w => Below.refl _ w) _ (.inl rfl) (fun ρ w hC hc hfn hf => by have e16 : ρ (.tmp 16) = _ := hf 16 (by decide); (conv => lhs; simp [execOp, go_sem, hc, e16, g1])) ?_
                refine w_is (fun w => Below.refl _ w) _ (.inl rfl) (fun ρ w hC hc hfn hf => by have e17 : ρ (.tmp 17) = _ := hf 17 (by decide); (conv => lhs; simp [execOp, go_sem, hc, e17])) ?_
                refine w_is (fun w => Below.refl _ w) _ (.inr ⟨3, 18, false, rfl, rfl, known_is rfl⟩) (fun ρ w hC hc hfn hf => by have e4 : ρ (.tmp 4) = _ := hf 4 (by decide); (conv => lhs; simp [execOp, go_sem, hc, e4])) ?_
                refine w_is (fun w => Below.refl _ w) _ (.inr ⟨3, 18, false, rfl, rfl, known_is rfl⟩) (fun ρ w hC hc hfn hf => by have e19 : ρ (.tmp 19) = _ := hf 19 (by decide); (conv => lhs; simp [execOp, go_sem, hc, e19, kc w hC])) ?_
                refine w_is (fun w => Below.refl _ w) _ (.inr ⟨3, 18, false, rfl, rfl, known_is rfl⟩) (fun ρ w hC hc hfn hf => by have e20 : ρ (.tmp 20) = _ := hf 20 (by decide); (conv => lhs; simp [execOp, go_sem, hc, e20, g2])) ?_
                refine w_is (fun w => Below.refl _ w) _ (.inl rfl) (fun ρ w hC hc hfn hf => by have e18 : ρ (.tmp 18) = _ := hf 18 (by decide); have e21 : ρ (.tmp 21) = _ := hf 21 (by decide); (conv => lhs; simp [execOp, go_sem, hc, e18, e21])) ?_
                refine w_is (fun w => Below.refl _ w) _ (.inl rfl) (fun ρ w hC hc hfn hf => by have e22 : ρ (.tmp 22) = _ := hf 22 (by decide); (conv => lhs; simp [execOp, go_sem, hc, e22])) ?_
                refine w_is (fun w => Below.refl _ w) _ (.inr ⟨8, 23, false, rfl, rfl, known_is rfl⟩) (fun ρ w hC hc hfn hf => by have e3 : ρ (.tmp 3) = _ := hf 3 (by decide); (conv => lhs; simp [execOp, go_sem, hc, e3])) ?_
                refine w_is (fun w => Below.refl _ w) _ (.inr ⟨8, 23, false, rfl, rfl, known_is rfl⟩) (fun ρ w hC hc hfn hf => by have e24 : ρ (.tmp 24) = _ := hf 24 (by decide); (conv => lhs; simp [execOp, go_sem, hc, e24, h0])) ?_
                refine w_is (fun w => Below.refl _ w) _ (.inr ⟨8, 23, false, rfl, rfl, known_is rfl⟩) (fun ρ w hC hc hfn hf => by have e25 : ρ (.tmp 25) = _ := hf 25 (by decide); (conv => lhs; simp [execOp, go_sem, hc, e25])) ?_
                refine w_is (fun w => Below.refl _ w) _ (.inr ⟨11, 26, true, rfl, rfl, known_is rfl⟩) (fun ρ w hC hc hfn hf => by have e0 : ρ (.tmp 0) = _ := hf 0 (by decide); (conv => lhs; simp [execOp, go_sem, hc, e0])) ?_
                refine w_is (fun w => Below.refl _ w) _ (.inr ⟨11, 26, true, rfl, rfl, known_is rfl⟩) (fun ρ w hC hc hfn hf => by have e3 : ρ (.tmp 3) = _ := hf 3 (by decide); (conv => lhs; simp [execOp, go_sem, hc, e3])) ?_
                refine w_is (fun w => Below.refl _ w) _ (.inr ⟨11, 26, true, rfl, rfl, known_is rfl⟩) (fun ρ w hC hc hfn hf => by have e28 : ρ (.tmp 28) = _ := hf 28 (by decide); (conv => lhs; simp [execOp, go_sem, hc, e28, w1_])) ?_
                refine w_is (fun w => Below.refl _ w) _ (.inr ⟨11, 26, true, rfl, rfl, known_is rfl⟩) (fun ρ w hC hc hfn hf => by have e27 : ρ (.tmp 27) = _ := hf 27 (by decide); have e29 : ρ (.tmp 29) = _ := hf 29 (by decide); (conv => lhs; simp [execOp, go_sem, hc, e27, e29, w1_, w2_, w3_, w4_, w5_, w6_])) ?_
                refine w_is (fun w => Below.refl _ w) _ (.inr ⟨11, 26, true, rfl, rfl, known_is rfl⟩) (fun ρ w hC hc hfn hf => by have e30 : ρ (.tmp 30) = _ := hf 30 (by decide); (conv => lhs; simp [execOp, go_sem, hc, e30])) ?_
                refine w_is (fun w => Below.refl _ w) _ (.inr ⟨11, 26, true, rfl, rfl, known_is rfl⟩) (fun ρ w hC hc hfn hf => by have e31 : ρ (.tmp 31) = _ := hf 31 (by decide); (conv => lhs; simp [execOp, go_sem, hc, e31, kc w hC])) ?_
                refine w_is (fun w => Below.refl _ w) _ (.inr ⟨11, 26, true, rfl, rfl, known_is rfl⟩) (fun ρ w hC hc hfn hf => by have e4 : ρ (.tmp 4) = _ := hf 4 (by decide); (conv => lhs; simp [execOp, go_sem, hc, e4])) ?_
                refine w_is (fun w => Below.refl _ w) _ (.inr ⟨11, 26, true, rfl, rfl, known_is rfl⟩) (fun ρ w hC hc hfn hf => by have e33 : ρ (.tmp 33) = _ := hf 33 (by decide); (conv => lhs; simp [execOp, go_sem, hc, e33, kc w hC])) ?_
                refine w_is (fun w => Below.refl _ w) _ (.inr ⟨11, 26, true, rfl, rfl, known_is rfl⟩) (fun ρ w hC hc hfn hf => by have e32 : ρ (.tmp 32) = _ := hf 32 (by decide); have e34 : ρ (.tmp 34) = _ := hf 34 (by decide); (conv => lhs; simp [execOp, go_sem, hc, e32, e34, g3])) ?_
                refine w_is (fun w => Below.refl _ w) _ (.inr ⟨8, 23, false, rfl, rfl, known_is rfl⟩) (fun ρ w hC hc hfn hf => by have e26 : ρ (.tmp 26) = _ := hf 26 (by decide); have e35 : ρ (.tmp 35) = _ := hf 35 (by decide); (conv => lhs; simp [execOp, go_sem, hc, e26, e35])) ?_
                refine w_is (fun w => Below.refl _ w) _ (.inl rfl) (fun ρ w hC hc hfn hf => by have e23 : ρ (.tmp 23) = _ := hf 23 (by decide); have e36 : ρ (.tmp 36) = _ := hf 36 (by decide); (conv => lhs; simp [execOp, go_sem, hc, e23, e36])) ?_
                refine w_is (fun w => Below.refl _ w) _ (.inl rfl) (fun ρ w hC hc hfn hf => by have e37 : ρ (.tmp 37) = _ := hf 37 (by decide); (conv => lhs; simp [execOp, go_sem, hc, e37])) ?_
                refine w_is (fun w => Below.refl _ w) _ (.inr ⟨23, 38, false, rfl, rfl, known_is rfl⟩) (fun ρ w hC hc hfn hf => by have e4 : ρ (.tmp 4) = _ := hf 4 (by decide); (conv => lhs; simp [execOp, go_sem, hc, e4])) ?_
                refine w_is (fun w => Below.refl _ w) _ (.inr ⟨23, 38, false, rfl, rfl, known_is rfl⟩) (fun ρ w hC hc hfn hf => by have e39 : ρ (.tmp 39) = _ := hf 39 (by decide); (conv => lhs; simp [execOp, go_sem, hc, e39, kc w hC])) ?_
                refine w_call (Is _) (fun _ _ _ h _ => h) 36 (.inr ⟨23, 38, false, rfl, rfl, known_is rfl⟩) (fun ρ w hC hc hfn hf => by have e40 : ρ (.tmp 40) = _ := hf 40 (by decide); exact ⟨_, by (conv => lhs; simp [execOp, resolve, invoke, go_sem, hc, hfn, e40]), tc_below hC (cE w)⟩) ?_
                refine w_is (fun w => Below.refl _ w) _ (.inr ⟨23, 38, false, rfl, rfl, known_is rfl⟩) (fun ρ w hC hc hfn hf => by have e41 : ρ (.tmp 41) = _ := hf 41 (by decide); (conv => lhs; simp [execOp, go_sem, hc, e41])) ?_
                refine w_is (fun w => Below.refl _ w) _ (.inl rfl) (fun ρ w hC hc hfn hf => by have e38 : ρ (.tmp 38) = _ := hf 38 (by decide); have e42 : ρ (.tmp 42) = _ := hf 42 (by decide); (conv => lhs; simp [execOp, go_sem, hc, e38, e42])) ?_
                refine w_is (fun w => Below.refl _ w) _ (.inl rfl) (fun ρ w hC hc hfn hf => by have e43 : ρ (.tmp 43) = _ := hf 43 (by decide); (conv => lhs; simp [execOp, go_sem, hc, e43])) ?_
                refine w_skip rfl rfl (known_is rfl) ?_
                refine w_skip rfl rfl (known_is rfl) ?_
                refine w_skip rfl rfl (known_is rfl) ?_
                refine w_skip rfl rfl (known_is rfl) ?_
                refine w_skip rfl rfl (known_is rfl) ?_
                refine w_skip rfl rfl (known_is rfl) ?_
                refine w_is (fun w => Below.refl _ w) _ (.inl rfl) (fun ρ w hC hc hfn hf => by have e44 : ρ (.tmp 44) = _ := hf 44 (by decide); have e50 : ρ (.tmp 50) = _ := hf 50 (by decide); (conv => lhs; simp [execOp, go_sem, hc, e44, e50])) ?_
                intro A V5 hC hn hd hf
                have y0 : A.eval (.tmp 0) = _ := Eq.trans (hf 0) (by conv => lhs; simp [go_sem])
                have y1 : A.eval (.tmp 1) = _ := Eq.trans (hf 1) (by conv => lhs; simp [go_sem])
                have y2 : A.eval (.tmp 2) = _ := Eq.trans (hf 2) (by conv => lhs; simp [go_sem])
                have y3 : A.eval (.tmp 3) = _ := Eq.trans (hf 3) (by conv => lhs; simp [go_sem])
                have y4 : A.eval (.tmp 4) = _ := Eq.trans (hf 4) (by conv => lhs; simp [go_sem])
                have y5 : A.eval (.tmp 5) = _ := Eq.trans (hf 5) (by conv => lhs; simp [go_sem])
                have y6 : A.eval (.tmp 6) = _ := Eq.trans (hf 6) (by conv => lhs; simp [go_sem])
                have y7 : A.eval (.tmp 7) = _ := Eq.trans (hf 7) (by conv => lhs; simp [go_sem])
                have y8 : A.eval (.tmp 8) = _ := Eq.trans (hf 8) (by conv => lhs; simp [go_sem])
                have y9 : A.eval (.tmp 9) = _ := Eq.trans (hf 9) (by conv => lhs; simp [go_sem])
                have y10 : A.eval (.tmp 10) = _ := Eq.trans (hf 10) (by conv => lhs; simp [go_sem])
                have y11 : A.eval (.tmp 11) = _ := Eq.trans (hf 11) (by conv => lhs; simp [go_sem])
                have y12 : A.eval (.tmp 12) = _ := Eq.trans (hf 12) (by conv => lhs; simp [go_sem])
                have y13 : A.eval (.tmp 13) = _ := Eq.trans (hf 13) (by conv => lhs; simp [go_sem])
                have y14 : A.eval (.tmp 14) = _ := Eq.trans (hf 14) (by conv => lhs; simp [go_sem])
                have y15 : A.eval (.tmp 15) = _ := hf 15
                have y16 : A.eval (.tmp 16) = _ := hf 16
                have y17 : A.eval (.tmp 17) = _ := hf 17
                have y18 : A.eval (.tmp 18) = _ := hf 18
                have y19 : A.eval (.tmp 19) = _ := hf 19
                have y20 : A.eval (.tmp 20) = _ := hf 20
                have y21 : A.eval (.tmp 21) = _ := hf 21
                have y22 : A.eval (.tmp 22) = _ := hf 22
                have y23 : A.eval (.tmp 23) = _ := hf 23
                have y24 : A.eval (.tmp 24) = _ := hf 24
                have y25 : A.eval (.tmp 25) = _ := hf 25
                have y26 : A.eval (.tmp 26) = _ := hf 26
                have y27 : A.eval (.tmp 27) = _ := hf 27
                have y28 : A.eval (.tmp 28) = _ := hf 28
                have y29 : A.eval (.tmp 29) = _ := hf 29
                have y30 : A.eval (.tmp 30) = _ := hf 30
                have y31 : A.eval (.tmp 31) = _ := hf 31
                have y32 : A.eval (.tmp 32) = _ := hf 32
                have y33 : A.eval (.tmp 33) = _ := hf 33
                have y34 : A.eval (.tmp 34) = _ := hf 34
                have y35 : A.eval (.tmp 35) = _ := hf 35
                have y36 : A.eval (.tmp 36) = _ := hf 36
                have y37 : A.eval (.tmp 37) = _ := hf 37
                have y38 : A.eval (.tmp 38) = _ := hf 38
                have y39 : A.eval (.tmp 39) = _ := hf 39
                have y40 : A.eval (.tmp 40) = _ := hf 40
                have y41 : A.eval (.tmp 41) = _ := hf 41
                have y42 : A.eval (.tmp 42) = _ := hf 42
                have y43 : A.eval (.tmp 43) = _ := hf 43
                have y44 : A.eval (.tmp 44) = _ := hf 44
                have y45 : A.eval (.tmp 45) = _ := hf 45
                have y46 : A.eval (.tmp 46) = _ := hf 46
                have y47 : A.eval (.tmp 47) = _ := hf 47
                have y48 : A.eval (.tmp 48) = _ := hf 48
                have y49 : A.eval (.tmp 49) = _ := hf 49
                have y50 : A.eval (.tmp 50) = _ := hf 50
                have y51 : A.eval (.tmp 51) = _ := hf 51
                clear hf
                have hA := frame_eq hn
                rw [show List.range 52 = [0, 1, 2, 3, 4, 5, 6, 7, 8, 9, 10, 11, 12, 13, 14, 15, 16, 17, 18, 19, 20, 21, 22, 23, 24, 25, 26, 27, 28, 29, 30, 31, 32, 33, 34, 35, 36, 37, 38, 39, 40, 41, 42, 43, 44, 45, 46, 47, 48, 49, 50, 51] from rfl, hd] at hA
                simp only [List.map_cons, List.map_nil, y0, y1, y2, y3, y4, y5, y6, y7, y8, y9, y10, y11, y12, y13, y14, y15, y16, y17, y18, y19, y20, y21, y22, y23, y24, y25, y26, y27, y28, y29, y30, y31, y32, y33, y34, y35, y36, y37, y38, y39, y40, y41, y42, y43, y44, y45, y46, y47, y48, y49, y50, y51] at hA
                clear y0 y1 y2 y3 y4 y5 y6 y7 y8 y9 y10 y11 y12 y13 y14 y15 y16 y17 y18 y19 y20 y21 y22 y23 y24 y25 y26 y27 y28 y29 y30 y31 y32 y33 y34 y35 y36 y37 y38 y39 y40 y41 y42 y43 y44 y45 y46 y47 y48 y49 y50 y51
                clear hn hd
                subst hA
                go_wp2_with fail
                go_ret
                rw [HN.out (fun h => HG.out (HAT.out.1 h).2.2.1)]
                exact ⟨rfl, HBV.out.trans (hC.mono HBV.out.size)⟩
    · obtain rfl : k = l.length := by omega
      go_wp2_with fail
      go_ret
      rw [decide_eq_true (show VOk l from HO.out)]
      exact ⟨rfl, HW.out⟩
end Go.Proofs.Ytahhhegknmiinaa
