/- Texts Aq4, Tk3, Tk4 of this proof, in one. No conditions but on lengths. -/
import Derived.Test.YtdigjklhfimnbaaGreatU51
import Derived.Test.YtdigjklhfimnbaaGreatRows
import Derived.Test.YtdigjklhfimnbaaGreatU27
import Derived.Test.YtdigjklhfimnbaaGreatU29
import Derived.ArgAppend
import Derived.Below
import Derived.BigQuiet
import Derived.Calls
import Derived.ChangeArms
import Derived.ChangeMade
import Derived.ChangeOld
import Derived.Deep.Cut
import Derived.Deep.CutBlock
import Derived.Deep.QuietTactic
import Derived.Deep.RegionHeld
import Derived.Deep.RegionLaw
import Derived.Deep.RegionWith
import Derived.Deep.Slices
import Derived.Laws.AppendOwnNone
import Derived.Laws.BitsLemmas
import Derived.Laws.BytesArg
import Derived.Laws.LoneSync
import Derived.Laws.OwnMore
import Derived.Laws.StructEq
import Derived.Lib.Hide
import Derived.Lib.QuietBelow
import Derived.Lib.SliceRun
import Derived.LoopIn
import Derived.LoopTactic
import Derived.Maps.AppendAt
import Derived.OpenShut
import Derived.Orders
import Derived.Outline
import Derived.OwnWalkIn
import Derived.ProofKit
import Derived.RangeFuncBox
import Derived.RangeFuncCalls
import Derived.RangeFuncLeaves
import Derived.RangeFuncNested
import Derived.Shelf.RegionOpen
import Derived.Shelf.RegionOpenPlain
import Derived.ShutString
import Derived.StillTail
import Derived.TacticsInMore
import Derived.WalkKit
import Derived.WalkLawsBesides
import Derived.WalkSpells
import Derived.WideShapes
namespace Go.Proofs.YtdigjklhfimnbaaGreat
set_option maxRecDepth 100000
open Go.RowKit

theorem mk_tb (x : Int) (cs : List Int) (i : Nat) : (mk x cs 16).toNat.testBit i = (decide (i < 16) && hit x cs i) := by
  have hb := mk_bd x cs 16
  rw [pow2_16] at hb
  rcases Nat.lt_or_ge i 16 with h | h
  · have h1 := mk_bit x cs 16 i h
    rw [pow2_eq] at h1
    obtain ⟨a, ha⟩ := Int.eq_ofNat_of_zero_le hb.1
    rw [ha] at h1 ⊢
    rw [Int.toNat_natCast, Nat.testBit_eq_decide_div_mod_eq, decide_eq_true h, Bool.true_and]
    have h2 : a / 2 ^ i % 2 = 1 ↔ hit x cs i = true := by rw [← h1]; exact ⟨fun e => by exact_mod_cast e, fun e => by exact_mod_cast e⟩
    cases hq : hit x cs i with
    | true => exact decide_eq_true (h2.2 hq)
    | false => exact decide_eq_false fun e => by rw [h2.1 e] at hq; cases hq
  · rw [decide_eq_false (by omega), Bool.false_and]
    refine Nat.testBit_lt_two_pow ?_
    have : (2 : Nat) ^ 16 ≤ 2 ^ i := Nat.pow_le_pow_right (by decide) h
    have h3 : (2 : Nat) ^ 16 = 65536 := by decide
    omega
theorem bitF_tb (k : Int) (i : Nat) : (bitF k).toNat.testBit i = (decide (i < 16) && decide (k = (i : Int) + 1)) := by
  unfold bitF
  split
  · rename_i h
    rw [pow2_eq, Int.toNat_natCast, Nat.testBit_two_pow]
    by_cases h1 : k = (i : Int) + 1
    · rw [decide_eq_true (show (k - 1).toNat = i by omega), decide_eq_true h1, decide_eq_true (show i < 16 by omega)]; rfl
    · rw [decide_eq_false (show ¬ (k - 1).toNat = i by omega), decide_eq_false h1, Bool.and_false]
  · rename_i h
    rw [Int.toNat_zero, Nat.zero_testBit]
    by_cases h1 : k = (i : Int) + 1
    · rw [decide_eq_false (show ¬ i < 16 by omega), Bool.false_and]
    · rw [decide_eq_false h1, Bool.and_false]
theorem bitF_bd (k : Int) : 0 ≤ bitF k ∧ bitF k ≤ 65536 := by
  unfold bitF
  split
  · have := pow2_pos (k - 1).toNat; have := pow2_small (n := (k - 1).toNat) (by omega); omega
  · omega
/-- One more that came. -/
theorem or_mk (x c : Int) (cs : List Int) : bits .or .i64 (mk x cs 16) (bitF (far x c)) = mk x (cs ++ [c]) 16 := by
  have h1 := mk_bd x cs 16
  have h2 := bitF_bd (far x c)
  have h3 := mk_bd x (cs ++ [c]) 16
  rw [pow2_16] at h1 h3
  have e1 : mk x cs 16 = ((mk x cs 16).toNat : Int) := by omega
  have e2 : bitF (far x c) = ((bitF (far x c)).toNat : Int) := by omega
  have h62 : (2 : Nat) ^ 62 = 4611686018427387904 := by decide
  rw [e1, e2, (bits_nat .i64 62 (by decide) wr62 _ _ (by omega) (by omega)).2]
  have e3 : mk x (cs ++ [c]) 16 = ((mk x (cs ++ [c]) 16).toNat : Int) := by omega
  rw [e3]
  congr 1
  apply Nat.eq_of_testBit_eq
  intro i
  rw [Nat.testBit_or, mk_tb, bitF_tb, mk_tb, ← Bool.and_or_distrib_left]
  congr 1
  unfold hit
  rw [List.any_append]
  congr 1
  rw [Bool.eq_iff_iff]; simp
set_option maxHeartbeats 32000000 in
theorem akof_ok (x : Int) (v : Value) (cs : List Int) (w : World) (hx : 0 ≤ x ∧ x ≤ 65535) (hv : Zs w v cs) (hl : cs.length ≤ 1000) :
    Calls Tryz.prog 204 #[.int .i64 x, v] w fun e w' => e = .returned (.tuple #[.agg #[.int .i64 0, .int .i64 0, .int .i64 x, .int .i64 (mk x cs 16)], .int .i64 0]) ∧ Below w.heap.size w w' := by
  have HV := Lib.hid hv
  obtain ⟨a, c, rfl, -, -, -⟩ := Zs_open hv
  clear hv
  have HS := Lib.hid ((shB_iff x).2 hx)
  go_enter Tryz.func204, Tryz.ntmps204
  go_wp2_with fail
  refine (akshort_any x _).mono ?_
  rintro e w1 ⟨rfl, hw⟩
  subst hw
  rw [HS.out]
  go_wp2_with fail
  obtain ⟨V, hVe⟩ : ∃ V, (w.alloc (.cells #[.int .i64 0, .int .i64 0, .int .i64 0, .int .i64 0] 212)).alloc (.cells #[.int .i64 0, .int .i64 0, .int .i64 x, .int .i64 0] 212) = V := ⟨_, rfl⟩
  have hs1 : (w.alloc (.cells #[.int .i64 0, .int .i64 0, .int .i64 0, .int .i64 0] 212)).heap.size = w.heap.size + 1 := by simp
  have hb1 : Below w.heap.size w (w.alloc (.cells #[.int .i64 0, .int .i64 0, .int .i64 0, .int .i64 0] 212)) := (Below.refl _ w).alloc (Nat.le_refl _) _
  have OA := owna_alloc (w.alloc (.cells #[.int .i64 0, .int .i64 0, .int .i64 0, .int .i64 0] 212)) 0 0 x 0 212 (w.heap.size + 1) hs1.symm
  have OR := (owna_alloc w 0 0 0 0 212 w.heap.size rfl).below ((Below.refl _ _).alloc (Nat.le_refl _) (.cells #[.int .i64 0, .int .i64 0, .int .i64 x, .int .i64 0] 212))
  have HB : Below w.heap.size w ((w.alloc (.cells #[.int .i64 0, .int .i64 0, .int .i64 0, .int .i64 0] 212)).alloc (.cells #[.int .i64 0, .int .i64 0, .int .i64 x, .int .i64 0] 212)) := hb1.alloc (by omega) _
  rw [hVe] at OA OR HB
  rw [hVe]
  clear hVe hs1 hb1
  have OA0 := Lib.hid OA
  have OR0 := Lib.hid OR
  have HB0 := Lib.hid HB
  clear OA OR HB
  go_loopw [20] (fun i wr => ∃ j : Nat, j ≤ cs.length ∧ i = .int .i64 (j : Int) ∧ OwnA wr (w.heap.size + 1) (0, 0, x, mk x (cs.take j) 16) ∧ OwnA wr w.heap.size (0, 0, 0, 0) ∧ Below w.heap.size w wr) (fun i _ => cs.length - (intOf i).toNat)
  case atStart => exact ⟨0, Nat.zero_le _, rfl, OA0.out, OR0.out, HB0.out⟩
  case round =>
    obtain ⟨j, hj, rfl, oa, or, hbel⟩ := hrel
    have OA := Lib.hid oa
    have OR := Lib.hid or
    have HW := Lib.hid hbel
    clear oa or hbel OA0 OR0 HB0
    by_cases hlj : j < cs.length
    · have HZ := Lib.hid (Zs_below HV.out HW.out)
      obtain ⟨a', c', hv1, -, -, hcs⟩ := Zs_open HZ.out
      simp only [Value.slice.injEq] at hv1
      obtain ⟨rfl, -, rfl⟩ := hv1
      obtain ⟨b, off, rfl, p0⟩ := hcs j hlj
      clear hcs
      obtain ⟨y, hy⟩ : ∃ y, cs.getD j 0 = y := ⟨_, rfl⟩
      rw [hy] at p0
      have HT : Hid (mk x (cs.take (j + 1)) 16 = bits .or .i64 (mk x (cs.take j) 16) (bitF (far x y))) := by
        show _ = _
        rw [or_mk, List.take_succ_eq_append_getElem hlj, ← hy]
        simp [List.getD, hlj]
      have cB := fun W => akbit_any x y W
      obtain ⟨m, hm⟩ : ∃ m, mk x (cs.take j) 16 = m := ⟨_, rfl⟩
      rw [hm] at HT OA
      generalize bitF (far x y) = B at *
      obtain ⟨M, hM⟩ : ∃ M, bits .or .i64 m B = M := ⟨_, rfl⟩
      rw [hM] at HT
      clear hy hm
      go_wp2_with fail
      clear p0
      have kc : ∀ w', Below wr.heap.size wr w' → w'.cell? ⟨w.heap.size + 1, 3, none⟩ = some (.int .i64 m) := fun w' h => (OA.out.below h).1.2.2.2
      refine T3.wp_region_tail (C := fun w' => Below wr.heap.size wr w') (X := fun _ w w' => Below w.heap.size w w') (n := 33) 7 (by kernel_rfl) (by kernel_rfl) (by kernel_rfl) (by kernel_rfl) rfl (fun _ w => Below.refl _ w) (Below.refl _ _).drew ?_
      simp only [List.take_succ_cons, List.take_zero, List.drop_succ_cons, List.drop_zero]
      refine T3.w_is (fun _ w => Below.refl _ w) rfl _ (.inl rfl) (fun ρ w hC hc hfn hf => by have e6 : ρ (.tmp 6) = _ := hf 6 (by decide); (conv => lhs; simp [execOp, go_sem, hc, e6])) ?_
      refine T3.w_is (fun _ w => Below.refl _ w) rfl _ (.inl rfl) (fun ρ w hC hc hfn hf => by have e24 : ρ (.tmp 24) = _ := hf 24 (by decide); (conv => lhs; simp [execOp, go_sem, hc, e24, kc w hC])) ?_
      refine T3.w_is (fun _ w => Below.refl _ w) rfl _ (.inl rfl) (fun ρ w hC hc hfn hf => by have e7 : ρ (.tmp 7) = _ := hf 7 (by decide); (conv => lhs; simp [execOp, go_sem, hc, e7])) ?_
      refine T3.w_is (fun _ w => Below.refl _ w) rfl _ (.inl rfl) (fun ρ w hC hc hfn hf => by have e9 : ρ (.tmp 9) = _ := hf 9 (by decide); (conv => lhs; simp [execOp, go_sem, hc, e9])) ?_
      refine T3.w_call rfl (Is _) (fun _ _ _ _ _ h _ => h) 196 (.inl rfl) (fun ρ w hC hc hfn hf => by have e26 : ρ (.tmp 26) = _ := hf 26 (by decide); have e27 : ρ (.tmp 27) = _ := hf 27 (by decide); exact ⟨_, by (conv => lhs; simp [execOp, resolve, invoke, go_sem, hc, hfn, e26, e27]), (cB w).mono fun e w' h => ⟨_, h.1, hC.trans (h.2.mono hC.size), h.2, rfl⟩⟩) ?_
      refine T3.w_is (fun _ w => Below.refl _ w) rfl _ (.inl rfl) (fun ρ w hC hc hfn hf => by have e25 : ρ (.tmp 25) = _ := hf 25 (by decide); have e28 : ρ (.tmp 28) = _ := hf 28 (by decide); (conv => lhs; simp [execOp, go_sem, hc, e25, e28, hM])) ?_
      refine T3.w_is (fun _ w => Below.refl _ w) rfl _ (.inl rfl) (fun ρ w hC hc hfn hf => by have e6 : ρ (.tmp 6) = _ := hf 6 (by decide); (conv => lhs; simp [execOp, go_sem, hc, e6])) ?_
      intro A V5 hC hn hd hf
      have y0 : A.eval (.tmp 0) = _ := Eq.trans (hf 0) (by conv => lhs; simp [go_sem])
      have y1 : A.eval (.tmp 1) = _ := Eq.trans (hf 1) (by conv => lhs; simp [go_sem])
      have y2 : A.eval (.tmp 2) = _ := Eq.trans (hf 2) (by conv => lhs; simp [go_sem])
      have y3 : A.eval (.tmp 3) = _ := Eq.trans (hf 3) (by conv => lhs; simp [go_sem])
      have y4 : A.eval (.tmp 4) = _ := Eq.trans (hf 4) (by conv => lhs; simp [go_sem])
      have y5 : A.eval (.tmp 5) = _ := Eq.trans (hf 5) (by conv => lhs; simp [go_sem])
      have y6 : A.eval (.tmp 6) = _ := Eq.trans (hf 6) (by conv => lhs; simp [go_sem])
      have y7 : A.eval (.tmp 7) = _ := Eq.trans (hf 7) (by conv => lhs; simp [go_sem])
      have y8 : A.eval (.tmp 8) = _ := Eq.trans (hf 8) (by conv => lhs; simp [go_sem])
      have y9 : A.eval (.tmp 9) = _ := Eq.trans (hf 9) (by conv => lhs; simp [go_sem])
      have y10 : A.eval (.tmp 10) = _ := Eq.trans (hf 10) (by conv => lhs; simp [go_sem])
      have y11 : A.eval (.tmp 11) = _ := Eq.trans (hf 11) (by conv => lhs; simp [go_sem])
      have y12 : A.eval (.tmp 12) = _ := Eq.trans (hf 12) (by conv => lhs; simp [go_sem])
      have y13 : A.eval (.tmp 13) = _ := Eq.trans (hf 13) (by conv => lhs; simp [go_sem])
      have y14 : A.eval (.tmp 14) = _ := Eq.trans (hf 14) (by conv => lhs; simp [go_sem])
      have y15 : A.eval (.tmp 15) = _ := Eq.trans (hf 15) (by conv => lhs; simp [go_sem])
      have y16 : A.eval (.tmp 16) = _ := Eq.trans (hf 16) (by conv => lhs; simp [go_sem])
      have y17 : A.eval (.tmp 17) = _ := Eq.trans (hf 17) (by conv => lhs; simp [go_sem])
      have y18 : A.eval (.tmp 18) = _ := Eq.trans (hf 18) (by conv => lhs; simp [go_sem])
      have y19 : A.eval (.tmp 19) = _ := Eq.trans (hf 19) (by conv => lhs; simp [go_sem])
      have y20 : A.eval (.tmp 20) = _ := Eq.trans (hf 20) (by conv => lhs; simp [go_sem])
      have y21 : A.eval (.tmp 21) = _ := Eq.trans (hf 21) (by conv => lhs; simp [go_sem])
      have y22 : A.eval (.tmp 22) = _ := Eq.trans (hf 22) (by conv => lhs; simp [go_sem])
      have y23 : A.eval (.tmp 23) = _ := Eq.trans (hf 23) (by conv => lhs; simp [go_sem])
      have y24 : A.eval (.tmp 24) = _ := hf 24
      have y25 : A.eval (.tmp 25) = _ := hf 25
      have y26 : A.eval (.tmp 26) = _ := hf 26
      have y27 : A.eval (.tmp 27) = _ := hf 27
      have y28 : A.eval (.tmp 28) = _ := hf 28
      have y29 : A.eval (.tmp 29) = _ := hf 29
      have y30 : A.eval (.tmp 30) = _ := hf 30
      have y31 : A.eval (.tmp 31) = _ := Eq.trans (hf 31) (by conv => lhs; simp [go_sem])
      have y32 : A.eval (.tmp 32) = _ := Eq.trans (hf 32) (by conv => lhs; simp [go_sem])
      clear hf
      have hA := frame_eq hn
      rw [show List.range 33 = [0, 1, 2, 3, 4, 5, 6, 7, 8, 9, 10, 11, 12, 13, 14, 15, 16, 17, 18, 19, 20, 21, 22, 23, 24, 25, 26, 27, 28, 29, 30, 31, 32] from rfl, hd] at hA
      simp only [List.map_cons, List.map_nil, y0, y1, y2, y3, y4, y5, y6, y7, y8, y9, y10, y11, y12, y13, y14, y15, y16, y17, y18, y19, y20, y21, y22, y23, y24, y25, y26, y27, y28, y29, y30, y31, y32] at hA
      clear y0 y1 y2 y3 y4 y5 y6 y7 y8 y9 y10 y11 y12 y13 y14 y15 y16 y17 y18 y19 y20 y21 y22 y23 y24 y25 y26 y27 y28 y29 y30 y31 y32
      clear hn hd
      subst hA
      have OA1 := Lib.hid (OA.out.below hC)
      have OR1 := Lib.hid (OR.out.below hC)
      have HW1 : Hid (Below w.heap.size w V5) := HW.out.trans (hC.mono HW.out.size)
      obtain ⟨⟨z0, z1, z2, z3⟩, zf⟩ := OA1.out
      go_wp2_with fail
      go_roundw
      case rel => exact ⟨j + 1, by omega, by go_num, by rw [HT.out]; exact OA1.out.set3 _, OR1.out.apart (by omega) 3, HW1.out.setCell (p := ⟨_, _, _⟩) (by simp) _⟩
      case measure => simp [intOf]; omega
    · obtain rfl : j = cs.length := by omega
      rw [List.take_length] at OA
      obtain ⟨⟨z0, z1, z2, z3⟩, zf⟩ := OR.out
      obtain ⟨⟨y0, y1, y2, y3⟩, yf⟩ := OA.out
      go_wp2_with fail
      have hs := (OR.out.set 0 0 x (mk x cs 16)).1
      have hbs := bel_put4 (b := w.heap.size) HW.out (Nat.le_refl _) 0 0 x (mk x cs 16)
      simp only [put4] at hs hbs
      generalize (((wr.setCell ⟨w.heap.size, 0, none⟩ (.int .i64 0)).setCell ⟨w.heap.size, 1, none⟩ (.int .i64 0)).setCell ⟨w.heap.size, 2, none⟩ (.int .i64 x)).setCell ⟨w.heap.size, 3, none⟩ (.int .i64 (mk x cs 16)) = W5 at *
      obtain ⟨s0_, s1_, s2_, s3_⟩ := hs
      exact bodyPost_ret (v := .tuple #[.agg #[.int .i64 0, .int .i64 0, .int .i64 x, .int .i64 (mk x cs 16)], .int .i64 0]) (by simp [results, Tryz.results204, go_sem, s0_, s1_, s2_, s3_]) rfl ⟨rfl, hbs⟩
end Go.Proofs.YtdigjklhfimnbaaGreat
namespace Go.Proofs.YtdigjklhfimnbaaGreat
set_option maxRecDepth 100000
set_option linter.unusedVariables false

/-- What came: told, or held. -/
def Came (t : Tk) (n : Int) : Prop := n < t.nx ∨ n ∈ nums t.H
/-- A play: Bs is all that was ever sent, by its numbers. -/
structure Play (s : Sd) (t : Tk) (Bs : List Bt) (pushed : List Ob) : Prop where
  sok : SdOk s
  tok : TkOk t
  few : Bs.length ≤ 20000
  num : ∀ i (h : i < Bs.length), Bs[i].1 = (i : Int)
  bok : ∀ x ∈ Bs, BtOk x.1 x.2
  snx : s.nx = Bs.length
  tnx : t.nx ≤ Bs.length
  out : ∀ e ∈ s.L, e.1 ∈ Bs
  held : ∀ h ∈ t.H, h ∈ Bs
  gone : ∀ x ∈ Bs, Came t x.1 ∨ x ∈ s.out
  all : (Bs.map Prod.snd).flatten ++ s.W = pushed
def toldP (t : Tk) (Bs : List Bt) : List Ob := ((Bs.take t.nx.toNat).map Prod.snd).flatten
/-- An ack that was told some time. -/
structure AckP (a : Ak) (t : Tk) : Prop where
  one : AkOne a
  rng : 0 ≤ a.2.2.1 ∧ a.2.2.1 ≤ t.nx
  has : ∀ n : Int, 0 ≤ n → n < 20000 → hasN a.2.2.1 a.2.2.2 n = true → Came t n
theorem numAt_flat {n : Int} (hn : 0 ≤ n) : ∀ i : Nat, n + i ≤ 65535 → numAt n i = n + i
  | 0, _ => by show n = n + 0; omega
  | i + 1, h => by
    rw [numAt_succ, numAt_flat hn i (by omega)]
    unfold nxt
    omega
theorem far_up {a b : Int} (ha : 0 ≤ a) (hab : a ≤ b) (hb : b ≤ 65535) : far a b = b - a := by unfold far; omega
theorem far_down {a b : Int} (hb : 0 ≤ b) (hab : b < a) (ha : a ≤ 65535) : far a b = 65536 - (a - b) := by unfold far; omega
section
variable {s : Sd} {t : Tk} {Bs : List Bt} {pushed : List Ob}
theorem Play.idx (h : Play s t Bs pushed) {x : Bt} (hx : x ∈ Bs) : ∃ i, ∃ hi : i < Bs.length, Bs[i] = x ∧ x.1 = (i : Int) := by
  obtain ⟨i, hi, rfl⟩ := List.mem_iff_getElem.1 hx
  exact ⟨i, hi, rfl, h.num i hi⟩
theorem Play.uniq (h : Play s t Bs pushed) {x y : Bt} (hx : x ∈ Bs) (hy : y ∈ Bs) (e : x.1 = y.1) : x = y := by
  obtain ⟨i, hi, rfl, h1⟩ := h.idx hx
  obtain ⟨j, hj, rfl, h2⟩ := h.idx hy
  have : i = j := by omega
  subst this
  rfl
theorem Play.push (h : Play s t Bs pushed) (y : Ob) : Play (pushR s y).2 t Bs (if (pushR s y).1 = 0 then pushed ++ [y] else pushed) := by
  by_cases hok : y.Ok
  · by_cases hf : 1024 ≤ s.W.length
    · rw [pushR_full hok hf]
      exact h
    · have h9 := sdok_push h.sok y
      rw [pushR_ok hok hf] at h9 ⊢
      refine ⟨h9, h.tok, h.few, h.num, h.bok, h.snx, h.tnx, h.out, h.held, h.gone, ?_⟩
      show _ ++ (s.W ++ [y]) = pushed ++ [y]
      rw [← List.append_assoc, h.all]
  · rw [pushR_no hok]
    exact h
theorem Play.send (h : Play s t Bs pushed) (hl : Bs.length + (sdT s).length ≤ 20000) : Play (sdS s) t (Bs ++ sdT s) pushed := by
  have hn : ∀ i, i < (sdT s).length → ((sdT s).getD i zb).1 = ((Bs.length + i : Nat) : Int) := fun i hi => by
    rw [sdT_num h.sok i hi, h.snx, numAt_flat (by omega) i (by omega)]
    omega
  have hmo : ∀ x, x ∈ (sdS s).out ↔ x ∈ s.out ∨ x ∈ sdT s := fun x => by
    have e : (sdS s).out = s.out ++ sdT s := by
      unfold Sd.out sdS
      rw [List.map_append, List.map_map]
      congr 1
      exact List.map_id _
    rw [e, List.mem_append]
  refine ⟨sdok_send h.sok, h.tok, by rw [List.length_append]; exact hl, fun i hi => ?_, fun x hx => ?_, ?_, by rw [List.length_append]; have := h.tnx; omega, fun e he => ?_, fun y hy => List.mem_append_left _ (h.held y hy), fun x hx => ?_, ?_⟩
  · rw [List.length_append] at hi
    by_cases h1 : i < Bs.length
    · rw [List.getElem_append_left h1]
      exact h.num i h1
    · rw [List.getElem_append_right (by omega)]
      have h2 := hn (i - Bs.length) (by omega)
      have e : (sdT s).getD (i - Bs.length) zb = (sdT s)[i - Bs.length]'(by omega) := by simp [List.getD, show i - Bs.length < (sdT s).length by omega]
      rw [e] at h2
      rw [h2]
      omega
  · rcases List.mem_append.1 hx with h1 | h1
    · exact h.bok x h1
    · obtain ⟨i, hi, rfl⟩ := List.mem_iff_getElem.1 h1
      have h2 := (stk_len h.sok hi).1
      have e : (sdT s).getD i zb = (sdT s)[i] := by simp [List.getD, hi]
      rw [e] at h2
      exact h2
  · show nxA s.nx (sdT s) = _
    unfold nxA
    rw [h.snx, numAt_flat (by omega) _ (by omega), List.length_append]
    omega
  · have h1 : e.1 ∈ (sdS s).out := List.mem_map.2 ⟨e, he, rfl⟩
    rcases (hmo _).1 h1 with h2 | h2
    · obtain ⟨e', h3, h4⟩ := List.mem_map.1 h2
      rw [← h4]
      exact List.mem_append_left _ (h.out e' h3)
    · exact List.mem_append_right _ h2
  · rcases List.mem_append.1 hx with h1 | h1
    · exact (h.gone x h1).imp (fun e => e) (fun e => (hmo x).2 (.inl e))
    · exact .inr ((hmo x).2 (.inr h1))
  · rw [List.map_append, List.flatten_append, List.append_assoc, send_all]
    exact h.all
theorem told_send (h : Play s t Bs pushed) (l : List Bt) : toldP t (Bs ++ l) = toldP t Bs := by
  unfold toldP
  have h1 := h.tnx
  have h2 := h.tok.nx
  rw [List.take_append_of_le_length (by omega)]
/-- What is acked came. -/
theorem Play.got (h : Play s t Bs pushed) {a : Ak} (ha : AckP a t) : Play (gtS s a) t Bs pushed := by
  have hw := gt_W s a
  have hsub : ∀ e ∈ (gtS s a).L, e ∈ s.L := fun e he => by
    unfold gtS at he
    by_cases hg : gtB s a
    · rw [if_pos hg] at he
      exact (List.mem_filter.1 he).1
    · rw [if_neg hg] at he; exact he
  refine ⟨sdok_got h.sok a, h.tok, h.few, h.num, h.bok, by rw [hw.2]; exact h.snx, h.tnx, fun e he => h.out e (hsub e he), h.held, fun x hx => ?_, by rw [hw.1]; exact h.all⟩
  rcases h.gone x hx with h1 | h1
  · exact .inl h1
  · obtain ⟨e, he, rfl⟩ := List.mem_map.1 h1
    by_cases hg : gtB s a
    · rw [gtS_yes hg]
      by_cases hk : kpt a e = true
      · exact .inr (List.mem_map.2 ⟨e, List.mem_filter.2 ⟨he, hk⟩, rfl⟩)
      · refine .inl ?_
        obtain ⟨i, hi, _, h3⟩ := h.idx hx
        have h4 := h.few
        exact ha.has e.1.1 (by omega) (by omega) (by unfold kpt at hk; simpa using hk)
    · rw [gtS_no hg]; exact .inr h1
/-- The first one that is out is not behind next. -/
theorem Play.first (h : Play s t Bs pushed) {x : Bt} (hx : x ∈ s.out) (hn : t.nx < Bs.length) : x.1 ≤ t.nx + 15 := by
  have h0 := h.tok.nx
  have hi : t.nx.toNat < Bs.length := by omega
  obtain ⟨z, hz⟩ : ∃ z, Bs[t.nx.toNat] = z := ⟨_, rfl⟩
  have hz1 : z.1 = t.nx := by rw [← hz, h.num _ hi]; omega
  have hzm : z ∈ Bs := hz ▸ List.getElem_mem hi
  have hzo : z ∈ s.out := by
    rcases h.gone z hzm with (h1 | h1) | h1
    · omega
    · obtain ⟨y, hy, e⟩ := List.mem_map.1 h1
      have h2 := (h.tok.near y hy).1
      rw [e, hz1, far_self] at h2
      omega
    · exact h1
  obtain ⟨ez, h1, rfl⟩ := List.mem_map.1 hzo
  obtain ⟨ex, h2, rfl⟩ := List.mem_map.1 hx
  have hw := h.sok.win
  have hf := h.few
  have g1 := h.sok.inw ex h2
  have g2 := h.sok.below ez h1
  have g3 := h.sok.below ex h2
  obtain ⟨i1, j1, _, k1⟩ := h.idx (h.out ez h1)
  obtain ⟨i2, j2, _, k2⟩ := h.idx (h.out ex h2)
  -- the first one is among what was sent
  obtain ⟨f0, hf0, e0⟩ : ∃ f0 ∈ s.L, fstN s = f0.1.1 := by
    cases hL : s.L with
    | nil => rw [hL] at h1; exact absurd h1 List.not_mem_nil
    | cons c l => exact ⟨c, List.mem_cons_self, by unfold fstN; rw [hL]⟩
  obtain ⟨i3, j3, _, k3⟩ := h.idx (h.out f0 hf0)
  have g4 := h.sok.inw ez h1
  have hsn := h.snx
  rw [e0] at g1 g2 g3 g4
  rw [k1] at hz1 g2 g4
  rw [k3] at g1 g2 g3 g4
  rw [k2] at g1 g3 ⊢
  rw [hsn] at g2 g3
  unfold far at g1 g2 g3 g4
  omega
end
end Go.Proofs.YtdigjklhfimnbaaGreat
namespace Go.Proofs.YtdigjklhfimnbaaGreat
set_option maxRecDepth 100000
set_option linter.unusedVariables false

/-- The mask of what is held. -/
def mask16 (x : Int) (cs : List Int) : Int := mk x cs 16
section
variable {s : Sd} {t : Tk} {Bs : List Bt} {pushed : List Ob}
theorem mem_nums {H : List Bt} {x : Bt} (h : x ∈ H) : x.1 ∈ nums H := List.mem_map.2 ⟨x, h, rfl⟩
/-- A batch that was sent comes. -/
theorem Play.take (h : Play s t Bs pushed) {x : Bt} (hx : x ∈ Bs) : Play s (takeR t x).2 Bs pushed ∧ toldP (takeR t x).2 Bs = toldP t Bs ++ (takeR t x).1.1 ∧ (∀ n, Came t n → Came (takeR t x).2 n) ∧ t.nx ≤ (takeR t x).2.nx ∧ (x ∈ s.out → Came (takeR t x).2 x.1) := by
  obtain ⟨ix, hix, _, hxi⟩ := h.idx hx
  have hf := h.few
  have hnx := h.tok.nx
  have htn := h.tnx
  by_cases hin : TkIn t x
  · obtain ⟨_, k1, B, k2, k3, k4, k5, k6, k7⟩ := take_ok h.tok hin
    have hl := held_le h.tok
    have hB : ∀ i (hi : i < B.length), B[i] ∈ Bs := fun i hi => by
      rcases (k3 i hi).1 with h1 | h1
      · exact h.held _ h1
      · rw [h1]; exact hx
    have hnum : ∀ i (hi : i < B.length), B[i].1 = t.nx + i := fun i hi => by
      rw [(k3 i hi).2, numAt_flat hnx.1 i (by omega)]
    have hlen : t.nx + B.length ≤ Bs.length := by
      rcases Nat.eq_zero_or_pos B.length with h0 | h0
      · omega
      · have h1 := hnum (B.length - 1) (by omega)
        obtain ⟨j, hj, _, h2⟩ := h.idx (hB (B.length - 1) (by omega))
        omega
    have hnx2 : (takeR t x).2.nx = t.nx + B.length := by rw [k4, numAt_flat hnx.1 _ (by omega)]
    have hBe : B = (Bs.drop t.nx.toNat).take B.length := by
      apply List.ext_getElem
      · rw [List.length_take, List.length_drop]; omega
      · intro i h1 h2
        rw [List.getElem_take, List.getElem_drop]
        refine h.uniq (hB i h1) (List.getElem_mem _) ?_
        rw [hnum i h1, h.num]
        omega
    have hcame : ∀ n, Came t n → Came (takeR t x).2 n := fun n hn => by
      rcases hn with hn | hn
      · exact .inl (by omega)
      · obtain ⟨y, hy, rfl⟩ := List.mem_map.1 hn
        by_cases hyB : y ∈ B
        · obtain ⟨i, hi, rfl⟩ := List.mem_iff_getElem.1 hyB
          exact .inl (by rw [hnum i hi, hnx2]; omega)
        · exact .inr (mem_nums ((k6 y).2 ⟨.inl hy, hyB⟩))
    have hcx : Came (takeR t x).2 x.1 := by
      by_cases hyB : x ∈ B
      · obtain ⟨i, hi, e⟩ := List.mem_iff_getElem.1 hyB
        have h9 := hnum i hi
        rw [e] at h9
        exact .inl (by rw [hnx2]; omega)
      · exact .inr (mem_nums ((k6 x).2 ⟨.inr rfl, hyB⟩))
    refine ⟨⟨h.sok, k1, h.few, h.num, h.bok, h.snx, by rw [hnx2]; exact hlen, h.out, fun y hy => ?_, fun y hy => (h.gone y hy).imp (hcame y.1) (fun e => e), h.all⟩, ?_, hcame, by rw [hnx2]; omega, fun _ => hcx⟩
    · rcases ((k6 y).1 hy).1 with h1 | h1
      · exact h.held y h1
      · rw [h1]; exact hx
    · unfold toldP
      rw [k2, hnx2]
      have e1 : (t.nx + B.length).toNat = t.nx.toNat + B.length := by omega
      rw [e1, List.take_add, List.map_append, List.flatten_append, ← hBe]
  · obtain ⟨e, he, _⟩ := take_no hin
    rw [he]
    refine ⟨h, (List.append_nil _).symm, fun n hn => hn, Int.le_refl _, fun ho => ?_⟩
    -- one that is out and is refused came already
    by_cases h1 : x.1 < t.nx
    · exact .inl h1
    · have h2 : x.1 ≤ t.nx + 15 := h.first ho (by omega)
      have h3 : far t.nx x.1 = x.1 - t.nx := far_up hnx.1 (by omega) (by omega)
      have h4 : ¬ findH t.H x.1 = none := fun h4 => hin ⟨h.bok x hx, by omega, h4⟩
      cases h5 : findH t.H x.1 with
      | none => exact absurd h5 h4
      | some y =>
        obtain ⟨h6, h7⟩ := findH_some h5
        exact .inr (h7 ▸ mem_nums h6)
/-- An ack that is told now. -/
theorem ack_now (h : Play s t Bs pushed) {cs : List Int} (hc : ∀ n, n ∈ cs ↔ n ∈ nums t.H) : AckP (0, 0, t.nx, mask16 t.nx cs) t := by
  have hnx := h.tok.nx
  have hf := h.few
  have htn := h.tnx
  refine ⟨⟨⟨Int.le_refl 0, (show (0 : Int) < 64 by decide)⟩, by show EpOk 0; unfold EpOk; decide, hnx, mk_16 _ _⟩, ⟨hnx.1, Int.le_refl _⟩, fun n h0 h1 hh => ?_⟩
  rcases has_iff.1 hh with h2 | ⟨h2, c, hc1, hc2⟩
  · refine .inl ?_
    show n < t.nx
    have h2' : 1 ≤ far n t.nx ∧ far n t.nx ≤ 32768 := h2
    unfold far at h2'
    omega
  · refine .inr ?_
    have hm := (hc c).1 hc1
    obtain ⟨y, hy, rfl⟩ := List.mem_map.1 hm
    have hr := bt_rng (h.tok.ok y hy)
    have e : y.1 = n := by
      have hc2' : far t.nx y.1 = far t.nx n := hc2
      unfold far at hc2'
      omega
    exact e ▸ hm
/-- All batches of a row come. -/
def takeL : Tk → List Bt → List Ob × Tk
  | t, [] => ([], t)
  | t, x :: l => ((takeR t x).1.1 ++ (takeL (takeR t x).2 l).1, (takeL (takeR t x).2 l).2)
theorem Play.takes : ∀ (l : List Bt) {t : Tk}, Play s t Bs pushed → (∀ x ∈ l, x ∈ Bs) → Play s (takeL t l).2 Bs pushed ∧ toldP (takeL t l).2 Bs = toldP t Bs ++ (takeL t l).1 ∧ (∀ n, Came t n → Came (takeL t l).2 n) ∧ t.nx ≤ (takeL t l).2.nx ∧ (∀ x ∈ l, x ∈ s.out → Came (takeL t l).2 x.1)
  | [], t, h, _ => ⟨h, (List.append_nil _).symm, fun n hn => hn, Int.le_refl _, fun x hx => absurd hx List.not_mem_nil⟩
  | x :: l, t, h, hl => by
    obtain ⟨h1, h2, h3, h4, h5⟩ := h.take (hl x List.mem_cons_self)
    obtain ⟨g1, g2, g3, g4, g5⟩ := Play.takes l h1 (fun y hy => hl y (List.mem_cons_of_mem _ hy))
    refine ⟨g1, ?_, fun n hn => g3 n (h3 n hn), Int.le_trans h4 g4, fun y hy ho => ?_⟩
    · show toldP (takeL (takeR t x).2 l).2 Bs = _
      rw [g2, h2, List.append_assoc]
      rfl
    · rcases List.mem_cons.1 hy with e | hy
      · rw [e]
        exact g3 _ (h5 (e ▸ ho))
      · exact g5 y hy ho
/-- When all that came came: none is held, and all is told. -/
theorem Play.whole (h : Play s t Bs pushed) (hc : ∀ x ∈ Bs, Came t x.1) : t.nx = Bs.length ∧ t.H = [] ∧ toldP t Bs = (Bs.map Prod.snd).flatten := by
  have hnx := h.tok.nx
  have htn := h.tnx
  have hf := h.few
  have e1 : t.nx = Bs.length := by
    rcases Int.lt_or_eq_of_le htn with h1 | h1
    · exfalso
      have hi : t.nx.toNat < Bs.length := by omega
      have hn := h.num t.nx.toNat hi
      rcases hc _ (List.getElem_mem hi) with h2 | h2
      · omega
      · obtain ⟨y, hy, e⟩ := List.mem_map.1 h2
        have h3 := (h.tok.near y hy).1
        have e2 : y.1 = t.nx := by omega
        rw [e2, far_self] at h3
        omega
    · exact h1
  refine ⟨e1, ?_, ?_⟩
  · cases hH : t.H with
    | nil => rfl
    | cons y l =>
      exfalso
      have hy : y ∈ t.H := by rw [hH]; exact List.mem_cons_self
      obtain ⟨i, hi, _, h2⟩ := h.idx (h.held y hy)
      have h3 := h.tok.near y hy
      have h4 := far_down (a := t.nx) (b := y.1) (by omega) (by omega) hnx.2
      omega
  · unfold toldP
    rw [e1, List.take_of_length_le (by omega)]
/-- One round of the end: what is new is sent, all that is out comes, and is told back. -/
theorem Play.round (h : Play s t Bs pushed) (hl : Bs.length + (sdT s).length ≤ 20000) :
    Play (gtS (sdS s) (0, 0, (takeL t (sdS s).out).2.nx, mask16 (takeL t (sdS s).out).2.nx [])) (takeL t (sdS s).out).2 (Bs ++ sdT s) pushed ∧ toldP (takeL t (sdS s).out).2 (Bs ++ sdT s) = toldP t Bs ++ (takeL t (sdS s).out).1 ∧ (gtS (sdS s) (0, 0, (takeL t (sdS s).out).2.nx, mask16 (takeL t (sdS s).out).2.nx [])).L = [] ∧ (takeL t (sdS s).out).2.H = [] ∧ toldP (takeL t (sdS s).out).2 (Bs ++ sdT s) = ((Bs ++ sdT s).map Prod.snd).flatten := by
  have h1 := h.send hl
  have hout : ∀ x ∈ (sdS s).out, x ∈ Bs ++ sdT s := fun x hx => by
    obtain ⟨e, he, rfl⟩ := List.mem_map.1 hx
    exact h1.out e he
  obtain ⟨g1, g2, g3, g4, g5⟩ := Play.takes (sdS s).out h1 hout
  have hall : ∀ x ∈ Bs ++ sdT s, Came (takeL t (sdS s).out).2 x.1 := fun x hx => by
    rcases h1.gone x hx with h2 | h2
    · exact g3 _ h2
    · exact g5 x h2 h2
  obtain ⟨w1, w2, w3⟩ := g1.whole hall
  have ha := ack_now g1 (cs := []) (fun n => by rw [w2]; exact Iff.rfl)
  have g6 := g1.got ha
  refine ⟨g6, by rw [g2, told_send h], ?_, w2, w3⟩
  have hsn := g1.snx
  have hgb : gtB (sdS s) (0, 0, (takeL t (sdS s).out).2.nx, mask16 (takeL t (sdS s).out).2.nx []) := ⟨ha.one, by show far _ (takeL t (sdS s).out).2.nx ≤ far _ _; rw [w1, hsn]; exact Int.le_refl _⟩
  rw [gtS_yes hgb]
  show (sdS s).L.filter _ = []
  rw [List.filter_eq_nil_iff]
  intro e he hk
  obtain ⟨i, hi, _, h2⟩ := g1.idx (h1.out e he)
  have hf := g1.few
  have hn : hasN (takeL t (sdS s).out).2.nx (mask16 (takeL t (sdS s).out).2.nx []) e.1.1 = true := has_iff.2 (.inl (by
    rw [w1, far_up (by omega) (by omega) (by omega)]
    omega))
  unfold kpt at hk
  have hk' : (!hasN (takeL t (sdS s).out).2.nx (mask16 (takeL t (sdS s).out).2.nx []) e.1.1) = true := hk
  rw [hn] at hk'
  cases hk'
end
end Go.Proofs.YtdigjklhfimnbaaGreat
