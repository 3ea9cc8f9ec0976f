/- Texts Pq9, Pq10, Tp6 of this proof, in one. No conditions but on lengths. -/
import Derived.Test.YthnajpckhoomgaaGreatRows
import Derived.Test.YthnajpckhoomgaaGreatU55
import Derived.Test.YthnajpckhoomgaaGreatU38
import Derived.Test.YthnajpckhoomgaaGreatU39
import Derived.ArgAppend
import Derived.Below
import Derived.BigQuiet
import Derived.Calls
import Derived.ChangeAlike
import Derived.ChangeArms
import Derived.ChangeMade
import Derived.ChangeOld
import Derived.Deep.Cut
import Derived.Deep.CutBlock
import Derived.Deep.QuietTactic
import Derived.Deep.RegionHeld
import Derived.Deep.RegionLaw
import Derived.Deep.RegionWith
import Derived.Deep.Slices
import Derived.Defers
import Derived.Ground.GgzProg
import Derived.Ground.Names2Prog
import Derived.Laws.AppendOwnNone
import Derived.Laws.BitsLemmas
import Derived.Laws.BytesArg
import Derived.Laws.LoneSync
import Derived.Laws.OwnMore
import Derived.Laws.Pointers
import Derived.Laws.StructEq
import Derived.Lib.Hide
import Derived.Lib.OwnBridge
import Derived.Lib.QuietBelow
import Derived.Lib.SliceRun
import Derived.Lib.SlicesCompact
import Derived.LoopIn
import Derived.LoopTactic
import Derived.Maps.AppendAt
import Derived.Maps.Own
import Derived.Maps.OwnOps
import Derived.Maps.OwnSet
import Derived.Maps.RangeWalk
import Derived.Maps.Views
import Derived.OpenShut
import Derived.Orders
import Derived.Outline
import Derived.OwnWalkIn
import Derived.ProofKit
import Derived.RangeFuncBox
import Derived.RangeFuncCalls
import Derived.RangeFuncLeaves
import Derived.RangeFuncNested
import Derived.RegionCalls
import Derived.RegionTactic
import Derived.Shelf.RegionOpen
import Derived.Shelf.RegionOpenPlain
import Derived.Shelf.SlIterI.Nil
import Derived.Shelf.Slices.CompactI
import Derived.Shelf.Slices.In.SortNone
import Derived.Shelf.Sort.Plain
import Derived.ShutString
import Derived.Sort.Grow
import Derived.StillTail
import Derived.TacticsInMore
import Derived.WalkKit
import Derived.WalkLawsBesides
import Derived.WalkSpells
import Derived.WideShapes
namespace Go.Proofs.YthnajpckhoomgaaGreat
set_option maxRecDepth 100000
set_option linter.unusedVariables false
open Go.RowKit

set_option maxHeartbeats 4000000 in
theorem gotc_any (g0 p : Nat) (i q x m n : Int) (w : World) (ha : Cells4a w g0 0 (i, q, x, m)) (hp : w.cell? ⟨p, 0, none⟩ = some (.int .i64 n)) :
    Calls Tryz.prog 125 #[ptr p, .pointer (some ⟨g0, 0, none⟩)] w fun e w' => e = .returned (.bool (decide (AkOne (i, q, x, m)) && hasN x m n)) ∧ Below w.heap.size w w' := by
  have hpl := World.block_lt_of_cell? w _ hp
  have kc : ∀ w', Below w.heap.size w w' → (w'.cell? ⟨g0, 0, none⟩ = some (.int .i64 i) ∧ w'.cell? ⟨g0, 1, none⟩ = some (.int .i64 q) ∧ w'.cell? ⟨g0, 2, none⟩ = some (.int .i64 x) ∧ w'.cell? ⟨g0, 3, none⟩ = some (.int .i64 m)) ∧ w'.cell? ⟨p, 0, none⟩ = some (.int .i64 n) := fun w' h => by
    have h4 := ha.below h
    simp only [Cells4a, Nat.zero_add] at h4
    exact ⟨h4, (h.cell (p := ⟨p, 0, none⟩) hpl).trans hp⟩
  clear ha hp hpl
  go_enter Tryz.func125, Tryz.ntmps125
  go_upto_region 1 with (fail)
  refine T3.wp_region_tail (C := fun w' => Below w.heap.size w w') (X := fun _ w w' => Below w.heap.size w w') (n := 11) 7 (by kernel_rfl) (by kernel_rfl) (by kernel_rfl) (by kernel_rfl) rfl (fun _ w => Below.refl _ w) (Below.refl _ _).drew ?_
  simp only [List.take_succ_cons, List.take_zero, List.drop_succ_cons, List.drop_zero]
  refine T3.w_is (fun _ w => Below.refl _ w) rfl _ (.inl rfl) (fun ρ w hC hc hfn hf => by have e1 : ρ (.tmp 1) = _ := hf 1 (by decide); (conv => lhs; simp [execOp, go_sem, hc, e1, kc w hC])) ?_
  refine T3.w_is (fun _ w => Below.refl _ w) rfl _ (.inl rfl) (fun ρ w hC hc hfn hf => by have e0 : ρ (.tmp 0) = _ := hf 0 (by decide); (conv => lhs; simp [execOp, go_sem, hc, e0])) ?_
  refine T3.w_is (fun _ w => Below.refl _ w) rfl _ (.inl rfl) (fun ρ w hC hc hfn hf => by have e5 : ρ (.tmp 5) = _ := hf 5 (by decide); (conv => lhs; simp [execOp, go_sem, hc, e5])) ?_
  refine T3.w_is (fun _ w => Below.refl _ w) rfl _ (.inl rfl) (fun ρ w hC hc hfn hf => by have e6 : ρ (.tmp 6) = _ := hf 6 (by decide); (conv => lhs; simp [execOp, go_sem, hc, e6])) ?_
  refine T3.w_is (fun _ w => Below.refl _ w) rfl _ (.inl rfl) (fun ρ w hC hc hfn hf => by have e7 : ρ (.tmp 7) = _ := hf 7 (by decide); (conv => lhs; simp [execOp, go_sem, hc, e7])) ?_
  refine T3.w_is (fun _ w => Below.refl _ w) rfl _ (.inl rfl) (fun ρ w hC hc hfn hf => by have e8 : ρ (.tmp 8) = _ := hf 8 (by decide); (conv => lhs; simp [execOp, go_sem, hc, e8, kc w hC])) ?_
  refine T3.w_call rfl (Is _) (fun _ _ _ _ _ h _ => h) 126 (.inl rfl) (fun ρ w hC hc hfn hf => by have e4 : ρ (.tmp 4) = _ := hf 4 (by decide); have e9 : ρ (.tmp 9) = _ := hf 9 (by decide); exact ⟨_, by (conv => lhs; simp [execOp, resolve, invoke, go_sem, hc, hfn, e4, e9]), (has_fix i q x m n w).mono fun e w' h => ⟨_, h.1, hC.trans (h.2.mono hC.size), h.2, rfl⟩⟩) ?_
  intro A V5 hC hn hd hf
  have y0 : A.eval (.tmp 0) = _ := Eq.trans (hf 0) (by conv => lhs; simp [go_sem])
  have y1 : A.eval (.tmp 1) = _ := Eq.trans (hf 1) (by conv => lhs; simp [go_sem])
  have y2 : A.eval (.tmp 2) = _ := Eq.trans (hf 2) (by conv => lhs; simp [go_sem])
  have y3 : A.eval (.tmp 3) = _ := Eq.trans (hf 3) (by conv => lhs; simp [go_sem])
  have y4 : A.eval (.tmp 4) = _ := hf 4
  have y5 : A.eval (.tmp 5) = _ := hf 5
  have y6 : A.eval (.tmp 6) = _ := hf 6
  have y7 : A.eval (.tmp 7) = _ := hf 7
  have y8 : A.eval (.tmp 8) = _ := hf 8
  have y9 : A.eval (.tmp 9) = _ := hf 9
  have y10 : A.eval (.tmp 10) = _ := hf 10
  clear hf
  have hA := frame_eq hn
  rw [show List.range 11 = [0, 1, 2, 3, 4, 5, 6, 7, 8, 9, 10] from rfl, hd] at hA
  simp only [List.map_cons, List.map_nil, y0, y1, y2, y3, y4, y5, y6, y7, y8, y9, y10] at hA
  clear y0 y1 y2 y3 y4 y5 y6 y7 y8 y9 y10
  clear hn hd
  subst hA
  have HC := Lib.hid hC
  clear kc hC
  go_wp2_with fail
  go_ret
  exact ⟨rfl, HC.out⟩
/-- What a closure tells of what lies at the pointers of Z, in whatever world in which only the row has turned. -/
def Tells (g0 g : Nat) (hit : Nat × Bt × Int → Bool) (Z : Zs1) (w0 : World) : Prop := ∀ z ∈ Z, ∀ W, Chg (fun k => k = g) w0 W → Calls Tryz.prog 125 #[ptr z.1, .pointer (some ⟨g0, 0, none⟩)] W fun e W' => e = .returned (.bool (hit z)) ∧ Below W.heap.size W W'
theorem row_pt {w : World} {g cap n : Nat} {ps : List Nat} (h : OwP w (.slice (some ⟨g, 0, none⟩) n cap) ps) {k p : Nat} (hk : ps[k]? = some p) : w.cell? ⟨g, k, none⟩ = some (ptr p) ∧ w.frozen? ⟨g, k, none⟩ = false := by
  obtain ⟨hk', rfl⟩ := List.getElem?_eq_some_iff.1 hk
  have hn : n = ps.length := by
    obtain ⟨a, c, e⟩ := own_form h
    simp only [Value.slice.injEq] at e
    exact e.2.1
  subst hn
  have h' : OwP w (.slice (some ⟨g, 0, none⟩) ps.length cap) ps := h
  obtain ⟨b, off, h1, h2, h3⟩ := pt_at (Gs_of_own (R := RPT) h').1 (i := k) hk'
  simp only [Option.some.injEq, Addr.mk.injEq, and_true] at h1
  obtain ⟨rfl, rfl⟩ := h1
  rw [Nat.zero_add] at h3
  have e : ps.getD k 0 = ps[k] := by simp [List.getD, hk']
  rw [e] at h3
  exact ⟨h3, World.ownsRow.frozenAt h k⟩
set_option maxHeartbeats 8000000 in
theorem idxf_any (g0 g cap : Nat) (hit : Nat × Bt × Int → Bool) (Z : Zs1) (w0 w : World) (hT : Tells g0 g hit Z w0) (hc : Chg (fun k => k = g) w0 w) (h : OwP w (.slice (some ⟨g, 0, none⟩) Z.length cap) (Z.map Prod.fst)) (hl : Z.length ≤ 1000) :
    Calls Tryz.prog 155 #[.slice (some ⟨g, 0, none⟩) Z.length cap, .func (.func 125) #[] #[.pointer (some ⟨g0, 0, none⟩)]] w fun e w' => ((∃ (k : Nat) (z : Nat × Bt × Int), Z[k]? = some z ∧ hit z = true ∧ (∀ (i : Nat) (y : Nat × Bt × Int), i < k → Z[i]? = some y → hit y = false) ∧ e = .returned (.int .i64 k)) ∨ ((∀ (i : Nat) (y : Nat × Bt × Int), Z[i]? = some y → hit y = false) ∧ e = .returned (.int .i64 (-1)))) ∧ Below w.heap.size w w' := by
  have HT := Lib.hid hT
  have HC := Lib.hid hc
  have HO := Lib.hid h
  clear hT hc h
  go_enter Tryz.func155, Tryz.ntmps155
  go_wp2_with fail
  go_loopw [8] (fun iv wr => ∃ k : Nat, k ≤ Z.length ∧ iv = .int .i64 k ∧ Hid (Below w.heap.size w wr) ∧ Hid (∀ (i : Nat) (y : Nat × Bt × Int), i < k → Z[i]? = some y → hit y = false)) (fun i _ => Z.length - (intOf i).toNat)
  case atStart => exact ⟨0, Nat.zero_le _, rfl, Below.refl _ _, fun i z hi => absurd hi (Nat.not_lt_zero i)⟩
  case round =>
    obtain ⟨k, hk, rfl, HB, HN⟩ := hrel
    by_cases hlt : k < Z.length
    · obtain ⟨z, hz⟩ : ∃ z, Z[k]? = some z := ⟨_, List.getElem?_eq_getElem hlt⟩
      have ho : OwP wr (.slice (some ⟨g, 0, none⟩) Z.length cap) (Z.map Prod.fst) := gown_below HO.out HB.out
      obtain ⟨p0, pf⟩ := row_pt ho (k := k) (p := z.1) (by rw [List.getElem?_map, hz]; rfl)
      have C1 := Lib.hid (HT.out z (List.mem_of_getElem? hz) wr (HC.out.trans (G := fun _ => False) (chg0 HB.out) (fun _ _ e => e.elim)))
      have HZ := Lib.hid hz
      have hltz : (k : Int) < Z.length := by omega
      obtain ⟨p, hp⟩ : ∃ p, z.1 = p := ⟨_, rfl⟩
      rw [hp] at p0 C1
      clear ho pf hz hp
      go_wp2_with fail
      refine C1.out.mono ?_
      rintro e w9 ⟨rfl, hb⟩
      have HB9 := Lib.hid (HB.out.trans (hb.mono HB.out.size))
      clear p0 hb
      cases hh : hit z with
      | true =>
        have HH := Lib.hid hh
        clear hh
        go_wp2_with fail
        go_ret
        exact ⟨.inl ⟨k, z, HZ.out, HH.out, HN.out, rfl⟩, HB9.out⟩
      | false =>
        have HH := Lib.hid hh
        clear hh
        go_wp2_with fail
        go_roundw
        case rel => exact ⟨k + 1, by omega, by go_num, HB9.out, fun i y hi hy => by
          by_cases h9 : i = k
          · subst h9
            have e := hy.symm.trans HZ.out
            cases e
            exact HH.out
          · exact HN.out i y (by omega) hy⟩
        case measure => simp [intOf]; omega
    · obtain rfl : k = Z.length := by omega
      go_wp2_with fail
      go_ret
      exact ⟨.inr ⟨fun i y hy => HN.out i y (List.getElem?_eq_some_iff.1 hy).1 hy, rfl⟩, HB.out⟩
end Go.Proofs.YthnajpckhoomgaaGreat
namespace Go.Proofs.YthnajpckhoomgaaGreat
set_option maxRecDepth 100000
set_option linter.unusedVariables false
open Go.RowKit

theorem gpt (ps : List Nat) : gflat RPT ps = ps.map ptr := by
  unfold gflat
  induction ps with
  | nil => rfl
  | cons p ps ih => exact congrArg (List.cons (ptr p)) ih
/-- The row as it stands while some are taken out: the first a are those kept of the first j, those behind j are as they were. -/
structure Mid (hit : Nat × Bt × Int → Bool) (Z : Zs1) (a j : Nat) (R : List Nat) : Prop where
  lt : a < j
  le : j ≤ Z.length
  len : R.length = Z.length
  cnt : a = ((Z.take j).filter fun z => !hit z).length
  head : R.take a = ((Z.take j).filter fun z => !hit z).map Prod.fst
  tail : R.drop j = (Z.drop j).map Prod.fst
theorem filt_all {hit : Nat × Bt × Int → Bool} {Z : Zs1} {k : Nat} (hn : ∀ (i : Nat) (y : Nat × Bt × Int), i < k → Z[i]? = some y → hit y = false) : (Z.take k).filter (fun z => !hit z) = Z.take k := by
  rw [List.filter_eq_self]
  intro y hy
  obtain ⟨i, hi, rfl⟩ := List.mem_iff_getElem.1 hy
  rw [List.length_take] at hi
  have := hn i Z[i] (by omega) (List.getElem?_eq_getElem (by omega))
  rw [List.getElem_take, this]
  rfl
theorem takeZ_one {Z : Zs1} {j : Nat} {z : Nat × Bt × Int} (hz : Z[j]? = some z) : Z.take (j + 1) = Z.take j ++ [z] := by
  obtain ⟨hk, rfl⟩ := List.getElem?_eq_some_iff.1 hz
  rw [List.take_succ_eq_append_getElem hk]
theorem mid_start {hit : Nat × Bt × Int → Bool} {Z : Zs1} {k : Nat} {z : Nat × Bt × Int} (hz : Z[k]? = some z) (hh : hit z = true) (hn : ∀ (i : Nat) (y : Nat × Bt × Int), i < k → Z[i]? = some y → hit y = false) : Mid hit Z k (k + 1) (Z.map Prod.fst) := by
  have hk := (List.getElem?_eq_some_iff.1 hz).1
  have e : (Z.take (k + 1)).filter (fun z => !hit z) = Z.take k := by rw [takeZ_one hz, List.filter_append, filt_all hn, List.filter_cons]; simp [hh]
  refine ⟨Nat.lt_succ_self k, hk, List.length_map .., ?_, ?_, ?_⟩
  · rw [e, List.length_take]; omega
  · rw [e, List.map_take]
  · rw [List.map_drop]
theorem Mid.at {hit : Nat × Bt × Int → Bool} {Z : Zs1} {a j : Nat} {R : List Nat} (h : Mid hit Z a j R) {z : Nat × Bt × Int} (hz : Z[j]? = some z) : R[j]? = some z.1 := by
  have e : R[j]? = (R.drop j)[0]? := by rw [List.getElem?_drop, Nat.add_zero]
  rw [e, h.tail, List.getElem?_map, List.getElem?_drop, Nat.add_zero, hz]
  rfl
theorem drop_one' (R : List Nat) (j : Nat) : R.drop (j + 1) = (R.drop j).drop 1 := by rw [List.drop_drop]
theorem Mid.hit {hit : Nat × Bt × Int → Bool} {Z : Zs1} {a j : Nat} {R : List Nat} (h : Mid hit Z a j R) {z : Nat × Bt × Int} (hz : Z[j]? = some z) (hh : hit z = true) : Mid hit Z a (j + 1) R := by
  have hk := (List.getElem?_eq_some_iff.1 hz).1
  have e : (Z.take (j + 1)).filter (fun z => !hit z) = (Z.take j).filter (fun z => !hit z) := by rw [takeZ_one hz, List.filter_append, List.filter_cons]; simp [hh]
  exact ⟨by have := h.lt; omega, hk, h.len, by rw [e]; exact h.cnt, by rw [e]; exact h.head, by rw [drop_one', h.tail, ← List.map_drop, List.drop_drop]⟩
theorem Mid.keep {hit : Nat × Bt × Int → Bool} {Z : Zs1} {a j : Nat} {R : List Nat} (h : Mid hit Z a j R) {z : Nat × Bt × Int} (hz : Z[j]? = some z) (hh : hit z = false) : Mid hit Z (a + 1) (j + 1) (R.set a z.1) := by
  have hk := (List.getElem?_eq_some_iff.1 hz).1
  have hlt := h.lt
  have hlen := h.len
  have e : (Z.take (j + 1)).filter (fun z => !hit z) = (Z.take j).filter (fun z => !hit z) ++ [z] := by rw [takeZ_one hz, List.filter_append, List.filter_cons]; simp [hh]
  refine ⟨by omega, hk, by rw [List.length_set]; exact h.len, by rw [e, List.length_append, ← h.cnt]; rfl, ?_, ?_⟩
  · rw [e, List.map_append, ← h.head, List.take_succ_eq_append_getElem (by rw [List.length_set]; omega), List.take_set, List.set_eq_of_length_le (by rw [List.length_take]; omega)]
    simp
  · rw [List.drop_set_of_lt (by omega), drop_one', h.tail, ← List.map_drop, List.drop_drop]
theorem OwP.set {w : World} {g cap n a : Nat} {R : List Nat} (h : OwP w (.slice (some ⟨g, 0, none⟩) n cap) R) (p : Nat) : OwP (w.setCell ⟨g, a, none⟩ (ptr p)) (.slice (some ⟨g, 0, none⟩) n cap) (R.set a p) := by
  unfold OwP at h ⊢
  have hn : n = R.length := by
    obtain ⟨a, c, e⟩ := own_form h
    simp only [Value.slice.injEq] at e
    exact e.2.1
  subst hn
  have := (World.ownsRow.stored h a (ptr p)).1
  rw [gpt, List.length_set]
  rw [gpt] at this
  rw [List.map_set]
  exact this
set_option maxHeartbeats 8000000 in
theorem delf_any (g0 g cap : Nat) (hit : Nat × Bt × Int → Bool) (Z : Zs1) (w : World) (hT : Tells g0 g hit Z w) (h : OwP w (.slice (some ⟨g, 0, none⟩) Z.length cap) (Z.map Prod.fst)) (hl : Z.length ≤ 1000) :
    Calls Tryz.prog 124 #[.slice (some ⟨g, 0, none⟩) Z.length cap, .func (.func 125) #[] #[.pointer (some ⟨g0, 0, none⟩)]] w fun e w' => (∃ n, n = (Z.filter fun z => !hit z).length ∧ e = .returned (.slice (some ⟨g, 0, none⟩) n cap) ∧ OwP w' (.slice (some ⟨g, 0, none⟩) n cap) ((Z.filter fun z => !hit z).map Prod.fst)) ∧ Chg (fun k => k = g) w w' := by
  have hcap : Z.length ≤ cap := by
    rcases h.2 with ⟨h1, _⟩ | ⟨g', cap', cur, hv, hb, hg, hnc, hcm, hcs, htake⟩
    · cases h1
    · simp only [Value.slice.injEq] at hv
      rw [List.length_map] at hnc
      omega
  have HT := Lib.hid hT
  have HO := Lib.hid h
  have C1 := Lib.hid (idxf_any g0 g cap hit Z w w hT (Chg.refl _ _) h hl)
  clear hT h
  go_enter Tryz.func124, Tryz.ntmps124
  go_wp2_with fail
  refine C1.out.mono ?_
  rintro e w1 ⟨hcase, hb⟩
  rcases hcase with ⟨k, z, hz, hh, hn, rfl⟩ | ⟨hn, rfl⟩
  · have hm := mid_start hz hh hn
    have HM := Lib.hid hm
    have hk : k < Z.length := (List.getElem?_eq_some_iff.1 hz).1
    have HB := Lib.hid hb
    have hne : ((k : Int) == -1) = false := beq_false_of_ne (by omega)
    clear hz hh hn hm hb C1
    go_wp2_with fail
    go_loopw [5, 6] (fun av jv wr => ∃ (a j : Nat) (R : List Nat), j ≤ Z.length ∧ a < j ∧ av = .int .i64 a ∧ jv = .int .i64 j ∧ Hid (Mid hit Z a j R) ∧ Hid (OwP wr (.slice (some ⟨g, 0, none⟩) Z.length cap) R) ∧ Hid (Chg (fun k => k = g) w wr)) (fun _ j _ => Z.length - (intOf j).toNat)
    case atStart => exact ⟨k, k + 1, _, hk, Nat.lt_succ_self k, rfl, by go_num, HM.out, gown_below HO.out HB.out, chg0 HB.out⟩
    case round =>
      obtain ⟨a, j, R, hj, haj, rfl, rfl, HMD, HR, HC⟩ := hrel
      clear HM HB hne
      by_cases hlt : j < Z.length
      · obtain ⟨z, hz⟩ : ∃ z, Z[j]? = some z := ⟨_, List.getElem?_eq_getElem hlt⟩
        obtain ⟨p0, pf⟩ := row_pt HR.out (HMD.out.at hz)
        have C2 := Lib.hid (HT.out z (List.mem_of_getElem? hz) wr HC.out)
        have HZ := Lib.hid hz
        have hltz : (j : Int) < Z.length := by omega
        obtain ⟨p, hp⟩ : ∃ p, z.1 = p := ⟨_, rfl⟩
        have HP := Lib.hid hp
        rw [hp] at p0 C2
        clear pf hz hp
        go_wp2_with fail
        refine C2.out.mono ?_
        rintro e w9 ⟨rfl, hb9⟩
        have hr9 : OwP w9 (.slice (some ⟨g, 0, none⟩) Z.length cap) R := gown_below HR.out hb9
        have HC9 : Hid (Chg (fun k => k = g) w w9) := HC.out.trans (G := fun _ => False) (chg0 hb9) (fun _ _ e => e.elim)
        have hra : a < R.length := by rw [HMD.out.len]; omega
        obtain ⟨q, hq⟩ : ∃ q, R[a]? = some q := ⟨_, List.getElem?_eq_getElem hra⟩
        obtain ⟨r0, rf⟩ := row_pt hr9 (k := a) (p := q) hq
        have HR9 := Lib.hid hr9
        clear p0 hb9 hr9 hra hq
        cases hh : hit z with
        | true =>
          have HM9 := Lib.hid (HMD.out.hit HZ.out hh)
          clear hh r0 rf
          go_wp2_with fail
          go_roundw
          case rel => exact ⟨a, j + 1, R, by omega, by omega, rfl, by go_num, HM9.out, HR9.out, HC9.out⟩
          case measure => simp [intOf]; omega
        | false =>
          have HM9 := Lib.hid (HMD.out.keep HZ.out hh)
          have HRS := Lib.hid (HR9.out.set (a := a) p)
          have HCS := Lib.hid (HC9.out.setCell (p := ⟨g, a, none⟩) (.inl rfl) (ptr p))
          clear hh
          go_wp2_with fail
          go_roundw
          case rel => exact ⟨a + 1, j + 1, R.set a z.1, by omega, by omega, by go_num, by go_num, HM9.out, by rw [HP.out]; exact HRS.out, HCS.out⟩
          case measure => simp [intOf]; omega
      · obtain rfl : j = Z.length := by omega
        have hm := HMD.out
        have hcn := hm.cnt
        have hhd := hm.head
        rw [List.take_of_length_le (Nat.le_refl _)] at hcn hhd
        have hrl : OwP wr (.slice (some ⟨g, 0, none⟩) R.length cap) R := by rw [hm.len]; exact HR.out
        have hh0 := own_head hrl (m := a) (by have := hm.len; omega)
        have hne2 : ¬ cap = a := by omega
        obtain ⟨w3, hr3, ho3, hg3⟩ := run_clear_own RPT (by decide) wr 0 0 g a (Z.length - a) cap (cap - a) _ hh0 (by omega) (by omega)
        have hr3' : (Builtin.clear_ #[121] 0 #[.slice (some ⟨g, a, none⟩) (Z.length - a) (cap - a)]).run Tryz.prog wr = .ok (.tuple #[]) w3 := by
          have e1 : a * RPT.K = a := Nat.mul_one a
          rw [e1] at hr3
          exact hr3
        have HO3 : Hid (OwP w3 (.slice (some ⟨g, 0, none⟩) a cap) ((Z.filter fun z => !hit z).map Prod.fst)) := by
          show w3.ownsRow 0 142 1 _ (List.map Prod.fst (Z.filter fun z => !hit z)).length _
          rw [gpt, ← hhd, List.length_take, Nat.min_eq_left (by have := hm.len; omega), List.map_take, ← gpt]
          have e1 : a * 1 = a := Nat.mul_one a
          have h9 : w3.ownsRow 0 142 1 (.slice (some ⟨g, 0, none⟩) a cap) a ((gflat RPT R).take (a * 1)) := ho3
          rw [e1] at h9
          exact h9
        have HCF : Hid (Chg (fun k => k = g) w w3) := HC.out.trans ((chg_grown hg3).mono (fun x _ e => by cases e; rfl)) (fun _ _ e => e)
        have HCN := Lib.hid hcn
        clear hm hcn hhd hrl hh0 hr3 ho3 hg3
        go_wp2_with fail
        go_ret
        exact ⟨⟨a, HCN.out, rfl, HO3.out⟩, HCF.out⟩
  · have e : (Z.filter fun z => !hit z) = Z := by
      have h9 := filt_all (k := Z.length) (fun i y _ hy => hn i y hy)
      rw [List.take_of_length_le (Nat.le_refl _)] at h9
      exact h9
    have HB := Lib.hid hb
    have HE := Lib.hid e
    clear hn hb e
    go_wp2_with fail
    go_ret
    exact ⟨⟨_, by rw [HE.out], rfl, by rw [HE.out]; exact gown_below HO.out HB.out⟩, chg0 HB.out⟩
end Go.Proofs.YthnajpckhoomgaaGreat
namespace Go.Proofs.YthnajpckhoomgaaGreat
set_option maxRecDepth 100000
set_option linter.unusedVariables false
open Go.RowKit

open Go.Maps
/-- Objects of one's own that lie in no block of F. -/
def OwN1 (w : World) (S : Nat) (F : Nat → Prop) (v : Value) (ys : List Ob) : Prop := OwO w S v ys ∧ ∀ g, v.ownBlock = some g → ¬ F g
theorem own_some {w : World} {S : Nat} {a : Option Addr} {c : Nat} {ys : List Ob} (h : OwO w S (.slice a ys.length c) ys) (hn : 1 ≤ ys.length) : ∃ g, a = some ⟨g, 0, none⟩ ∧ S ≤ g ∧ g < w.heap.size := by
  rcases h.2 with ⟨h1, h2⟩ | ⟨g, cap, cur, hv, _⟩
  · omega
  · simp only [Value.slice.injEq] at hv
    obtain ⟨rfl, -, rfl⟩ := hv
    obtain ⟨h1, h2⟩ := World.ownsRow.lt h g rfl
    exact ⟨g, rfl, h1, h2⟩
section
variable {w : World} {F : Nat → Prop} {b : Nat} {t : Tk}
set_option maxHeartbeats 8000000 in
theorem ttake_any (n : Int) (v : Value) (ys : List Ob) (h : PT w F b t) (hv : Os w v ys) (hoff : ∀ a n c, v = .slice (some a) n c → ys ≠ [] → ¬ F a.block) (hl : ys.length ≤ 3000) : Calls Tryz.prog 72 #[.pointer (some ⟨b, 0, none⟩), .agg #[.int .i64 n, v]] w fun e w' => ∃ r F', e = .returned (.tuple #[r, .int .i64 (takeR t (n, ys)).1.2]) ∧ PT w' F' b (takeR t (n, ys)).2 ∧ Chg F w w' ∧ (∀ k, F k → F' k) ∧ (∀ k, F' k → F k ∨ w.heap.size ≤ k) ∧ OwN1 w' w.heap.size F' r (takeR t (n, ys)).1.1 := by
  obtain ⟨W1, hW1⟩ : ∃ W1, w.alloc (.cells #[.int .i64 n, v] 69) = W1 := ⟨_, rfl⟩
  obtain ⟨g0, hg0⟩ : ∃ g0, w.heap.size = g0 := ⟨_, rfl⟩
  have hb1 : Below w.heap.size w W1 := hW1 ▸ (Below.refl _ w).alloc (Nat.le_refl _) _
  have hov : v.oneCell' = true := by
    obtain ⟨a, c, rfl⟩ := hv.form
    rfl
  have hx0 : W1.cell? ⟨g0, 0, none⟩ = some (.int .i64 n) := by rw [← hW1, ← hg0]; simp
  have hx1 : W1.cell? ⟨g0, 1, none⟩ = some v := by rw [← hW1, ← hg0]; simp
  have hgl : g0 < W1.heap.size := World.block_lt_of_cell? W1 _ hx0
  have CR := Lib.hid (tref_any n v ys (h.below hb1) (hv.below hb1) hl)
  have HNF : Hid (¬ F g0) := fun hk => by have := h.2.lt _ hk; omega
  have HV1 := Lib.hid (hv.below hb1)
  have HL := Lib.hid hl
  have HP0 := Lib.hid h
  have HB1 := Lib.hid hb1
  have HW1 := Lib.hid hW1
  have HG0 := Lib.hid hg0
  have HOFF := Lib.hid hoff
  have HX := Lib.hid (And.intro hx0 (And.intro hx1 hgl))
  obtain ⟨aV, cV, hvf⟩ := hv.form
  subst hvf
  clear h hv hb1 hW1 hg0 hgl hoff hl
  go_enter Tryz.func72, Tryz.ntmps72
  go_upto_region 3 with (fail)
  rw [HW1.out]
  try simp only [HG0.out]
  go_upto_region 4 with (go_at_call 119; refine CR.out.mono ?_; rintro e w2 ⟨F2, rfl, hp, hp0, hc, hF, hF2⟩; have HP2' := Lib.hid hp; have HPZ := Lib.hid hp0; have HC2 := Lib.hid hc; have HF2 := Lib.hid hF; have HG2 := Lib.hid hF2; clear hp hp0 hc hF hF2 hx0 hx1)
  have HCC : Hid (Chg F w w2) := (chg0 HB1.out).trans HC2.out (fun _ _ h => h)
  have HGG : Hid (∀ k, F2 k → F k ∨ w.heap.size ≤ k) := fun k hk => (HG2.out k hk).imp (fun h => h) (fun h => Nat.le_trans HB1.out.size h)
  obtain ⟨e0, he0⟩ : ∃ e0, rfE t (n, ys) = e0 := ⟨_, rfl⟩
  have HTR := Lib.hid (take_rf t (n, ys))
  rw [he0] at HTR HPZ
  try simp only [he0]
  have HE0 := Lib.hid he0
  clear he0 CR
  by_cases hz : e0 = 0
  · subst hz
    obtain ⟨bm, hpm⟩ := HPZ.out rfl
    have HP2 := Lib.hid hpm
    have HIN := Lib.hid (HTR.out.1 rfl)
    have HV2 : Hid (Os w2 (.slice aV ys.length cV) ys) := HV1.out.chg HC2.out (fun a n c e hn => HOFF.out a n c e hn)
    have kc6 : ∀ w', Below w2.heap.size w2 w' → w'.cell? ⟨g0, 0, none⟩ = some (.int .i64 n) ∧ w'.cell? ⟨g0, 1, none⟩ = some (.slice aV ys.length cV) := fun w' hb => by
      obtain ⟨q0, q1, q2⟩ := HX.out
      have hs := HC2.out.size
      exact ⟨(hb.cell (p := ⟨g0, 0, none⟩) (Nat.lt_of_lt_of_le q2 hs)).trans ((HC2.out.cell q2 HNF.out).trans q0), (hb.cell (p := ⟨g0, 1, none⟩) (Nat.lt_of_lt_of_le q2 hs)).trans ((HC2.out.cell q2 HNF.out).trans q1)⟩
    clear hpm HP2'
    go_upto_region 6 with (fail)
    refine T3.wp_region_tail (C := fun w' => Below w2.heap.size w2 w') (X := fun _ w w' => Below w.heap.size w w') (n := 24) 7 (by kernel_rfl) (by kernel_rfl) (by kernel_rfl) (by kernel_rfl) rfl (fun _ w => Below.refl _ w) (Below.refl _ _).drew ?_
    simp only [List.take_succ_cons, List.take_zero, List.drop_succ_cons, List.drop_zero]
    refine T3.w_is (fun _ w => Below.refl _ w) rfl _ (.inl rfl) (fun ρ w hC hc hfn hf => by have e0 : ρ (.tmp 0) = _ := hf 0 (by decide); (conv => lhs; simp [execOp, go_sem, hc, e0])) ?_
    refine T3.w_call rfl (Is _) (fun _ _ _ _ _ h _ => h) 120 (.inl rfl) (fun ρ w hC hc hfn hf => by have e15 : ρ (.tmp 15) = _ := hf 15 (by decide); exact ⟨_, by (conv => lhs; simp [execOp, resolve, invoke, go_sem, hc, hfn, e15]), (hold_m (HP2.out.below hC)).mono fun e w' h => ⟨_, h.1, hC.trans (h.2.mono hC.size), h.2, rfl⟩⟩) ?_
    refine T3.w_is (fun _ w => Below.refl _ w) rfl _ (.inl rfl) (fun ρ w hC hc hfn hf => by have e3 : ρ (.tmp 3) = _ := hf 3 (by decide); (conv => lhs; simp [execOp, go_sem, hc, e3])) ?_
    refine T3.w_is (fun _ w => Below.refl _ w) rfl _ (.inl rfl) (fun ρ w hC hc hfn hf => by have e17 : ρ (.tmp 17) = _ := hf 17 (by decide); (conv => lhs; simp [execOp, go_sem, hc, e17, kc6 w hC])) ?_
    refine T3.w_is (fun _ w => Below.refl _ w) rfl _ (.inl rfl) (fun ρ w hC hc hfn hf => by have e3 : ρ (.tmp 3) = _ := hf 3 (by decide); (conv => lhs; simp [execOp, go_sem, hc, e3])) ?_
    refine T3.w_is (fun _ w => Below.refl _ w) rfl _ (.inl rfl) (fun ρ w hC hc hfn hf => by have e19 : ρ (.tmp 19) = _ := hf 19 (by decide); (conv => lhs; simp [execOp, go_sem, hc, e19, kc6 w hC])) ?_
    refine T3.w_call rfl (NewCl w2 ys) (NewCl.keeps w2 _ 6) 80 (.inl rfl) (fun ρ w hC hc hfn hf => by have e20 : ρ (.tmp 20) = _ := hf 20 (by decide); exact ⟨_, by (conv => lhs; simp [execOp, resolve, invoke, go_sem, hc, hfn, e20]), (oclone_any (.slice aV ys.length cV) ys w (HV2.out.below hC) HL.out).mono fun e w' h => by obtain ⟨⟨a, c, h1, h2⟩, h3⟩ := h; exact ⟨_, h1, hC.trans (h3.mono hC.size), h3, ⟨a, c, rfl, h2.mono0 hC.size⟩⟩⟩) ?_
    intro A V5 hC hn hd hf
    obtain ⟨a2, c2, y21, ho⟩ := (show (NewCl w2 ys) (A.eval (.tmp 21)) V5 from hf 21)
    have y0 : A.eval (.tmp 0) = _ := Eq.trans (hf 0) (by conv => lhs; simp [go_sem])
    have y1 : A.eval (.tmp 1) = _ := Eq.trans (hf 1) (by conv => lhs; simp [go_sem])
    have y2 : A.eval (.tmp 2) = _ := Eq.trans (hf 2) (by conv => lhs; simp [go_sem])
    have y3 : A.eval (.tmp 3) = _ := Eq.trans (hf 3) (by conv => lhs; simp [go_sem])
    have y4 : A.eval (.tmp 4) = _ := Eq.trans (hf 4) (by conv => lhs; simp [go_sem])
    have y5 : A.eval (.tmp 5) = _ := Eq.trans (hf 5) (by conv => lhs; simp [go_sem])
    have y6 : A.eval (.tmp 6) = _ := Eq.trans (hf 6) (by conv => lhs; simp [go_sem])
    have y7 : A.eval (.tmp 7) = _ := Eq.trans (hf 7) (by conv => lhs; simp [go_sem])
    have y8 : A.eval (.tmp 8) = _ := Eq.trans (hf 8) (by conv => lhs; simp [go_sem])
    have y9 : A.eval (.tmp 9) = _ := Eq.trans (hf 9) (by conv => lhs; simp [go_sem])
    have y10 : A.eval (.tmp 10) = _ := Eq.trans (hf 10) (by conv => lhs; simp [go_sem])
    have y11 : A.eval (.tmp 11) = _ := Eq.trans (hf 11) (by conv => lhs; simp [go_sem])
    have y12 : A.eval (.tmp 12) = _ := Eq.trans (hf 12) (by conv => lhs; simp [go_sem])
    have y13 : A.eval (.tmp 13) = _ := Eq.trans (hf 13) (by conv => lhs; simp [go_sem])
    have y14 : A.eval (.tmp 14) = _ := Eq.trans (hf 14) (by conv => lhs; simp [go_sem])
    have y15 : A.eval (.tmp 15) = _ := hf 15
    have y16 : A.eval (.tmp 16) = _ := hf 16
    have y17 : A.eval (.tmp 17) = _ := hf 17
    have y18 : A.eval (.tmp 18) = _ := hf 18
    have y19 : A.eval (.tmp 19) = _ := hf 19
    have y20 : A.eval (.tmp 20) = _ := hf 20
    have y22 : A.eval (.tmp 22) = _ := Eq.trans (hf 22) (by conv => lhs; simp [go_sem])
    have y23 : A.eval (.tmp 23) = _ := Eq.trans (hf 23) (by conv => lhs; simp [go_sem])
    clear hf
    have hA := frame_eq hn
    rw [show List.range 24 = [0, 1, 2, 3, 4, 5, 6, 7, 8, 9, 10, 11, 12, 13, 14, 15, 16, 17, 18, 19, 20, 21, 22, 23] from rfl, hd] at hA
    simp only [List.map_cons, List.map_nil, y0, y1, y2, y3, y4, y5, y6, y7, y8, y9, y10, y11, y12, y13, y14, y15, y16, y17, y18, y19, y20, y21, y22, y23] at hA
    clear y0 y1 y2 y3 y4 y5 y6 y7 y8 y9 y10 y11 y12 y13 y14 y15 y16 y17 y18 y19 y20 y21 y22 y23
    clear hn hd
    subst hA
    have hyl : 1 ≤ ys.length := HIN.out.1.2.1.1
    obtain ⟨g, rfl, hg1, hg2⟩ := own_some ho hyl
    have hfl := HP2.out.lt
    have hsz := hC.size
    have hpm := (HP2.out.below hC).mono (F' := fun k => F2 k ∨ k = g) (fun k hk => .inl hk) (fun k hk => hk.elim (fun h => by have := hfl k h; omega) (fun e => by rw [show k = g from e]; exact hg2))
    have hgb : g ≠ b := fun e => by have := hfl b HP2.out.fb; omega
    have hgm : g ≠ bm := fun e => by have := hfl bm HP2.out.fm; omega
    obtain ⟨w6, hst, hp6, hc6⟩ := hpm.store HIN.out.1.1 HIN.out.2.2 (by have := held_le HP0.out.1; omega) ho.os (.inr rfl) hgb hgm
    have HM6 := Lib.hid (mid_in HP0.out.1 HIN.out)
    have hll : (t.H ++ [(n, ys)]).length = t.H.length + 1 := by rw [List.length_append]; rfl
    have CT := tturns_any hp6 HM6.out (by have := held_le HP0.out.1; rw [hll]; omega)
    have hti := take_in HIN.out
    simp only [hll] at CT
    have HC6 : Hid (Chg F w w6) := (HCC.out.trans (G := fun _ => False) (chg0 hC) (fun _ _ e => e.elim)).trans hc6 (fun k hk e => by rw [show k = bm from e]; exact (HGG.out bm HP2.out.fm).elim (fun h => h) (fun h => by have h' : k = bm := e; omega))
    have HG6 : Hid (∀ k, (F2 k ∨ k = g) → F k ∨ w.heap.size ≤ k) := fun k hk => hk.elim (HGG.out k) (fun e => .inr (by have := HCC.out.size; rw [show k = g from e]; omega))
    have HCT := Lib.hid CT
    have HTI := Lib.hid hti
    have HS6 : Hid (w.heap.size ≤ w6.heap.size) := HC6.out.size
    have HL6 : Hid (∀ k, (F2 k ∨ k = g) → k < w6.heap.size) := hp6.lt
    have HTK := Lib.hid (tkok_take HP0.out.1 (n, ys))
    clear hyl hg1 hg2 hfl hsz hpm hgb hgm hp6 hc6 hll CT hti ho hC kc6
    go_wp2_with (go_at_call 121; refine HCT.out.mono ?_; rintro e w7 ⟨r, rfl, ho7, hp7, hc7⟩; have HO7 := Lib.hid ho7; have HP7 := Lib.hid hp7; have HC7 := Lib.hid hc7; clear ho7 hp7 hc7)
    have HOF : Hid (OwN1 w7 w.heap.size (fun k => F2 k ∨ k = g) r (takeR t (n, ys)).1.1) := by
      rw [HTI.out]
      exact ⟨gown_mono HO7.out HS6.out, fun k hk hf => by have h1 := (World.ownsRow.lt HO7.out k hk).1; have h2 := HL6.out k hf; omega⟩
    have HPF : Hid (PT w7 (fun k => F2 k ∨ k = g) b (takeR t (n, ys)).2) := ⟨HTK.out, .inl ⟨bm, by rw [HTI.out]; exact HP7.out⟩⟩
    have HCF : Hid (Chg F w w7) := HC6.out.trans HC7.out (fun k hk h => (HG6.out k h).elim (fun h => h) (fun h => by omega))
    have HEF : Hid ((takeR t (n, ys)).1.2 = 0) := by rw [HTI.out]; rfl
    exact bodyPost_ret (v := .tuple #[r, .int .i64 0]) (by simp [results, Tryz.results72, go_sem]) rfl ⟨r, _, by rw [HEF.out], HPF.out, HCF.out, fun k hk => .inl (HF2.out k hk), HG6.out, HOF.out⟩
  · have hr := HTR.out.2 hz
    have hne : (e0 != 0) = true := bne_iff_ne.2 hz
    have HR := Lib.hid hr
    have hd : (e0 == 0) = false := beq_false_of_ne hz
    clear hr
    go_wp2_with fail
    have HPE : Hid (PT w2 F2 b (takeR t (n, ys)).2) := by rw [HR.out]; exact HP2'.out
    have HVE : Hid ((takeR t (n, ys)).1.2 = e0 ∧ (takeR t (n, ys)).1.1 = []) := by rw [HR.out]; exact ⟨rfl, rfl⟩
    exact bodyPost_ret (v := .tuple #[.slice none 0 0, .int .i64 e0]) (by simp [results, Tryz.results72, go_sem]) rfl ⟨_, F2, by rw [HVE.out.1], HPE.out, HCC.out, HF2.out, HGG.out, by rw [HVE.out.2]; exact ⟨OwO_nil _ _, fun g hg => by cases hg⟩⟩
end
end Go.Proofs.YthnajpckhoomgaaGreat
