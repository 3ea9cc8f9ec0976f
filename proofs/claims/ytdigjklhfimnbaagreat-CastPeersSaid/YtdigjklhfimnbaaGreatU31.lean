/- Texts Pq9, Pq10 of this proof, in one. No conditions but on lengths. -/
import Derived.Test.YtdigjklhfimnbaaGreatU51
import Derived.Test.YtdigjklhfimnbaaGreatRows
import Derived.Test.YtdigjklhfimnbaaGreatU18
import Derived.Test.YtdigjklhfimnbaaGreatU23
import Derived.Test.YtdigjklhfimnbaaGreatU28
import Derived.ArgAppend
import Derived.Below
import Derived.BigQuiet
import Derived.Calls
import Derived.ChangeArms
import Derived.ChangeMade
import Derived.ChangeOld
import Derived.Deep.Cut
import Derived.Deep.CutBlock
import Derived.Deep.QuietTactic
import Derived.Deep.RegionHeld
import Derived.Deep.RegionLaw
import Derived.Deep.RegionWith
import Derived.Deep.Slices
import Derived.Laws.AppendOwnNone
import Derived.Laws.BitsLemmas
import Derived.Laws.BytesArg
import Derived.Laws.LoneSync
import Derived.Laws.OwnMore
import Derived.Laws.StructEq
import Derived.Lib.Hide
import Derived.Lib.QuietBelow
import Derived.Lib.SliceRun
import Derived.LoopIn
import Derived.LoopTactic
import Derived.Maps.AppendAt
import Derived.OpenShut
import Derived.Orders
import Derived.Outline
import Derived.OwnWalkIn
import Derived.ProofKit
import Derived.RangeFuncBox
import Derived.RangeFuncCalls
import Derived.RangeFuncLeaves
import Derived.RangeFuncNested
import Derived.Shelf.RegionOpen
import Derived.Shelf.RegionOpenPlain
import Derived.ShutString
import Derived.StillTail
import Derived.TacticsInMore
import Derived.WalkKit
import Derived.WalkLawsBesides
import Derived.WalkSpells
import Derived.WideShapes
namespace Go.Proofs.YtdigjklhfimnbaaGreat
set_option maxRecDepth 100000
set_option linter.unusedVariables false
open Go.RowKit

set_option maxHeartbeats 4000000 in
theorem gotc_any (g0 p : Nat) (i q x m n : Int) (w : World) (ha : Cells4a w g0 0 (i, q, x, m)) (hp : w.cell? ⟨p, 0, none⟩ = some (.int .i64 n)) :
    Calls Tryz.prog 167 #[ptr p, .pointer (some ⟨g0, 0, none⟩)] w fun e w' => e = .returned (.bool (decide (AkOne (i, q, x, m)) && hasN x m n)) ∧ Below w.heap.size w w' := by
  have hpl := World.block_lt_of_cell? w _ hp
  have kc : ∀ w', Below w.heap.size w w' → (w'.cell? ⟨g0, 0, none⟩ = some (.int .i64 i) ∧ w'.cell? ⟨g0, 1, none⟩ = some (.int .i64 q) ∧ w'.cell? ⟨g0, 2, none⟩ = some (.int .i64 x) ∧ w'.cell? ⟨g0, 3, none⟩ = some (.int .i64 m)) ∧ w'.cell? ⟨p, 0, none⟩ = some (.int .i64 n) := fun w' h => by
    have h4 := ha.below h
    simp only [Cells4a, Nat.zero_add] at h4
    exact ⟨h4, (h.cell (p := ⟨p, 0, none⟩) hpl).trans hp⟩
  clear ha hp hpl
  go_enter Tryz.func167, Tryz.ntmps167
  go_upto_region 1 with (fail)
  refine T3.wp_region_tail (C := fun w' => Below w.heap.size w w') (X := fun _ w w' => Below w.heap.size w w') (n := 11) 7 (by kernel_rfl) (by kernel_rfl) (by kernel_rfl) (by kernel_rfl) rfl (fun _ w => Below.refl _ w) (Below.refl _ _).drew ?_
  simp only [List.take_succ_cons, List.take_zero, List.drop_succ_cons, List.drop_zero]
  refine T3.w_is (fun _ w => Below.refl _ w) rfl _ (.inl rfl) (fun ρ w hC hc hfn hf => by have e1 : ρ (.tmp 1) = _ := hf 1 (by decide); (conv => lhs; simp [execOp, go_sem, hc, e1, kc w hC])) ?_
  refine T3.w_is (fun _ w => Below.refl _ w) rfl _ (.inl rfl) (fun ρ w hC hc hfn hf => by have e0 : ρ (.tmp 0) = _ := hf 0 (by decide); (conv => lhs; simp [execOp, go_sem, hc, e0])) ?_
  refine T3.w_is (fun _ w => Below.refl _ w) rfl _ (.inl rfl) (fun ρ w hC hc hfn hf => by have e5 : ρ (.tmp 5) = _ := hf 5 (by decide); (conv => lhs; simp [execOp, go_sem, hc, e5])) ?_
  refine T3.w_is (fun _ w => Below.refl _ w) rfl _ (.inl rfl) (fun ρ w hC hc hfn hf => by have e6 : ρ (.tmp 6) = _ := hf 6 (by decide); (conv => lhs; simp [execOp, go_sem, hc, e6])) ?_
  refine T3.w_is (fun _ w => Below.refl _ w) rfl _ (.inl rfl) (fun ρ w hC hc hfn hf => by have e7 : ρ (.tmp 7) = _ := hf 7 (by decide); (conv => lhs; simp [execOp, go_sem, hc, e7])) ?_
  refine T3.w_is (fun _ w => Below.refl _ w) rfl _ (.inl rfl) (fun ρ w hC hc hfn hf => by have e8 : ρ (.tmp 8) = _ := hf 8 (by decide); (conv => lhs; simp [execOp, go_sem, hc, e8, kc w hC])) ?_
  refine T3.w_call rfl (Is _) (fun _ _ _ _ _ h _ => h) 168 (.inl rfl) (fun ρ w hC hc hfn hf => by have e4 : ρ (.tmp 4) = _ := hf 4 (by decide); have e9 : ρ (.tmp 9) = _ := hf 9 (by decide); exact ⟨_, by (conv => lhs; simp [execOp, resolve, invoke, go_sem, hc, hfn, e4, e9]), (has_fix i q x m n w).mono fun e w' h => ⟨_, h.1, hC.trans (h.2.mono hC.size), h.2, rfl⟩⟩) ?_
  intro A V5 hC hn hd hf
  have y0 : A.eval (.tmp 0) = _ := Eq.trans (hf 0) (by conv => lhs; simp [go_sem])
  have y1 : A.eval (.tmp 1) = _ := Eq.trans (hf 1) (by conv => lhs; simp [go_sem])
  have y2 : A.eval (.tmp 2) = _ := Eq.trans (hf 2) (by conv => lhs; simp [go_sem])
  have y3 : A.eval (.tmp 3) = _ := Eq.trans (hf 3) (by conv => lhs; simp [go_sem])
  have y4 : A.eval (.tmp 4) = _ := hf 4
  have y5 : A.eval (.tmp 5) = _ := hf 5
  have y6 : A.eval (.tmp 6) = _ := hf 6
  have y7 : A.eval (.tmp 7) = _ := hf 7
  have y8 : A.eval (.tmp 8) = _ := hf 8
  have y9 : A.eval (.tmp 9) = _ := hf 9
  have y10 : A.eval (.tmp 10) = _ := hf 10
  clear hf
  have hA := frame_eq hn
  rw [show List.range 11 = [0, 1, 2, 3, 4, 5, 6, 7, 8, 9, 10] from rfl, hd] at hA
  simp only [List.map_cons, List.map_nil, y0, y1, y2, y3, y4, y5, y6, y7, y8, y9, y10] at hA
  clear y0 y1 y2 y3 y4 y5 y6 y7 y8 y9 y10
  clear hn hd
  subst hA
  have HC := Lib.hid hC
  clear kc hC
  go_wp2_with fail
  go_ret
  exact ⟨rfl, HC.out⟩
/-- What a closure tells of what lies at the pointers of Z, in whatever world in which only the row has turned. -/
def Tells (g0 g : Nat) (hit : Nat × Bt × Int → Bool) (Z : Zs1) (w0 : World) : Prop := ∀ z ∈ Z, ∀ W, Chg (fun k => k = g) w0 W → Calls Tryz.prog 167 #[ptr z.1, .pointer (some ⟨g0, 0, none⟩)] W fun e W' => e = .returned (.bool (hit z)) ∧ Below W.heap.size W W'
theorem row_pt {w : World} {g cap n : Nat} {ps : List Nat} (h : OwP w (.slice (some ⟨g, 0, none⟩) n cap) ps) {k p : Nat} (hk : ps[k]? = some p) : w.cell? ⟨g, k, none⟩ = some (ptr p) ∧ w.frozen? ⟨g, k, none⟩ = false := by
  obtain ⟨hk', rfl⟩ := List.getElem?_eq_some_iff.1 hk
  have hn : n = ps.length := by
    obtain ⟨a, c, e⟩ := own_form h
    simp only [Value.slice.injEq] at e
    exact e.2.1
  subst hn
  have h' : OwP w (.slice (some ⟨g, 0, none⟩) ps.length cap) ps := h
  obtain ⟨b, off, h1, h2, h3⟩ := pt_at (Gs_of_own (R := RPT) h').1 (i := k) hk'
  simp only [Option.some.injEq, Addr.mk.injEq, and_true] at h1
  obtain ⟨rfl, rfl⟩ := h1
  rw [Nat.zero_add] at h3
  have e : ps.getD k 0 = ps[k] := by simp [List.getD, hk']
  rw [e] at h3
  exact ⟨h3, World.ownsRow.frozenAt h k⟩
set_option maxHeartbeats 8000000 in
theorem idxf_any (g0 g cap : Nat) (hit : Nat × Bt × Int → Bool) (Z : Zs1) (w0 w : World) (hT : Tells g0 g hit Z w0) (hc : Chg (fun k => k = g) w0 w) (h : OwP w (.slice (some ⟨g, 0, none⟩) Z.length cap) (Z.map Prod.fst)) (hl : Z.length ≤ 1000) :
    Calls Tryz.prog 195 #[.slice (some ⟨g, 0, none⟩) Z.length cap, .func (.func 167) #[] #[.pointer (some ⟨g0, 0, none⟩)]] w fun e w' => ((∃ (k : Nat) (z : Nat × Bt × Int), Z[k]? = some z ∧ hit z = true ∧ (∀ (i : Nat) (y : Nat × Bt × Int), i < k → Z[i]? = some y → hit y = false) ∧ e = .returned (.int .i64 k)) ∨ ((∀ (i : Nat) (y : Nat × Bt × Int), Z[i]? = some y → hit y = false) ∧ e = .returned (.int .i64 (-1)))) ∧ Below w.heap.size w w' := by
  have HT := Lib.hid hT
  have HC := Lib.hid hc
  have HO := Lib.hid h
  clear hT hc h
  go_enter Tryz.func195, Tryz.ntmps195
  go_wp2_with fail
  go_loopw [8] (fun iv wr => ∃ k : Nat, k ≤ Z.length ∧ iv = .int .i64 k ∧ Hid (Below w.heap.size w wr) ∧ Hid (∀ (i : Nat) (y : Nat × Bt × Int), i < k → Z[i]? = some y → hit y = false)) (fun i _ => Z.length - (intOf i).toNat)
  case atStart => exact ⟨0, Nat.zero_le _, rfl, Below.refl _ _, fun i z hi => absurd hi (Nat.not_lt_zero i)⟩
  case round =>
    obtain ⟨k, hk, rfl, HB, HN⟩ := hrel
    by_cases hlt : k < Z.length
    · obtain ⟨z, hz⟩ : ∃ z, Z[k]? = some z := ⟨_, List.getElem?_eq_getElem hlt⟩
      have ho : OwP wr (.slice (some ⟨g, 0, none⟩) Z.length cap) (Z.map Prod.fst) := gown_below HO.out HB.out
      obtain ⟨p0, pf⟩ := row_pt ho (k := k) (p := z.1) (by rw [List.getElem?_map, hz]; rfl)
      have C1 := Lib.hid (HT.out z (List.mem_of_getElem? hz) wr (HC.out.trans (G := fun _ => False) (chg0 HB.out) (fun _ _ e => e.elim)))
      have HZ := Lib.hid hz
      have hltz : (k : Int) < Z.length := by omega
      obtain ⟨p, hp⟩ : ∃ p, z.1 = p := ⟨_, rfl⟩
      rw [hp] at p0 C1
      clear ho pf hz hp
      go_wp2_with fail
      refine C1.out.mono ?_
      rintro e w9 ⟨rfl, hb⟩
      have HB9 := Lib.hid (HB.out.trans (hb.mono HB.out.size))
      clear p0 hb
      cases hh : hit z with
      | true =>
        have HH := Lib.hid hh
        clear hh
        go_wp2_with fail
        go_ret
        exact ⟨.inl ⟨k, z, HZ.out, HH.out, HN.out, rfl⟩, HB9.out⟩
      | false =>
        have HH := Lib.hid hh
        clear hh
        go_wp2_with fail
        go_roundw
        case rel => exact ⟨k + 1, by omega, by go_num, HB9.out, fun i y hi hy => by
          by_cases h9 : i = k
          · subst h9
            have e := hy.symm.trans HZ.out
            cases e
            exact HH.out
          · exact HN.out i y (by omega) hy⟩
        case measure => simp [intOf]; omega
    · obtain rfl : k = Z.length := by omega
      go_wp2_with fail
      go_ret
      exact ⟨.inr ⟨fun i y hy => HN.out i y (List.getElem?_eq_some_iff.1 hy).1 hy, rfl⟩, HB.out⟩
end Go.Proofs.YtdigjklhfimnbaaGreat
namespace Go.Proofs.YtdigjklhfimnbaaGreat
set_option maxRecDepth 100000
set_option linter.unusedVariables false
open Go.RowKit

theorem gpt (ps : List Nat) : gflat RPT ps = ps.map ptr := by
  unfold gflat
  induction ps with
  | nil => rfl
  | cons p ps ih => exact congrArg (List.cons (ptr p)) ih
/-- The row as it stands while some are taken out: the first a are those kept of the first j, those behind j are as they were. -/
structure Mid (hit : Nat × Bt × Int → Bool) (Z : Zs1) (a j : Nat) (R : List Nat) : Prop where
  lt : a < j
  le : j ≤ Z.length
  len : R.length = Z.length
  cnt : a = ((Z.take j).filter fun z => !hit z).length
  head : R.take a = ((Z.take j).filter fun z => !hit z).map Prod.fst
  tail : R.drop j = (Z.drop j).map Prod.fst
theorem filt_all {hit : Nat × Bt × Int → Bool} {Z : Zs1} {k : Nat} (hn : ∀ (i : Nat) (y : Nat × Bt × Int), i < k → Z[i]? = some y → hit y = false) : (Z.take k).filter (fun z => !hit z) = Z.take k := by
  rw [List.filter_eq_self]
  intro y hy
  obtain ⟨i, hi, rfl⟩ := List.mem_iff_getElem.1 hy
  rw [List.length_take] at hi
  have := hn i Z[i] (by omega) (List.getElem?_eq_getElem (by omega))
  rw [List.getElem_take, this]
  rfl
theorem takeZ_one {Z : Zs1} {j : Nat} {z : Nat × Bt × Int} (hz : Z[j]? = some z) : Z.take (j + 1) = Z.take j ++ [z] := by
  obtain ⟨hk, rfl⟩ := List.getElem?_eq_some_iff.1 hz
  rw [List.take_succ_eq_append_getElem hk]
theorem mid_start {hit : Nat × Bt × Int → Bool} {Z : Zs1} {k : Nat} {z : Nat × Bt × Int} (hz : Z[k]? = some z) (hh : hit z = true) (hn : ∀ (i : Nat) (y : Nat × Bt × Int), i < k → Z[i]? = some y → hit y = false) : Mid hit Z k (k + 1) (Z.map Prod.fst) := by
  have hk := (List.getElem?_eq_some_iff.1 hz).1
  have e : (Z.take (k + 1)).filter (fun z => !hit z) = Z.take k := by rw [takeZ_one hz, List.filter_append, filt_all hn, List.filter_cons]; simp [hh]
  refine ⟨Nat.lt_succ_self k, hk, List.length_map .., ?_, ?_, ?_⟩
  · rw [e, List.length_take]; omega
  · rw [e, List.map_take]
  · rw [List.map_drop]
theorem Mid.at {hit : Nat × Bt × Int → Bool} {Z : Zs1} {a j : Nat} {R : List Nat} (h : Mid hit Z a j R) {z : Nat × Bt × Int} (hz : Z[j]? = some z) : R[j]? = some z.1 := by
  have e : R[j]? = (R.drop j)[0]? := by rw [List.getElem?_drop, Nat.add_zero]
  rw [e, h.tail, List.getElem?_map, List.getElem?_drop, Nat.add_zero, hz]
  rfl
theorem drop_one' (R : List Nat) (j : Nat) : R.drop (j + 1) = (R.drop j).drop 1 := by rw [List.drop_drop]
theorem Mid.hit {hit : Nat × Bt × Int → Bool} {Z : Zs1} {a j : Nat} {R : List Nat} (h : Mid hit Z a j R) {z : Nat × Bt × Int} (hz : Z[j]? = some z) (hh : hit z = true) : Mid hit Z a (j + 1) R := by
  have hk := (List.getElem?_eq_some_iff.1 hz).1
  have e : (Z.take (j + 1)).filter (fun z => !hit z) = (Z.take j).filter (fun z => !hit z) := by rw [takeZ_one hz, List.filter_append, List.filter_cons]; simp [hh]
  exact ⟨by have := h.lt; omega, hk, h.len, by rw [e]; exact h.cnt, by rw [e]; exact h.head, by rw [drop_one', h.tail, ← List.map_drop, List.drop_drop]⟩
theorem Mid.keep {hit : Nat × Bt × Int → Bool} {Z : Zs1} {a j : Nat} {R : List Nat} (h : Mid hit Z a j R) {z : Nat × Bt × Int} (hz : Z[j]? = some z) (hh : hit z = false) : Mid hit Z (a + 1) (j + 1) (R.set a z.1) := by
  have hk := (List.getElem?_eq_some_iff.1 hz).1
  have hlt := h.lt
  have hlen := h.len
  have e : (Z.take (j + 1)).filter (fun z => !hit z) = (Z.take j).filter (fun z => !hit z) ++ [z] := by rw [takeZ_one hz, List.filter_append, List.filter_cons]; simp [hh]
  refine ⟨by omega, hk, by rw [List.length_set]; exact h.len, by rw [e, List.length_append, ← h.cnt]; rfl, ?_, ?_⟩
  · rw [e, List.map_append, ← h.head, List.take_succ_eq_append_getElem (by rw [List.length_set]; omega), List.take_set, List.set_eq_of_length_le (by rw [List.length_take]; omega)]
    simp
  · rw [List.drop_set_of_lt (by omega), drop_one', h.tail, ← List.map_drop, List.drop_drop]
theorem OwP.set {w : World} {g cap n a : Nat} {R : List Nat} (h : OwP w (.slice (some ⟨g, 0, none⟩) n cap) R) (p : Nat) : OwP (w.setCell ⟨g, a, none⟩ (ptr p)) (.slice (some ⟨g, 0, none⟩) n cap) (R.set a p) := by
  unfold OwP at h ⊢
  have hn : n = R.length := by
    obtain ⟨a, c, e⟩ := own_form h
    simp only [Value.slice.injEq] at e
    exact e.2.1
  subst hn
  have := (World.ownsRow.stored h a (ptr p)).1
  rw [gpt, List.length_set]
  rw [gpt] at this
  rw [List.map_set]
  exact this
set_option maxHeartbeats 8000000 in
theorem delf_any (g0 g cap : Nat) (hit : Nat × Bt × Int → Bool) (Z : Zs1) (w : World) (hT : Tells g0 g hit Z w) (h : OwP w (.slice (some ⟨g, 0, none⟩) Z.length cap) (Z.map Prod.fst)) (hl : Z.length ≤ 1000) :
    Calls Tryz.prog 166 #[.slice (some ⟨g, 0, none⟩) Z.length cap, .func (.func 167) #[] #[.pointer (some ⟨g0, 0, none⟩)]] w fun e w' => (∃ n, n = (Z.filter fun z => !hit z).length ∧ e = .returned (.slice (some ⟨g, 0, none⟩) n cap) ∧ OwP w' (.slice (some ⟨g, 0, none⟩) n cap) ((Z.filter fun z => !hit z).map Prod.fst)) ∧ Chg (fun k => k = g) w w' := by
  have hcap : Z.length ≤ cap := by
    rcases h.2 with ⟨h1, _⟩ | ⟨g', cap', cur, hv, hb, hg, hnc, hcm, hcs, htake⟩
    · cases h1
    · simp only [Value.slice.injEq] at hv
      rw [List.length_map] at hnc
      omega
  have HT := Lib.hid hT
  have HO := Lib.hid h
  have C1 := Lib.hid (idxf_any g0 g cap hit Z w w hT (Chg.refl _ _) h hl)
  clear hT h
  go_enter Tryz.func166, Tryz.ntmps166
  go_wp2_with fail
  refine C1.out.mono ?_
  rintro e w1 ⟨hcase, hb⟩
  rcases hcase with ⟨k, z, hz, hh, hn, rfl⟩ | ⟨hn, rfl⟩
  · have hm := mid_start hz hh hn
    have HM := Lib.hid hm
    have hk : k < Z.length := (List.getElem?_eq_some_iff.1 hz).1
    have HB := Lib.hid hb
    have hne : ((k : Int) == -1) = false := beq_false_of_ne (by omega)
    clear hz hh hn hm hb C1
    go_wp2_with fail
    go_loopw [5, 6] (fun av jv wr => ∃ (a j : Nat) (R : List Nat), j ≤ Z.length ∧ a < j ∧ av = .int .i64 a ∧ jv = .int .i64 j ∧ Hid (Mid hit Z a j R) ∧ Hid (OwP wr (.slice (some ⟨g, 0, none⟩) Z.length cap) R) ∧ Hid (Chg (fun k => k = g) w wr)) (fun _ j _ => Z.length - (intOf j).toNat)
    case atStart => exact ⟨k, k + 1, _, hk, Nat.lt_succ_self k, rfl, by go_num, HM.out, gown_below HO.out HB.out, chg0 HB.out⟩
    case round =>
      obtain ⟨a, j, R, hj, haj, rfl, rfl, HMD, HR, HC⟩ := hrel
      clear HM HB hne
      by_cases hlt : j < Z.length
      · obtain ⟨z, hz⟩ : ∃ z, Z[j]? = some z := ⟨_, List.getElem?_eq_getElem hlt⟩
        obtain ⟨p0, pf⟩ := row_pt HR.out (HMD.out.at hz)
        have C2 := Lib.hid (HT.out z (List.mem_of_getElem? hz) wr HC.out)
        have HZ := Lib.hid hz
        have hltz : (j : Int) < Z.length := by omega
        obtain ⟨p, hp⟩ : ∃ p, z.1 = p := ⟨_, rfl⟩
        have HP := Lib.hid hp
        rw [hp] at p0 C2
        clear pf hz hp
        go_wp2_with fail
        refine C2.out.mono ?_
        rintro e w9 ⟨rfl, hb9⟩
        have hr9 : OwP w9 (.slice (some ⟨g, 0, none⟩) Z.length cap) R := gown_below HR.out hb9
        have HC9 : Hid (Chg (fun k => k = g) w w9) := HC.out.trans (G := fun _ => False) (chg0 hb9) (fun _ _ e => e.elim)
        have hra : a < R.length := by rw [HMD.out.len]; omega
        obtain ⟨q, hq⟩ : ∃ q, R[a]? = some q := ⟨_, List.getElem?_eq_getElem hra⟩
        obtain ⟨r0, rf⟩ := row_pt hr9 (k := a) (p := q) hq
        have HR9 := Lib.hid hr9
        clear p0 hb9 hr9 hra hq
        cases hh : hit z with
        | true =>
          have HM9 := Lib.hid (HMD.out.hit HZ.out hh)
          clear hh r0 rf
          go_wp2_with fail
          go_roundw
          case rel => exact ⟨a, j + 1, R, by omega, by omega, rfl, by go_num, HM9.out, HR9.out, HC9.out⟩
          case measure => simp [intOf]; omega
        | false =>
          have HM9 := Lib.hid (HMD.out.keep HZ.out hh)
          have HRS := Lib.hid (HR9.out.set (a := a) p)
          have HCS := Lib.hid (HC9.out.setCell (p := ⟨g, a, none⟩) (.inl rfl) (ptr p))
          clear hh
          go_wp2_with fail
          go_roundw
          case rel => exact ⟨a + 1, j + 1, R.set a z.1, by omega, by omega, by go_num, by go_num, HM9.out, by rw [HP.out]; exact HRS.out, HCS.out⟩
          case measure => simp [intOf]; omega
      · obtain rfl : j = Z.length := by omega
        have hm := HMD.out
        have hcn := hm.cnt
        have hhd := hm.head
        rw [List.take_of_length_le (Nat.le_refl _)] at hcn hhd
        have hrl : OwP wr (.slice (some ⟨g, 0, none⟩) R.length cap) R := by rw [hm.len]; exact HR.out
        have hh0 := own_head hrl (m := a) (by have := hm.len; omega)
        have hne2 : ¬ cap = a := by omega
        obtain ⟨w3, hr3, ho3, hg3⟩ := run_clear_own RPT (by decide) wr 0 0 g a (Z.length - a) cap (cap - a) _ hh0 (by omega) (by omega)
        have hr3' : (Builtin.clear_ #[152] 0 #[.slice (some ⟨g, a, none⟩) (Z.length - a) (cap - a)]).run Tryz.prog wr = .ok (.tuple #[]) w3 := by
          have e1 : a * RPT.K = a := Nat.mul_one a
          rw [e1] at hr3
          exact hr3
        have HO3 : Hid (OwP w3 (.slice (some ⟨g, 0, none⟩) a cap) ((Z.filter fun z => !hit z).map Prod.fst)) := by
          show w3.ownsRow 0 170 1 _ (List.map Prod.fst (Z.filter fun z => !hit z)).length _
          rw [gpt, ← hhd, List.length_take, Nat.min_eq_left (by have := hm.len; omega), List.map_take, ← gpt]
          have e1 : a * 1 = a := Nat.mul_one a
          have h9 : w3.ownsRow 0 170 1 (.slice (some ⟨g, 0, none⟩) a cap) a ((gflat RPT R).take (a * 1)) := ho3
          rw [e1] at h9
          exact h9
        have HCF : Hid (Chg (fun k => k = g) w w3) := HC.out.trans ((chg_grown hg3).mono (fun x _ e => by cases e; rfl)) (fun _ _ e => e)
        have HCN := Lib.hid hcn
        clear hm hcn hhd hrl hh0 hr3 ho3 hg3
        go_wp2_with fail
        go_ret
        exact ⟨⟨a, HCN.out, rfl, HO3.out⟩, HCF.out⟩
  · have e : (Z.filter fun z => !hit z) = Z := by
      have h9 := filt_all (k := Z.length) (fun i y _ hy => hn i y hy)
      rw [List.take_of_length_le (Nat.le_refl _)] at h9
      exact h9
    have HB := Lib.hid hb
    have HE := Lib.hid e
    clear hn hb e
    go_wp2_with fail
    go_ret
    exact ⟨⟨_, by rw [HE.out], rfl, by rw [HE.out]; exact gown_below HO.out HB.out⟩, chg0 HB.out⟩
end Go.Proofs.YtdigjklhfimnbaaGreat
