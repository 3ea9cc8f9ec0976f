/- The reference's links: Same of levels. Conditions on lengths. The law's examples. A row of marks; which levels were seen. No conditions. -/
import Derived.Test.YtmimgpnogjgliaaRa
import Derived.Test.YtmimgpnogjgliaaRc
import Derived.Laws.MakeOwn
import Derived.Laws.Rows
namespace Go.Proofs.Ytmimgpnogjgliaa
set_option maxRecDepth 100000
open Go.RowKit

theorem neqLV (x y : Lv) (w : World) : (binOp .neq 49 (.agg #[.int .i64 x.1, .int .i64 x.2.1, .int .i64 x.2.2]) (.agg #[.int .i64 y.1, .int .i64 y.2.1, .int .i64 y.2.2])).run Try.prog w = .ok (.bool (!eqL x.1 x.2.1 x.2.2 y.1 y.2.1 y.2.2)) w := by
  rw [run_neq_struct, run_eq25]; rfl
theorem lrow_ext {l l' : List Lv} (hn : l.length = l'.length) (h : ∀ i, i < l.length → l.getD i (0, 0, 0) = l'.getD i (0, 0, 0)) : l = l' := by
  refine List.ext_getElem hn fun i h1 h2 => ?_
  have := h i h1
  simpa [List.getD, h1, h2] using this
set_option maxHeartbeats 8000000 in
theorem rlsame_any (v u : Value) (ys zs : List Lv) (w : World) (hy : Ls w v ys) (hz : Ls w u zs) (hl : ys.length ≤ 3000) :
    Calls Try.prog 19 #[v, u] w fun e w' => e = .returned (.bool (decide (ys = zs))) ∧ Below w.heap.size w w' := by
  obtain ⟨a, c, rfl⟩ := hy.form
  obtain ⟨a', c', rfl⟩ := hz.form
  have HY := Lib.hid hy
  have HZ := Lib.hid hz
  clear hy hz
  by_cases hne : ys.length = zs.length
  · have hL : ((ys.length : Int) != (zs.length : Int)) = false := by rw [hne]; simp
    have HN := Lib.hid hne
    clear hne
    go_enter Try.func19, Try.ntmps19
    go_wp2_with fail
    go_loopw [5] (fun i wr => ∃ k : Nat, k ≤ ys.length ∧ i = .int .i64 k ∧ (∀ i, i < k → ys.getD i (0, 0, 0) = zs.getD i (0, 0, 0)) ∧ Below w.heap.size w wr) (fun i _ => ys.length - (intOf i).toNat)
    case atStart => exact ⟨0, Nat.zero_le _, rfl, fun i h => absurd h (Nat.not_lt_zero _), Below.refl _ _⟩
    case round =>
      obtain ⟨k, hk, rfl, hsame, hbel⟩ := hrel
      have HS := Lib.hid hsame
      have HW := Lib.hid hbel
      clear hsame hbel
      by_cases hlt : k < ys.length
      · obtain ⟨b, off, rfl, hB, p0, p1, p2⟩ := (HY.out.below HW.out).at hlt
        have hlt2 : k < zs.length := by have := HN.out; omega
        obtain ⟨b2, off2, rfl, hB2, q0, q1, q2⟩ := (HZ.out.below HW.out).at hlt2
        obtain ⟨y, hyk⟩ : ∃ y, ys.getD k (0, 0, 0) = y := ⟨_, rfl⟩
        obtain ⟨z, hzk⟩ : ∃ z, zs.getD k (0, 0, 0) = z := ⟨_, rfl⟩
        rw [hyk] at p0 p1 p2
        rw [hzk] at q0 q1 q2
        have HK := Lib.hid hyk
        have HK2 := Lib.hid hzk
        clear hyk hzk
        have E1 := guard25
        have E2 := fun W => neqLV y z W
        obtain ⟨q, hq⟩ : ∃ q, eqL y.1 y.2.1 y.2.2 z.1 z.2.1 z.2.2 = q := ⟨_, rfl⟩
        have HQ : Hid (q = true ↔ y = z) := by rw [← hq]; exact eqLv_iff'
        simp only [hq] at E2
        clear hq
        go_wp2_with fail
        go_region
        cases q with
        | true =>
          go_wp2_with fail
          go_roundw
          case rel =>
            refine ⟨k + 1, by omega, by go_num, ?_, HW.out.drew⟩
            intro j hj
            by_cases h : j < k
            · exact HS.out j h
            · obtain rfl : j = k := by omega
              rw [HK.out, HK2.out]; exact HQ.out.1 rfl
          case measure => simp [intOf]; omega
        | false =>
          go_wp2_with fail
          go_ret
          refine ⟨?_, HW.out.drew⟩
          have hn : ¬ ys = zs := fun h => by
            subst h
            have := HQ.out.2 (HK.out.symm.trans HK2.out)
            cases this
          rw [decide_eq_false hn]
          rfl
      · obtain rfl : k = ys.length := by omega
        go_wp2_with fail
        go_ret
        rw [decide_eq_true (lrow_ext HN.out HS.out)]
        exact ⟨rfl, HW.out⟩
  · have hL : ((ys.length : Int) != (zs.length : Int)) = true := by simpa using fun h => hne (by omega)
    go_enter Try.func19, Try.ntmps19
    go_wp2_with fail
    go_ret
    rw [decide_eq_false (fun h => hne (congrArg List.length h))]
    exact ⟨rfl, Below.refl _ _⟩
theorem lsame_yes {v u : Value} {xs : List Lv} {w : World} (hv : Ls w v xs) (hu : Ls w u xs) (hl : xs.length ≤ 3000) : Calls Try.prog 19 #[v, u] w fun e w' => e = .returned (.bool true) ∧ Below w.heap.size w w' :=
  (rlsame_any v u xs xs w hv hu hl).mono (fun e w' h => ⟨by rw [h.1, decide_eq_true rfl], h.2⟩)
theorem lvlF_len (l : List Vw) : (lvlF l).length ≤ l.length := by
  refine Nat.le_trans (cpk_len _ _) ?_
  unfold lvlR
  rw [List.length_map, (vord_perm _).length_eq]
  exact List.length_filter_le _ _
end Go.Proofs.Ytmimgpnogjgliaa

namespace Go.Proofs.Ytmimgpnogjgliaa
set_option maxRecDepth 100000
open Go.RowKit

def la1 : Vw := (1, (false, 0, 0, 0, 0, 1))
def la2 : Vw := (2, (true, 0, 0, 0, 0, 2))
theorem la_next : nxtF [la1, la2] (false, 0, 0, 0, 0, 2) = (1, true) := by decide
theorem la_d1 : dirF (true, 0, 0, 0, 0, 2) (false, 0, 0, 0, 0, 1) = 1 := by decide
theorem la_d2 : dirF (false, 0, 0, 0, 0, 1) (true, 0, 0, 0, 0, 2) = 0 := by decide
theorem la_d3 : dirF (false, 0, 0, 0, 0, 2) (false, 0, 0, 0, 0, 1) = 1 := by decide
theorem la_vs (w : World) : Vs (w.alloc (.cells #[.int .i64 1, .bool false, .int .i64 0, .int .i64 0, .int .i64 0, .int .i64 0, .int .i64 1, .int .i64 2, .bool true, .int .i64 0, .int .i64 0, .int .i64 0, .int .i64 0, .int .i64 2] 43)) (.slice (some ⟨w.heap.size, 0, none⟩) 2 2) [la1, la2] := by
  refine Or.inr ⟨w.heap.size, 0, 2, rfl, Nat.le_refl _, by simp, fun i hi => ?_⟩
  match i, hi with
  | 0, _ => exact seven_gc (by refine ⟨?_, ?_, ?_, ?_, ?_, ?_, ?_⟩ <;> simp <;> rfl)
  | 1, _ => exact seven_gc (by refine ⟨?_, ?_, ?_, ?_, ?_, ?_, ?_⟩ <;> simp <;> rfl)
set_option maxHeartbeats 4000000 in
theorem awake18 (w : World) : Calls Try.prog 18 #[] w fun e w' => e = .returned (.bool true) ∧ Below w.heap.size w w' := by
  obtain ⟨W2, hW2⟩ : ∃ W2, (w.alloc (.cells #[.bool false, .int .i64 0, .int .i64 0, .int .i64 0, .int .i64 0, .int .i64 1] 24)).alloc (.cells #[.bool true, .int .i64 0, .int .i64 0, .int .i64 0, .int .i64 0, .int .i64 2] 24) = W2 := ⟨_, rfl⟩
  have hq : Own6 (w.alloc (.cells #[.bool false, .int .i64 0, .int .i64 0, .int .i64 0, .int .i64 0, .int .i64 1] 24)) w.heap.size false 0 0 0 0 1 := own6_alloc w false 0 0 0 0 1 24 w.heap.size rfl
  have hb1 : Below w.heap.size w (w.alloc (.cells #[.bool false, .int .i64 0, .int .i64 0, .int .i64 0, .int .i64 0, .int .i64 1] 24)) := (Below.refl _ w).alloc (Nat.le_refl _) _
  have O1 := Lib.hid (hW2 ▸ hq.below ((Below.refl _ _).alloc (Nat.le_refl _) _) : Own6 W2 w.heap.size false 0 0 0 0 1)
  have O2 := Lib.hid (hW2 ▸ own6_alloc (w.alloc (.cells #[.bool false, .int .i64 0, .int .i64 0, .int .i64 0, .int .i64 0, .int .i64 1] 24)) true 0 0 0 0 2 24 (w.heap.size + 1) (by simp) : Own6 W2 (w.heap.size + 1) true 0 0 0 0 2)
  have HB := Lib.hid (hW2 ▸ hb1.alloc hb1.size _ : Below w.heap.size w W2)
  have HW2 := Lib.hid hW2
  have C := Lib.hid (lnext_any (.slice (some ⟨W2.heap.size, 0, none⟩) 2 2) [la1, la2] (false, 0, 0, 0, 0, 2) (W2.alloc (.cells #[.int .i64 1, .bool false, .int .i64 0, .int .i64 0, .int .i64 0, .int .i64 0, .int .i64 1, .int .i64 2, .bool true, .int .i64 0, .int .i64 0, .int .i64 0, .int .i64 0, .int .i64 2] 43)) (la_vs W2) (by decide))
  rw [la_next] at C
  have hb3 : Below W2.heap.size W2 (W2.alloc (.cells #[.int .i64 1, .bool false, .int .i64 0, .int .i64 0, .int .i64 0, .int .i64 0, .int .i64 1, .int .i64 2, .bool true, .int .i64 0, .int .i64 0, .int .i64 0, .int .i64 0, .int .i64 2] 43)) := (Below.refl _ W2).alloc (Nat.le_refl _) _
  have HB3 := Lib.hid hb3
  have D0 := Lib.hid (fun W => dir_any (true, 0, 0, 0, 0, 2) (false, 0, 0, 0, 0, 1) W)
  have D1 := Lib.hid (fun W => dir_any (false, 0, 0, 0, 0, 1) (true, 0, 0, 0, 0, 2) W)
  have D2 := Lib.hid (fun W => dir_any (false, 0, 0, 0, 0, 2) (false, 0, 0, 0, 0, 1) W)
  rw [la_d1] at D0
  rw [la_d2] at D1
  rw [la_d3] at D2
  clear hW2 hq hb1 hb3
  go_enter Try.func18, Try.ntmps18
  go_upto_region 3 with (fail)
  change Code.wp _ _ _ _ ((w.alloc (.cells #[.bool false, .int .i64 0, .int .i64 0, .int .i64 0, .int .i64 0, .int .i64 1] 24)).alloc (.cells #[.bool true, .int .i64 0, .int .i64 0, .int .i64 0, .int .i64 0, .int .i64 2] 24))
  rw [HW2.out]
  obtain ⟨⟨a0, a1, a2, a3, a4, a5⟩, _⟩ := O1.out
  obtain ⟨⟨d0, d1, d2, d3, d4, d5⟩, _⟩ := O2.out
  go_wp2_with (go_at_call 9; refine C.out.mono ?_; rintro e V0 ⟨rfl, hb⟩; have hb4 := HB3.out.trans (hb.mono HB3.out.size); have HB0 := Lib.hid (HB.out.trans (hb4.mono HB.out.size)); have O10 := Lib.hid (O1.out.below hb4); have O20 := Lib.hid (O2.out.below hb4); clear hb hb4 HB O1 O2 HB3 a0 a1 a2 a3 a4 a5 d0 d1 d2 d3 d4 d5; obtain ⟨⟨a0, a1, a2, a3, a4, a5⟩, _⟩ := O10.out; obtain ⟨⟨d0, d1, d2, d3, d4, d5⟩, _⟩ := O20.out)
  go_wp2_with fail
  refine (D0.out _).mono ?_
  rintro e V1 ⟨rfl, hb⟩
  have HB1 := Lib.hid (HB0.out.trans (hb.mono HB0.out.size))
  have O11 := Lib.hid (O10.out.below hb)
  have O21 := Lib.hid (O20.out.below hb)
  clear hb HB0 O10 O20 a0 a1 a2 a3 a4 a5 d0 d1 d2 d3 d4 d5
  obtain ⟨⟨a0, a1, a2, a3, a4, a5⟩, _⟩ := O11.out
  obtain ⟨⟨d0, d1, d2, d3, d4, d5⟩, _⟩ := O21.out
  go_wp2_with fail
  refine (D1.out _).mono ?_
  rintro e V2 ⟨rfl, hb⟩
  have HB2 := Lib.hid (HB1.out.trans (hb.mono HB1.out.size))
  have O12 := Lib.hid (O11.out.below hb)
  have O22 := Lib.hid (O21.out.below hb)
  clear hb HB1 O11 O21 a0 a1 a2 a3 a4 a5 d0 d1 d2 d3 d4 d5
  obtain ⟨⟨a0, a1, a2, a3, a4, a5⟩, _⟩ := O12.out
  obtain ⟨⟨d0, d1, d2, d3, d4, d5⟩, _⟩ := O22.out
  go_wp2_with fail
  refine (D2.out _).mono ?_
  rintro e V3 ⟨rfl, hb⟩
  have HB3 := Lib.hid (HB2.out.trans (hb.mono HB2.out.size))
  have O13 := Lib.hid (O12.out.below hb)
  have O23 := Lib.hid (O22.out.below hb)
  clear hb HB2 O12 O22 a0 a1 a2 a3 a4 a5 d0 d1 d2 d3 d4 d5
  obtain ⟨⟨a0, a1, a2, a3, a4, a5⟩, _⟩ := O13.out
  obtain ⟨⟨d0, d1, d2, d3, d4, d5⟩, _⟩ := O23.out
  go_wp2_with fail
  go_ret
  exact ⟨rfl, HB3.out⟩
end Go.Proofs.Ytmimgpnogjgliaa

namespace Go.Proofs.Ytmimgpnogjgliaa
set_option maxRecDepth 100000
open Go.RowKit Go.WideShapes Go.ChangeShapes

theorem some_lt {w : World} {b : Nat} {o : Obj} (h : w.heap[b]? = some o) : b < w.heap.size := (Array.getElem?_eq_some_iff.1 h).1
/-- Marks, in a block of their own. -/
def CamB (w : World) (g : Nat) (cs : List Bool) : Prop := w.heap[g]? = some (.cells (cs.map Value.bool).toArray 4)
theorem CamB.lt {w : World} {g : Nat} {cs : List Bool} (h : CamB w g cs) : g < w.heap.size := some_lt h
theorem CamB.below {w w' : World} {g : Nat} {cs : List Bool} (h : CamB w g cs) (hb : Below w.heap.size w w') : CamB w' g cs := (hb.block g h.lt).trans h
theorem CamB.at {w : World} {g : Nat} {cs : List Bool} (h : CamB w g cs) {j : Nat} (hj : j < cs.length) : w.cell? ⟨g, j, none⟩ = some (.bool (cs.getD j false)) ∧ w.frozen? ⟨g, j, none⟩ = false := by
  have h' : w.heap[g]? = some (.cells (cs.map Value.bool).toArray 4) := h
  constructor
  · simp [World.cell?, h', List.getD, hj]
  · simp [World.frozen?, h']
theorem CamB.set {w : World} {g : Nat} {cs : List Bool} (h : CamB w g cs) (j : Nat) : CamB (w.setCell ⟨g, j, none⟩ (.bool true)) g (cs.set j true) := by
  have h' : w.heap[g]? = some (.cells (cs.map Value.bool).toArray 4) := h
  show _ = _
  rw [heap_setCell_same w g j _ 4 _ h', List.map_set]
  simp
theorem made_bools (n : Nat) : madeCells #[.bool false] n = ((List.replicate n false).map Value.bool).toArray := by
  refine Array.ext (by simp [madeCells]) (fun i h1 h2 => ?_)
  simp [madeCells, Nat.mod_one]
theorem infoBL : (Try.prog.info? 4).map (fun i => (i.zero, i.size, i.bytes)) = some (some (.bool false), 1, 1) := by kernel_rfl
theorem underBO : Try.prog.underlying 50 = some (.slice 4) := by kernel_rfl
theorem run_bools (w : World) (n : Nat) (hn : n ≤ 1000) : ∃ w', (Instr.makeSlice 50 (.int .i64 n) (.int .i64 n)).run Try.prog w = .ok (.slice (some ⟨w.heap.size, 0, none⟩) n n) w' ∧ CamB w' w.heap.size (List.replicate n false) ∧ Below w.heap.size w w' := by
  obtain ⟨i0, hi, hz0, hz1, hz2⟩ := info_parts infoBL
  have hr := run_makeSlice (P := Try.prog) w 50 4 i0 _ underBO hi hz0 .i64 .i64 (n : Int) (n : Int) (by omega) (Int.le_refl _) (by rw [hz1]; simp; omega) (by rw [hz2]; omega) (by omega)
  simp only [Int.toNat_natCast] at hr
  refine ⟨_, hr, ?_, (Below.refl _ w).alloc (Nat.le_refl _) _⟩
  show _ = _
  rw [heap_alloc_new, hz1, Nat.mul_one]
  show some (Obj.cells (madeCells #[.bool false] n) 4 _) = _
  rw [made_bools]
/-- Which levels were seen of the first i views, and up to k of the next one. -/
def Sn (ls : List Lv) (z : List Vw) (i k : Nat) (bs : List Bool) : Prop := bs.length = ls.length ∧ ∀ m, m < ls.length → (bs.getD m false = true ↔ (∃ j, j < i ∧ tld (z.getD j zVw).2 = true ∧ lv3 (z.getD j zVw) = ls.getD m (0, 0, 0)) ∨ (m < k ∧ tld (z.getD i zVw).2 = true ∧ lv3 (z.getD i zVw) = ls.getD m (0, 0, 0)))
section
variable {ls : List Lv} {z : List Vw} {i k : Nat} {bs : List Bool}
theorem Sn.start (ls : List Lv) (z : List Vw) : Sn ls z 0 0 (List.replicate ls.length false) := by
  refine ⟨by simp, fun m hm => ⟨fun h => ?_, fun h => ?_⟩⟩
  · simp [List.getD, hm] at h
  · rcases h with ⟨j, hj, _⟩ | ⟨hj, _⟩
    · omega
    · omega
theorem Sn.hit (h : Sn ls z i k bs) (hk : k < ls.length) (ht : tld (z.getD i zVw).2 = true) (he : lv3 (z.getD i zVw) = ls.getD k (0, 0, 0)) : Sn ls z i (k + 1) (bs.set k true) := by
  refine ⟨by rw [List.length_set]; exact h.1, fun m hm => ?_⟩
  by_cases e : k = m
  · subst e
    have : (bs.set k true).getD k false = true := by simp [List.getD, show k < bs.length by rw [h.1]; exact hk]
    rw [this]
    exact ⟨fun _ => .inr ⟨by omega, ht, he⟩, fun _ => rfl⟩
  · have : (bs.set k true).getD m false = bs.getD m false := by simp [List.getD, e]
    rw [this, h.2 m hm]
    exact ⟨fun h => h.imp (fun h => h) (fun h => ⟨by omega, h.2⟩), fun h => h.imp (fun h => h) (fun h => ⟨by omega, h.2⟩)⟩
theorem Sn.miss (h : Sn ls z i k bs) (he : ¬ lv3 (z.getD i zVw) = ls.getD k (0, 0, 0)) : Sn ls z i (k + 1) bs := by
  refine ⟨h.1, fun m hm => ?_⟩
  rw [h.2 m hm]
  refine ⟨fun h => h.imp (fun h => h) (fun h => ⟨by omega, h.2⟩), fun h => h.imp (fun h => h) (fun h => ⟨?_, h.2⟩)⟩
  have : m ≠ k := fun e => he (e ▸ h.2.2)
  omega
theorem Sn.next (h : Sn ls z i ls.length bs) : Sn ls z (i + 1) 0 bs := by
  refine ⟨h.1, fun m hm => ?_⟩
  rw [h.2 m hm]
  constructor
  · rintro (⟨j, hj, hh⟩ | ⟨_, hh⟩)
    · exact .inl ⟨j, by omega, hh⟩
    · exact .inl ⟨i, by omega, hh⟩
  · rintro (⟨j, hj, hh⟩ | ⟨hj, _⟩)
    · by_cases e : j = i
      · subst e; exact .inr ⟨hm, hh⟩
      · exact .inl ⟨j, by omega, hh⟩
    · omega
theorem Sn.skip (h : Sn ls z i 0 bs) (ht : tld (z.getD i zVw).2 = false) : Sn ls z (i + 1) 0 bs := by
  refine ⟨h.1, fun m hm => ?_⟩
  rw [h.2 m hm]
  constructor
  · rintro (⟨j, hj, hh⟩ | ⟨hj, _⟩)
    · exact .inl ⟨j, by omega, hh⟩
    · omega
  · rintro (⟨j, hj, hh⟩ | ⟨hj, _⟩)
    · by_cases e : j = i
      · subst e; rw [ht] at hh; exact absurd hh.1 (by decide)
      · exact .inl ⟨j, by omega, hh⟩
    · omega
end
theorem Sn.all {z : List Vw} {bs : List Bool} (h : Sn (lvlF z) z z.length 0 bs) {m : Nat} (hm : m < (lvlF z).length) : bs.getD m false = true := by
  refine (h.2 m hm).2 (.inl ?_)
  have hx : (lvlF z).getD m (0, 0, 0) ∈ lvlF z := by simp [List.getD, hm]
  obtain ⟨y, hy, ht, he⟩ := mem_lvlF.1 hx
  obtain ⟨j, hj, rfl⟩ := List.getElem_of_mem hy
  have e : z.getD j zVw = z[j] := by simp [List.getD, hj]
  exact ⟨j, hj, by rw [e]; exact ht, by rw [e]; exact he⟩
/-- Levels that rise, as Order tells it. -/
theorem lvl_rise (z : List Vw) {i : Nat} (h : i + 1 < (lvlF z).length) : cmpL (lrow ((lvlF z).getD i (0, 0, 0))) (lrow ((lvlF z).getD (i + 1) (0, 0, 0))) < 0 := by
  have := List.pairwise_iff_getElem.1 (lvlF_up z) i (i + 1) (by omega) h (by omega)
  have e1 : (lvlF z).getD i (0, 0, 0) = (lvlF z)[i] := by simp [List.getD, show i < (lvlF z).length by omega]
  have e2 : (lvlF z).getD (i + 1) (0, 0, 0) = (lvlF z)[i + 1] := by simp [List.getD, h]
  rw [e1, e2]
  exact this
theorem lvl_in {z : List Vw} {i : Nat} (hi : i < z.length) (ht : tld (z.getD i zVw).2 = true) : ∃ m, m < (lvlF z).length ∧ lv3 (z.getD i zVw) = (lvlF z).getD m (0, 0, 0) := by
  obtain ⟨m, hm, e⟩ := List.getElem_of_mem (mem_lvlF.2 ⟨_, getD_mem hi, ht, rfl⟩)
  exact ⟨m, hm, by rw [← e]; simp [List.getD, hm]⟩
theorem vok_nul {z : List Vw} (h : VOk z) {i : Nat} (hi : i < z.length) : tld (z.getD i zVw).2 = !(z.getD i zVw).2.1 := by
  have h1 := ((vok_iff z).1 h).2 _ (getD_mem hi)
  have h2 : HtOk (z.getD i zVw).2.1 (z.getD i zVw).2.2.1 (z.getD i zVw).2.2.2.1 (z.getD i zVw).2.2.2.2.1 (z.getD i zVw).2.2.2.2.2.1 (z.getD i zVw).2.2.2.2.2.2 := h1.2.1
  show told (z.getD i zVw).2.1 (z.getD i zVw).2.2.1 (z.getD i zVw).2.2.2.1 (z.getD i zVw).2.2.2.2.1 (z.getD i zVw).2.2.2.2.2.1 (z.getD i zVw).2.2.2.2.2.2 = _
  unfold told
  rw [decide_eq_true h2]
  simp
end Go.Proofs.Ytmimgpnogjgliaa
