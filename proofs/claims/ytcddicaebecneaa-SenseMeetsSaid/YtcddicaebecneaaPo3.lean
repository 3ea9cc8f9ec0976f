/- What is told of a node whose memory turns (turned). No conditions. -/
import Derived.Test.YtcddicaebecneaaPo1
import Derived.Test.YtcddicaebecneaaSn6
namespace Go.Proofs.Ytcddicaebecneaa
set_option maxRecDepth 100000
open Go.RowKit

/-- The events by which x becomes y. -/
def tnO (id : Int) (x y : Hd) : List Ev :=
  if x.2.2.2 = true ∧ y.2.2.2 = true ∧ x.2.1 = y.2.1 then [] else (if x.2.2.2 = true then [(2, id, x.2.1)] else []) ++ (if y.2.2.2 = true then [(1, id, y.2.1)] else [])
theorem tn_len (id : Int) (x y : Hd) : (tnO id x y).length ≤ 2 := by
  unfold tnO
  split
  · decide
  · rw [List.length_append]
    split <;> split <;> simp
set_option maxHeartbeats 4000000 in
theorem turned_any (id : Int) (x y : Hd) (w : World) :
    Calls Try.prog 44 #[.int .i64 id, .agg #[.bool x.1, .int .i64 x.2.1, .int .i64 x.2.2.1, .bool x.2.2.2], .agg #[.bool y.1, .int .i64 y.2.1, .int .i64 y.2.2.1, .bool y.2.2.2]] w fun e w' => (∃ a c, e = .returned (.slice a (tnO id x y).length c) ∧ OwV3 w' w.heap.size (.slice a (tnO id x y).length c) (tnO id x y)) ∧ Below w.heap.size w w' := by
  obtain ⟨R, hR⟩ : ∃ R, tnO id x y = R := ⟨_, rfl⟩
  rw [hR]
  obtain ⟨W1, hW1⟩ : ∃ W1, w.alloc (.cells #[.bool x.1, .int .i64 x.2.1, .int .i64 x.2.2.1, .bool x.2.2.2] 70) = W1 := ⟨_, rfl⟩
  obtain ⟨W2, hW2⟩ : ∃ W2, W1.alloc (.cells #[.bool y.1, .int .i64 y.2.1, .int .i64 y.2.2.1, .bool y.2.2.2] 70) = W2 := ⟨_, rfl⟩
  obtain ⟨p, hp⟩ : ∃ p, w.heap.size = p := ⟨_, rfl⟩
  obtain ⟨q, hq⟩ : ∃ q, p + 1 = q := ⟨_, rfl⟩
  have hq1 : W1.heap.size = q := by rw [← hq, ← hp, ← hW1]; simp
  have hs2 : W2.heap.size = q + 1 := by rw [← hq1, ← hW2]; simp
  have hb1 : Below w.heap.size w W1 := hW1 ▸ (Below.refl _ w).alloc (Nat.le_refl _) _
  have hb2 : Below W1.heap.size W1 W2 := hW2 ▸ (Below.refl _ W1).alloc (Nat.le_refl _) _
  have hx1 : C4 W1 p 0 x := by rw [← hW1, ← hp]; exact ⟨by simp, by simp, by simp, by simp⟩
  have hx2 : C4 W2 p 0 x := hx1.chg (F := fun _ => False) (chg0 hb2) (fun h => h)
  have hy2 : C4 W2 q 0 y := by rw [← hW2, ← hq1]; exact ⟨by simp, by simp, by simp, by simp⟩
  have HB : Hid (Below w.heap.size w W2) := hb1.trans (hb2.mono hb1.size)
  have HX := Lib.hid hx2
  have HY := Lib.hid hy2
  have HR := Lib.hid hR
  have HW1 := Lib.hid hW1
  have HW2 := Lib.hid hW2
  have HP := Lib.hid hp
  have HQ := Lib.hid hq
  have HS : Hid (w.heap.size ≤ W2.heap.size) := by show _ ≤ _; omega
  obtain ⟨x0, x1, x2, x3⟩ := hx2
  obtain ⟨y0, y1, y2, y3⟩ := hy2
  clear hR hW1 hW2 hp hq hq1 hs2 hb1 hb2 hx1
  simp only [Nat.zero_add] at x1 x2 x3 y1 y2 y3
  by_cases gx' : x.2.2.2 = false
  · have gx := gx'
    clear gx'
    rw [gx] at x3
    by_cases gy' : y.2.2.2 = false
    · have gy := gy'
      clear gy'
      have GY := Lib.hid gy
      rw [gy] at y3
      have hr : ([] : List Ev) = R := by rw [← HR.out]; unfold tnO; rw [gx, gy]; rfl
      clear gx gy
      go_enter Try.func44, Try.ntmps44
      go_upto_region 1 with (fail)
      rw [HW1.out]
      rw [HW2.out]
      try simp only [HP.out, HQ.out]
      go_wp2_with fail
      go_ret
      exact ⟨⟨none, 0, by rw [← hr]; rfl, by rw [← hr]; exact OwV3_nil _ _⟩, HB.out⟩
    · have gy : y.2.2.2 = true := by simpa using gy'
      clear gy'
      have GY := Lib.hid gy
      rw [gy] at y3
      have hr : [((1, id, y.2.1) : Ev)] = R := by rw [← HR.out]; unfold tnO; rw [gx, gy]; rfl
      clear gx gy
      go_enter Try.func44, Try.ntmps44
      go_upto_region 1 with (fail)
      rw [HW1.out]
      rw [HW2.out]
      try simp only [HP.out, HQ.out]
      go_wp2_with (at_builtin; refine eapp3_any rfl (.tmp 32) (.tmp 37) rfl W2 (1, id, y.2.1) rfl W2.heap.size (.slice none 0 0) [] rfl rfl (OwV3_nil _ _) (by decide) (Nat.le_refl _) ?_; intro g1 cap1 wa ho1 hb1; have HO1 := Lib.hid ho1; have HA1 := Lib.hid hb1; clear ho1 hb1)
      go_ret
      exact ⟨⟨some ⟨g1, 0, none⟩, cap1, by rw [← hr]; rfl, by rw [← hr]; exact HO1.out.mono HS.out⟩, HB.out.trans (HA1.out.mono HS.out)⟩
  · have gx : x.2.2.2 = true := by simpa using gx'
    clear gx'
    rw [gx] at x3
    by_cases gy' : y.2.2.2 = false
    · have gy := gy'
      clear gy'
      have GY := Lib.hid gy
      rw [gy] at y3
      have hr : [((2, id, x.2.1) : Ev)] = R := by rw [← HR.out]; unfold tnO; rw [gx, gy]; rfl
      clear gx gy
      go_enter Try.func44, Try.ntmps44
      go_upto_region 1 with (fail)
      rw [HW1.out]
      rw [HW2.out]
      try simp only [HP.out, HQ.out]
      go_upto_region 6 with (at_builtin; refine eapp3_any rfl (.tmp 23) (.tmp 28) rfl W2 (2, id, x.2.1) rfl W2.heap.size (.slice none 0 0) [] rfl rfl (OwV3_nil _ _) (by decide) (Nat.le_refl _) ?_; intro g1 cap1 wa ho1 hb1; have HO1 := Lib.hid ho1; have HA1 := Lib.hid hb1; clear ho1 hb1)
      obtain ⟨z0, z1, z2, z3⟩ := HY.out.chg (F := fun _ => False) (chg0 HA1.out) (fun h => h)
      simp only [Nat.zero_add] at z1 z2 z3
      rw [GY.out] at z3
      go_wp2_with fail
      go_ret
      exact ⟨⟨some ⟨g1, 0, none⟩, cap1, by rw [← hr]; rfl, by rw [← hr]; exact HO1.out.mono HS.out⟩, HB.out.trans (HA1.out.mono HS.out)⟩
    · have gy : y.2.2.2 = true := by simpa using gy'
      clear gy'
      have GY := Lib.hid gy
      rw [gy] at y3
      by_cases ge : x.2.1 = y.2.1
      · have hr : ([] : List Ev) = R := by rw [← HR.out]; unfold tnO; rw [gx, gy, if_pos ⟨rfl, rfl, ge⟩]
        have GE := Lib.hid ge
        clear gx gy ge
        go_enter Try.func44, Try.ntmps44
        go_upto_region 1 with (fail)
        rw [HW1.out]
        rw [HW2.out]
        try simp only [HP.out, HQ.out]
        have ge := GE.out
        go_wp2_with fail
        go_ret
        exact ⟨⟨none, 0, by rw [← hr]; rfl, by rw [← hr]; exact OwV3_nil _ _⟩, HB.out⟩
      · have hr : [((2, id, x.2.1) : Ev), (1, id, y.2.1)] = R := by rw [← HR.out]; unfold tnO; rw [gx, gy, if_neg (fun h => ge h.2.2)]; rfl
        clear gx gy
        go_enter Try.func44, Try.ntmps44
        go_upto_region 1 with (fail)
        rw [HW1.out]
        rw [HW2.out]
        try simp only [HP.out, HQ.out]
        go_upto_region 6 with (at_builtin; refine eapp3_any rfl (.tmp 23) (.tmp 28) rfl W2 (2, id, x.2.1) rfl W2.heap.size (.slice none 0 0) [] rfl rfl (OwV3_nil _ _) (by decide) (Nat.le_refl _) ?_; intro g1 cap1 wa ho1 hb1; have HO1 := Lib.hid ho1; have HA1 := Lib.hid hb1; clear ho1 hb1)
        obtain ⟨z0, z1, z2, z3⟩ := HY.out.chg (F := fun _ => False) (chg0 HA1.out) (fun h => h)
        simp only [Nat.zero_add] at z1 z2 z3
        rw [GY.out] at z3
        go_wp2_with (at_builtin; refine eapp3_any rfl (.tmp 32) (.tmp 37) rfl wa (1, id, y.2.1) rfl W2.heap.size (.slice (some ⟨g1, 0, none⟩) 1 cap1) [(2, id, x.2.1)] rfl rfl HO1.out (show 1 ≤ 3000 by decide) HA1.out.size ?_; intro g2 cap2 wb ho2 hb2; have HO2 := Lib.hid ho2; have HA2 := Lib.hid hb2; clear ho2 hb2)
        go_ret
        exact ⟨⟨some ⟨g2, 0, none⟩, cap2, by rw [← hr]; rfl, by rw [← hr]; exact HO2.out.mono HS.out⟩, (HB.out.trans (HA1.out.mono HS.out)).trans (HA2.out.mono HS.out)⟩
end Go.Proofs.Ytcddicaebecneaa
