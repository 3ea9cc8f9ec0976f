/- The reference's views: Own, Same, Get, Right. No conditions but on lengths. -/
import Derived.Test.YtahhhegknmiinaaVrw
import Derived.Deep.RegionHeld3
import Derived.Orders
namespace Go.Proofs.Ytahhhegknmiinaa
set_option maxRecDepth 100000
open Go.RowKit

theorem vrow_ext {l l' : List Vw} (hn : l.length = l'.length) (h : ∀ i, i < l.length → l.getD i zVw = l'.getD i zVw) : l = l' := by
  refine List.ext_getElem hn fun i h1 h2 => ?_
  have := h i h1
  simpa [List.getD, h1, h2] using this
theorem vtake_succ (l : List Vw) (k : Nat) (h : k < l.length) : l.take (k + 1) = l.take k ++ [l.getD k zVw] := by
  rw [List.take_add_one]
  simp [List.getD, h]
/-- A whole readable slice behind a row of one's own. -/
theorem run_gappv (w : World) (ty : TypeId) (S : Nat) (v : Value) (xs : List Vw) (hown : OwV w S v xs) (u : Value) (ys : List Vw) (hu : Vs w u ys) (hl : xs.length + ys.length ≤ 3000) (hS : S ≤ w.heap.size) :
    ∃ r w', (Builtin.append_ #[22, 22] ty #[v, u]).run Try.prog w = .ok r w' ∧ OwV w' S r (xs ++ ys) ∧ w.grownBy w' v.ownBlock ∧ (∀ g, r.ownBlock = some g → v.ownBlock = some g ∨ w.heap.size ≤ g) := by
  obtain ⟨i0, hi, hz0, hz1, hz2⟩ := info_parts RV.hinfo
  have e : gflat RV (xs ++ ys) = gflat RV xs ++ gflat RV ys := gflat_app RV xs ys
  have e2 : (xs ++ ys).length = xs.length + ys.length := by simp
  have hfy : (gflat RV ys).length = ys.length * 7 := gflat_len RV ys
  have hone := gflat_ones RV ys
  have hby : (xs.length + ys.length) * 56 ≤ 140737488355328 := Nat.le_trans (Nat.mul_le_mul_right 56 hl) (by decide)
  have go : ∀ (a : Addr) (c : Nat), (∀ j q, (gflat RV ys)[j]? = some q → w.cell? (a.add j) = some q) →
      ∃ r w', (Builtin.append_ #[22, 22] ty #[v, .slice (some a) ys.length c]).run Try.prog w = .ok r w' ∧ OwV w' S r (xs ++ ys) ∧ w.grownBy w' v.ownBlock ∧ (∀ g, r.ownBlock = some g → v.ownBlock = some g ∨ w.heap.size ≤ g) := by
    intro a c hnews
    obtain ⟨v', w', hr, h2, h3, _, h5⟩ := run_append_own_at (P := Try.prog) w S 22 ty 40 i0 RV.zero 7 56 RV.hSL hi hz0 hz1 hz2 RV.hz (by decide) v xs.length (gflat RV xs) hown a ys.length c (gflat RV ys) hfy hnews hone (by unfold maxLen; omega) hby hS
    refine ⟨v', w', hr, ?_, h3, fun g hg => ?_⟩
    · unfold OwV
      rw [e, e2]; exact h2
    · rcases h5 with h | h
      · exact .inl (h ▸ hg)
      · rw [h] at hg
        exact .inr (by cases hg; exact Nat.le_refl _)
  rcases hu with ⟨a, cap, rfl, hc, rfl⟩ | ⟨b, off, cap, rfl, h2, h3, h4⟩
  · cases a with
    | none =>
      obtain rfl := hc rfl
      refine ⟨v, w, run_append_owned_none (P := Try.prog) (w := w) S 22 ty 40 i0 7 RV.hSL hi v xs.length (gflat RV xs) hown, ?_, ⟨rfl, rfl, rfl, Nat.le_refl _, fun _ _ _ => rfl⟩, fun g hg => .inl hg⟩
      exact (congrArg (fun z : List Vw => OwV w S v z) (List.append_nil xs)).mpr hown
    | some a => exact go a cap (fun j q hj => by simp [gflat] at hj)
  · refine go ⟨b, off, none⟩ cap (fun j q hj => ?_)
    have hlt := (List.getElem?_eq_some_iff.1 hj).1
    rw [hfy] at hlt
    have hd : j / 7 < ys.length := by omega
    have h5 := h4 (j / 7) hd (j % 7) (Nat.mod_lt _ (by decide))
    have h6 := gflat_at RV ys (j / 7) (j % 7) hd (Nat.mod_lt _ (by decide))
    have h7 : j / 7 * RV.K + j % 7 = j := by show j / 7 * 7 + j % 7 = j; omega
    rw [h7] at h6
    rw [add_spot', ← hj, h6, ← h5]
    congr 2
    show off + j = off + j / 7 * 7 + j % 7
    omega
/-- The reference's Own: views in memory of their own. -/
theorem rvown_any (v : Value) (l : List Vw) (w : World) (h : Vs w v l) (hl : l.length ≤ 1000) :
    Calls Try.prog 9 #[v] w fun e w' => (∃ a c, e = .returned (.slice a l.length c) ∧ OwV w' w.heap.size (.slice a l.length c) l) ∧ Below w.heap.size w w' := by
  obtain ⟨r, w2, hr, ho, hg, _⟩ := run_gappv w 22 w.heap.size (.slice none 0 0) [] (OwV_nil w _) v l h (by simp; omega) (Nat.le_refl _)
  rw [List.nil_append] at ho
  obtain ⟨a, c, rfl⟩ := h.form
  obtain ⟨a2, c2, rfl⟩ := ho.form
  have HO := Lib.hid ho
  have HB : Hid (Below w.heap.size w w2) := (Below.refl _ w).grown hg (Nat.le_refl _) (fun k hk => by cases hk)
  clear ho hg h
  go_enter Try.func9, Try.ntmps9
  go_wp2_with (at_builtin; refine app_go rfl (.tmp 4) (.tmp 5) 22 rfl _ _ _ _ rfl rfl hr ?_)
  go_ret
  exact ⟨⟨a2, c2, rfl, HO.out⟩, HB.out⟩
set_option maxHeartbeats 8000000 in
/-- The reference's Same of views. -/
theorem rvsame_any (v u : Value) (ys zs : List Vw) (w : World) (hy : Vs w v ys) (hz : Vs w u zs) (hl : ys.length ≤ 3000) :
    Calls Try.prog 19 #[v, u] w fun e w' => e = .returned (.bool (decide (ys = zs))) ∧ Below w.heap.size w w' := by
  obtain ⟨a, c, rfl⟩ := hy.form
  obtain ⟨a', c', rfl⟩ := hz.form
  have HY := Lib.hid hy
  have HZ := Lib.hid hz
  clear hy hz
  by_cases hne : ys.length = zs.length
  · have hL : ((ys.length : Int) != (zs.length : Int)) = false := by rw [hne]; simp
    have HN := Lib.hid hne
    clear hne
    go_enter Try.func19, Try.ntmps19
    go_wp2_with fail
    go_loopw [5] (fun i wr => ∃ k : Nat, k ≤ ys.length ∧ i = .int .i64 k ∧ (∀ i, i < k → ys.getD i zVw = zs.getD i zVw) ∧ Below w.heap.size w wr) (fun i _ => ys.length - (intOf i).toNat)
    case atStart => exact ⟨0, Nat.zero_le _, rfl, fun i h => absurd h (Nat.not_lt_zero _), Below.refl _ _⟩
    case round =>
      obtain ⟨k, hk, rfl, hsame, hbel⟩ := hrel
      have HS := Lib.hid hsame
      have HW := Lib.hid hbel
      clear hsame hbel
      by_cases hlt : k < ys.length
      · obtain ⟨b, off, rfl, hB, p0, p1, p2, p3, p4, p5, p6⟩ := (HY.out.below HW.out).at hlt
        have hlt2 : k < zs.length := by have := HN.out; omega
        obtain ⟨b2, off2, rfl, hB2, q0, q1, q2, q3, q4, q5, q6⟩ := (HZ.out.below HW.out).at hlt2
        obtain ⟨y, hyk⟩ : ∃ y, ys.getD k zVw = y := ⟨_, rfl⟩
        obtain ⟨z, hzk⟩ : ∃ z, zs.getD k zVw = z := ⟨_, rfl⟩
        rw [hyk] at p0 p1 p2 p3 p4 p5 p6
        rw [hzk] at q0 q1 q2 q3 q4 q5 q6
        have HK := Lib.hid hyk
        have HK2 := Lib.hid hzk
        clear hyk hzk
        have E1 := guardVW
        have E2 := fun W => neqVW y z W
        obtain ⟨q, hq⟩ : ∃ q, eqVw y z = q := ⟨_, rfl⟩
        have HQ : Hid (q = true ↔ y = z) := by rw [← hq]; exact eqVw_iff
        simp only [hq] at E2
        clear hq
        go_wp2_with fail
        go_region
        cases q with
        | true =>
          go_wp2_with fail
          go_roundw
          case rel =>
            refine ⟨k + 1, by omega, by go_num, ?_, HW.out.drew⟩
            intro j hj
            by_cases h : j < k
            · exact HS.out j h
            · obtain rfl : j = k := by omega
              rw [HK.out, HK2.out]; exact HQ.out.1 rfl
          case measure => simp [intOf]; omega
        | false =>
          go_wp2_with fail
          go_ret
          refine ⟨?_, HW.out.drew⟩
          have hn : ¬ ys = zs := fun h => by
            subst h
            have := HQ.out.2 (HK.out.symm.trans HK2.out)
            cases this
          rw [decide_eq_false hn]
          rfl
      · obtain rfl : k = ys.length := by omega
        go_wp2_with fail
        go_ret
        rw [decide_eq_true (vrow_ext HN.out HS.out)]
        exact ⟨rfl, HW.out⟩
  · have hL : ((ys.length : Int) != (zs.length : Int)) = true := by simpa using fun h : (ys.length : Int) = zs.length => hne (Int.ofNat.inj h)
    go_enter Try.func19, Try.ntmps19
    go_wp2_with fail
    go_ret
    rw [decide_eq_false (fun h => hne (congrArg List.length h))]
    exact ⟨rfl, Below.refl _ _⟩
end Go.Proofs.Ytahhhegknmiinaa
