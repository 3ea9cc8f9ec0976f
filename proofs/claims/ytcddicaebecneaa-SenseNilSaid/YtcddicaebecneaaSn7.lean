/- The reference's New of a sensor. No conditions. -/
import Derived.Test.YtcddicaebecneaaSn5
import Derived.Laws.MakeOwn
namespace Go.Proofs.Ytcddicaebecneaa
set_option maxRecDepth 100000
open Go.RowKit

theorem infoHD : (Try.prog.info? 81).map (fun i => (i.zero, i.size, i.bytes)) = some (some (.agg #[.bool false, .int .i64 0, .int .i64 0, .bool false]), 4, 32) := by kernel_rfl
theorem underHS : Try.prog.underlying 74 = some (.slice 81) := by kernel_rfl
/-- A row of sixty-four of which nothing is remembered. -/
theorem made_row (w : World) : ∃ V, w.alloc (.cells (madeCells #[.bool false, .int .i64 0, .int .i64 0, .bool false] 256) 81) = V ∧ (Instr.makeSlice 74 (.int .i64 64) (.int .i64 64)).run Try.prog w = .ok (.slice (some ⟨w.heap.size, 0, none⟩) 64 64) V := by
  obtain ⟨i0, hi, hz0, hz1, hz2⟩ := info_parts infoHD
  have h := run_makeSlice (P := Try.prog) (w := w) 74 81 i0 _ underHS hi hz0 .i64 .i64 64 64 (by decide) (by decide) (by rw [hz1]; decide) (by rw [hz2]; decide) (by decide)
  rw [hz1] at h
  exact ⟨_, rfl, h⟩
theorem rep_at (n i : Nat) : (List.replicate n zHd).getD i zHd = zHd := by
  simp only [List.getD, List.getElem?_replicate]
  split <;> rfl
theorem made_c4 (w V : World) (hV : w.alloc (.cells (madeCells #[.bool false, .int .i64 0, .int .i64 0, .bool false] 256) 81) = V) (i : Nat) (hi : i < 64) : C4 V w.heap.size (i * 4) zHd := by
  have e : ∀ j, j < 4 → V.cell? ⟨w.heap.size, i * 4 + j, none⟩ = some ((#[.bool false, .int .i64 0, .int .i64 0, .bool false] : Array Value)[j]!) := fun j hj => by
    rw [← hV]
    have h1 : i * 4 + j < 256 := by omega
    have h2 : (i * 4 + j) % 4 = j := by omega
    simp [madeCells, h1, h2]
  exact ⟨e 0 (by decide), e 1 (by decide), e 2 (by decide), e 3 (by decide)⟩
/-- Numbers that a sensor may be made of. -/
def newOk (id ep hold : Int) : Prop := 0 ≤ id ∧ id < 64 ∧ EpOk ep ∧ 1 ≤ hold ∧ hold ≤ 1000000
def sn0 (id ep hold : Int) : Sn := ⟨id, ep, hold, 0, List.replicate 64 zHd⟩
set_option maxHeartbeats 8000000 in
theorem rnew_any (id ep hold : Int) (w : World) : Calls Try.prog 11 #[.int .i64 id, .int .i64 ep, .int .i64 hold] w fun e w' => Below w.heap.size w w' ∧
    ((¬ newOk id ep hold ∧ e = .returned (.tuple #[.pointer none, .int .i64 1])) ∨ (newOk id ep hold ∧ ∃ b g, e = .returned (.tuple #[.pointer (some ⟨b, 0, none⟩), .int .i64 0]) ∧ XS w' b g (sn0 id ep hold) ∧ w.heap.size ≤ b ∧ w.heap.size ≤ g)) := by
  by_cases g1 : id < 0
  · have HN : Hid (¬ newOk id ep hold) := fun h => by have := h.1; omega
    go_enter Try.func11, Try.ntmps11
    go_wp2_with fail
    refine bodyPost_ret (v := .tuple #[.pointer none, .int .i64 1]) (by simp [results, Try.results11, go_sem]) rfl ?_
    exact ⟨Below.refl _ _, .inl ⟨HN.out, rfl⟩⟩
  · by_cases g2 : id ≥ 64
    · have HN : Hid (¬ newOk id ep hold) := fun h => by have := h.2.1; omega
      have g2' : 64 ≤ id := g2
      go_enter Try.func11, Try.ntmps11
      go_wp2_with fail
      refine bodyPost_ret (v := .tuple #[.pointer none, .int .i64 1]) (by simp [results, Try.results11, go_sem]) rfl ?_
      exact ⟨Below.refl _ _, .inl ⟨HN.out, rfl⟩⟩
    · have g2' : ¬ 64 ≤ id := g2
      by_cases g3 : EpOk ep
      · have C := Lib.hid (fun W => repoch_fix ep true (iff_of_true rfl g3) W)
        have G3 := Lib.hid g3
        clear g3
        by_cases g4 : hold < 1
        · have HN : Hid (¬ newOk id ep hold) := fun h => by have := h.2.2.2.1; omega
          go_enter Try.func11, Try.ntmps11
          go_wp2_with fail
          refine (C.out _).mono ?_
          rintro e w1 ⟨rfl, rfl⟩
          go_wp2_with fail
          refine bodyPost_ret (v := .tuple #[.pointer none, .int .i64 1]) (by simp [results, Try.results11, go_sem]) rfl ?_
          exact ⟨Below.refl _ _, .inl ⟨HN.out, rfl⟩⟩
        · by_cases g5 : hold > 1000000
          · have HN : Hid (¬ newOk id ep hold) := fun h => by have := h.2.2.2.2; omega
            have g5' : 1000000 < hold := g5
            go_enter Try.func11, Try.ntmps11
            go_wp2_with fail
            refine (C.out _).mono ?_
            rintro e w1 ⟨rfl, rfl⟩
            go_wp2_with fail
            refine bodyPost_ret (v := .tuple #[.pointer none, .int .i64 1]) (by simp [results, Try.results11, go_sem]) rfl ?_
            exact ⟨Below.refl _ _, .inl ⟨HN.out, rfl⟩⟩
          · have HN : Hid (newOk id ep hold) := ⟨by omega, by omega, G3.out, by omega, by omega⟩
            have g5' : ¬ 1000000 < hold := g5
            go_enter Try.func11, Try.ntmps11
            go_wp2_with fail
            refine (C.out _).mono ?_
            rintro e w1 ⟨rfl, rfl⟩
            obtain ⟨V, hV, hm⟩ := made_row w
            have hc4 := made_c4 w V hV
            have hgz : ∀ k, V.frozen? ⟨w.heap.size, k, none⟩ = false := fun k => by rw [← hV]; simp
            have hbv : Below w.heap.size w V := hV ▸ (Below.refl _ w).alloc (Nat.le_refl _) _
            have hsv : V.heap.size = w.heap.size + 1 := by rw [← hV]; simp
            obtain ⟨W, hW⟩ : ∃ W, V.alloc (.cells #[.int .i64 id, .int .i64 ep, .int .i64 hold, .int .i64 0, .slice (some ⟨w.heap.size, 0, none⟩) 64 64] 76) = W := ⟨_, rfl⟩
            have hbw : Below V.heap.size V W := hW ▸ (Below.refl _ V).alloc (Nat.le_refl _) _
            have hxs : XS W V.heap.size w.heap.size (sn0 id ep hold) := by
              refine ⟨by omega, ?_, fun k => by rw [← hW]; simp, List.length_replicate, fun i hi => ?_, fun k => (hbw.frozen (p := ⟨w.heap.size, k, none⟩) (by show w.heap.size < _; omega)).trans (hgz k)⟩
              · rw [← hW]
                exact ⟨by simp [sn0], by simp [sn0], by simp [sn0], by simp [sn0], by simp⟩
              · have e : (sn0 id ep hold).L.getD i zHd = zHd := rep_at 64 i
                rw [e]
                exact (hc4 i hi).chg (F := fun _ => False) (chg0 hbw) (fun h => h)
            have HXS := Lib.hid hxs
            have HBW : Hid (Below w.heap.size w W) := hbv.trans (hbw.mono hbv.size)
            have HSV := Lib.hid hsv
            have HW := Lib.hid hW
            clear hc4 hgz hbv hsv hbw hxs hW hV
            go_wp2_with fail
            rw [HW.out]
            refine bodyPost_ret (v := .tuple #[.pointer (some ⟨V.heap.size, 0, none⟩), .int .i64 0]) (by simp [results, Try.results11, go_sem]) rfl ?_
            exact ⟨HBW.out, .inr ⟨HN.out, _, _, rfl, HXS.out, by have := HSV.out; omega, Nat.le_refl _⟩⟩
      · have C := Lib.hid (fun W => repoch_fix ep false (iff_of_false (by decide) g3) W)
        have HN : Hid (¬ newOk id ep hold) := fun h => g3 h.2.2.1
        clear g3
        go_enter Try.func11, Try.ntmps11
        go_wp2_with fail
        refine (C.out _).mono ?_
        rintro e w1 ⟨rfl, rfl⟩
        go_wp2_with fail
        refine bodyPost_ret (v := .tuple #[.pointer none, .int .i64 1]) (by simp [results, Try.results11, go_sem]) rfl ?_
        exact ⟨Below.refl _ _, .inl ⟨HN.out, rfl⟩⟩
end Go.Proofs.Ytcddicaebecneaa
