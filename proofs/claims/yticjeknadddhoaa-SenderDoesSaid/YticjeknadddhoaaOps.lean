/- Objects as batches: the reference's Pack whole; rows of batches that are compared. No conditions but on lengths. -/
import Derived.Test.YticjeknadddhoaaOpp
import Derived.Test.YticjeknadddhoaaTyped
import Derived.Test.YticjeknadddhoaaTyp2
namespace Go.Proofs.Yticjeknadddhoaa
set_option maxRecDepth 100000
open Go.RowKit Go.Sort

/-- What Pack answers. -/
def packE (ys : List Ob) (most : Int) : Int := if 40 ≤ most ∧ most ≤ 512 ∧ AllOk ys then (if 1024 < ys.length then 2 else 0) else 1
def packB (ys : List Ob) (first most : Int) : List (Int × List Ob) := if packE ys most = 0 then packL most ys first else []
set_option maxHeartbeats 8000000 in
theorem pack_any (v : Value) (ys : List Ob) (first most : Int) (w : World) (hy : Os w v ys) (hl : ys.length ≤ 3000) :
    Calls Try.prog 31 #[v, .int .i64 first, .int .i64 most] w fun e w' => ∃ r, e = .returned (.tuple #[r, .int .i64 (packE ys most)]) ∧ RowB w' w.heap.size r (packB ys first most) ∧ Below w.heap.size w w' := by
  have fin : ∀ E : Int, E ≠ 0 → packE ys most = E → packB ys first most = [] := fun E h1 h2 => by unfold packB; rw [if_neg (by omega)]
  by_cases hm : 40 ≤ most ∧ most ≤ 512
  · by_cases hok : AllOk ys
    · by_cases h1024 : 1024 < ys.length
      · have hE : packE ys most = 2 := by unfold packE; rw [if_pos ⟨hm.1, hm.2, hok⟩, if_pos h1024]
        rw [fin 2 (by decide) hE, hE]
        obtain ⟨a, c, rfl⟩ := hy.form
        have cS := size_any _ ys w hy (by omega)
        rw [show sizeV ys = 3 + (osz ys : Int) from if_pos hok] at cS
        have hm1 : ¬ most < 40 := by omega
        have hm2 : ¬ (512 : Int) < most := by omega
        have hz : ¬ (3 + (osz ys : Int)) < 0 := by omega
        have hl2 : (1024 : Int) < (ys.length : Int) := by omega
        clear hy hok fin hE
        go_enter Try.func31, Try.ntmps31
        go_wp2_with fail
        refine cS.mono ?_
        rintro e w1 ⟨rfl, hb⟩
        have B1 := Lib.hid hb
        clear hb cS
        go_wp2_with fail
        go_ret2
        exact ⟨_, rfl, RowB_nil _ _, B1.out⟩
      · have hE : packE ys most = 0 := by unfold packE; rw [if_pos ⟨hm.1, hm.2, hok⟩, if_neg h1024]
        rw [packB, if_pos hE, hE]
        exact pack_ok v ys first most w hy (by omega) hok hm
    · have hE : packE ys most = 1 := by unfold packE; rw [if_neg (fun h => hok h.2.2)]
      rw [fin 1 (by decide) hE, hE]
      obtain ⟨a, c, rfl⟩ := hy.form
      have cS := size_any _ ys w hy (by omega)
      rw [show sizeV ys = -1 from if_neg hok] at cS
      have hm1 : ¬ most < 40 := by omega
      have hm2 : ¬ (512 : Int) < most := by omega
      clear hy hok fin hE
      go_enter Try.func31, Try.ntmps31
      go_wp2_with fail
      refine cS.mono ?_
      rintro e w1 ⟨rfl, hb⟩
      have B1 := Lib.hid hb
      clear hb cS
      go_wp2_with fail
      go_ret2
      exact ⟨_, rfl, RowB_nil _ _, B1.out⟩
  · have hE : packE ys most = 1 := by unfold packE; rw [if_neg (fun h => hm ⟨h.1, h.2.1⟩)]
    rw [fin 1 (by decide) hE, hE]
    obtain ⟨a, c, rfl⟩ := hy.form
    clear hy fin hE
    by_cases h40 : most < 40
    · go_enter Try.func31, Try.ntmps31
      go_wp2_with fail
      go_ret2
      exact ⟨_, rfl, RowB_nil _ _, Below.refl _ _⟩
    · have h512 : (512 : Int) < most := by omega
      go_enter Try.func31, Try.ntmps31
      go_wp2_with fail
      go_ret2
      exact ⟨_, rfl, RowB_nil _ _, Below.refl _ _⟩
/-- A slice of batches that reads as bs. -/
def Bts (w : World) (v : Value) (bs : List (Int × List Ob)) : Prop :=
  (∃ a cap, v = .slice a 0 cap ∧ bs = []) ∨
  ∃ b off cap, v = .slice (some ⟨b, off, none⟩) bs.length cap ∧ ∀ i, i < bs.length → w.cell? ⟨b, off + i * 2, none⟩ = some (.int .i64 (bs.getD i zb).1) ∧ ∃ s, w.cell? ⟨b, off + i * 2 + 1, none⟩ = some s ∧ Os w s (bs.getD i zb).2
theorem Bts.below {w w' : World} {v : Value} {bs : List (Int × List Ob)} (h : Bts w v bs) (hb : Below w.heap.size w w') : Bts w' v bs := by
  rcases h with h | ⟨b, off, cap, h1, h2⟩
  · exact .inl h
  · refine .inr ⟨b, off, cap, h1, fun i hi => ?_⟩
    obtain ⟨k1, s, k2, k3⟩ := h2 i hi
    exact ⟨by rw [hb.cell (World.block_lt_of_cell? w _ k1)]; exact k1, s, by rw [hb.cell (World.block_lt_of_cell? w _ k2)]; exact k2, k3.below hb⟩
theorem Bts.form {w : World} {v : Value} {bs : List (Int × List Ob)} (h : Bts w v bs) : ∃ a c, v = .slice a bs.length c := by
  rcases h with ⟨a, cap, h1, rfl⟩ | ⟨b, off, cap, h1, _⟩
  · exact ⟨a, cap, h1⟩
  · exact ⟨_, _, h1⟩
theorem brow_ext {xs zs : List (Int × List Ob)} (hl : xs.length = zs.length) (h : ∀ i, i < xs.length → xs.getD i zb = zs.getD i zb) : xs = zs := by
  refine List.ext_getElem hl fun i h1 h2 => ?_
  have := h i h1
  simpa [List.getD, h1, h2] using this
theorem Bts.at {w : World} {a : Option Addr} {c : Nat} {bs : List (Int × List Ob)} (h : Bts w (.slice a bs.length c) bs) {i : Nat} (hi : i < bs.length) : ∃ b off, a = some ⟨b, off, none⟩ ∧ w.cell? ⟨b, off + i * 2, none⟩ = some (.int .i64 (bs.getD i zb).1) ∧ ∃ s, w.cell? ⟨b, off + i * 2 + 1, none⟩ = some s ∧ Os w s (bs.getD i zb).2 := by
  rcases h with ⟨a', cap, hv, rfl⟩ | ⟨b, off, cap, hv, h2⟩
  · simp at hi
  · simp only [Value.slice.injEq] at hv
    exact ⟨b, off, hv.1, h2 i hi⟩
end Go.Proofs.Yticjeknadddhoaa

