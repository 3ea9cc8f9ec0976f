/- Mathematics of sensors: two that hear one another. No walks. -/
import Derived.Test.YtcddicaebecneaaSn10
namespace Go.Proofs.Ytcddicaebecneaa
set_option maxRecDepth 100000

theorem tm_zero {s : Sn} (h : s.now = 0) : tmB s 0 = true := by unfold tmB; rw [h]; rfl
theorem sees_nil (s : Sn) : seesB s [] = false := rfl
theorem sees_one {s : Sn} {i n : Int} (h1 : s.id = i) (h2 : s.ep = n) : seesB s [(i, n)] = true := by
  unfold seesB hear
  rw [h1, h2]
  simp
theorem bea_one {s : Sn} {i : Nat} (hi : i < 64) {z : Hd} (hL : s.L = L1 i z) : beaL s = if z.1 = true then [((i : Int), z.2.1)] else [] := by unfold beaL; rw [hL]; exact ech_one (fun h => h.1) rfl i hi z
theorem lnk_one {s : Sn} {i : Nat} (hi : i < 64) {z : Hd} (hL : s.L = L1 i z) : lnkL s = if z.2.2.2 = true then [((i : Int), z.2.1)] else [] := by unfold lnkL; rw [hL]; exact ech_one (fun h => h.2.2.2) rfl i hi z
theorem okH_one {s : Sn} {fr M i n : Int} (hnow : s.now = 0) (h0 : 0 ≤ fr) (h1 : fr < 64) (hne : fr ≠ s.id) (hM : EpOk M) (hi0 : 0 ≤ i) (hi1 : i < 64) (hn : EpOk n) : okH s 0 fr M [(i, n)] :=
  ⟨tm_zero hnow, h0, h1, hne, beok_of (List.pairwise_singleton _ _) (fun y hy => by rw [List.mem_singleton.1 hy]; exact ⟨hi0, hi1, hn⟩) hM⟩
theorem okH_nil {s : Sn} {fr M : Int} (hnow : s.now = 0) (h0 : 0 ≤ fr) (h1 : fr < 64) (hne : fr ≠ s.id) (hM : EpOk M) : okH s 0 fr M [] :=
  ⟨tm_zero hnow, h0, h1, hne, beok_of List.Pairwise.nil (fun y hy => by cases hy) hM⟩
/-- The steps of two that meet: a hears b, b hears a. -/
theorem meets {a b first second hold other : Int} (hs : newOk a first hold) (ht : newOk b second other) (hab : a ≠ b) :
    beaL (sn0 a first hold) = [] ∧
    hearR (sn0 b second other) 0 a first [] = ([], 0, ⟨b, second, other, 0, L1 a.toNat (true, first, 0, false)⟩) ∧
    beaL ⟨b, second, other, 0, L1 a.toNat (true, first, 0, false)⟩ = [(a, first)] ∧
    hearR (sn0 a first hold) 0 b second [(a, first)] = ([(1, b, second)], 0, ⟨a, first, hold, 0, L1 b.toNat (true, second, 0, true)⟩) ∧
    beaL ⟨a, first, hold, 0, L1 b.toNat (true, second, 0, true)⟩ = [(b, second)] ∧
    hearR ⟨b, second, other, 0, L1 a.toNat (true, first, 0, false)⟩ 0 a first [(b, second)] = ([(1, a, first)], 0, ⟨b, second, other, 0, L1 a.toNat (true, first, 0, true)⟩) ∧
    (tickE ⟨a, first, hold, 0, L1 b.toNat (true, second, 0, true)⟩ hold = 0 ∧ tickO ⟨a, first, hold, 0, L1 b.toNat (true, second, 0, true)⟩ hold = [] ∧ tickS ⟨a, first, hold, 0, L1 b.toNat (true, second, 0, true)⟩ hold = ⟨a, first, hold, hold, L1 b.toNat (true, second, 0, true)⟩) ∧
    (tickE ⟨a, first, hold, hold, L1 b.toNat (true, second, 0, true)⟩ (hold + 1) = 0 ∧ tickO ⟨a, first, hold, hold, L1 b.toNat (true, second, 0, true)⟩ (hold + 1) = [(2, b, second)] ∧ tickS ⟨a, first, hold, hold, L1 b.toNat (true, second, 0, true)⟩ (hold + 1) = ⟨a, first, hold, hold + 1, L1 b.toNat zHd⟩) ∧
    lnkL ⟨a, first, hold, hold + 1, L1 b.toNat zHd⟩ = [] ∧ lnkL ⟨b, second, other, 0, L1 a.toNat (true, first, 0, true)⟩ = [(a, first)] := by
  obtain ⟨a0, a1, aE, h1, h2⟩ := hs
  obtain ⟨b0, b1, bE, _, _⟩ := ht
  have ea : ((a.toNat : Nat) : Int) = a := by omega
  have eb : ((b.toNat : Nat) : Int) = b := by omega
  have la : a.toNat < 64 := by omega
  have lb : b.toNat < 64 := by omega
  refine ⟨ech_zero _ rfl 64, ?_, ?_, ?_, ?_, ?_, ⟨?_, ?_, ?_⟩, ⟨?_, ?_, ?_⟩, ?_, ?_⟩
  · have := hear_first (s := sn0 b second other) rfl (okH_nil (fr := a) rfl a0 a1 hab aE)
    rw [sees_nil] at this
    exact this
  · rw [bea_one la rfl, if_pos rfl, ea]
  · have := hear_first (s := sn0 a first hold) rfl (okH_one (fr := b) rfl b0 b1 (fun e => hab e.symm) bE a0 a1 aE)
    rw [show seesB (sn0 a first hold) [(a, first)] = true from sees_one rfl rfl] at this
    exact this
  · rw [bea_one lb rfl, if_pos rfl, eb]
  · have := hear_again (s := ⟨b, second, other, 0, L1 a.toNat (true, first, 0, false)⟩) a0 a1 rfl (okH_one (fr := a) rfl a0 a1 hab aE b0 b1 bE)
    rw [show seesB ⟨b, second, other, 0, L1 a.toNat (true, first, 0, false)⟩ [(b, second)] = true from sees_one rfl rfl] at this
    exact this
  · unfold tickE
    rw [if_pos (by unfold tmB; rw [decide_eq_true (show (0 : Int) ≤ hold by omega), decide_eq_true (show hold ≤ 1000000000000 by omega)]; rfl)]
  · unfold tickO
    rw [if_pos (by unfold tmB; rw [decide_eq_true (show (0 : Int) ≤ hold by omega), decide_eq_true (show hold ≤ 1000000000000 by omega)]; rfl)]
    show tkO hold hold (L1 b.toNat (true, second, 0, true)) 64 = []
    rw [tkO_one hold hold _ lb, if_neg]
    rintro ⟨h, _⟩
    unfold gon at h
    rw [decide_eq_false (show ¬ hold < hold - 0 by omega)] at h
    cases h
  · unfold tickS
    rw [if_pos (by unfold tmB; rw [decide_eq_true (show (0 : Int) ≤ hold by omega), decide_eq_true (show hold ≤ 1000000000000 by omega)]; rfl)]
    show Sn.mk a first hold hold (tkL hold hold (L1 b.toNat (true, second, 0, true)) 64) = _
    rw [tkL_one hold hold _ lb]
    unfold frg gon
    rw [decide_eq_false (show ¬ hold < hold - 0 by omega)]
    rfl
  · unfold tickE
    rw [if_pos (by unfold tmB; rw [decide_eq_true (show hold ≤ hold + 1 by omega), decide_eq_true (show hold + 1 ≤ 1000000000000 by omega)]; rfl)]
  · unfold tickO
    rw [if_pos (by unfold tmB; rw [decide_eq_true (show hold ≤ hold + 1 by omega), decide_eq_true (show hold + 1 ≤ 1000000000000 by omega)]; rfl)]
    show tkO (hold + 1) hold (L1 b.toNat (true, second, 0, true)) 64 = [(2, b, second)]
    rw [tkO_one (hold + 1) hold _ lb, if_pos ⟨by unfold gon; rw [decide_eq_true (show hold < hold + 1 - 0 by omega)]; rfl, rfl⟩, eb]
  · unfold tickS
    rw [if_pos (by unfold tmB; rw [decide_eq_true (show hold ≤ hold + 1 by omega), decide_eq_true (show hold + 1 ≤ 1000000000000 by omega)]; rfl)]
    show Sn.mk a first hold (hold + 1) (tkL (hold + 1) hold (L1 b.toNat (true, second, 0, true)) 64) = _
    rw [tkL_one (hold + 1) hold _ lb]
    unfold frg gon
    rw [decide_eq_true (show hold < hold + 1 - 0 by omega)]
    rfl
  · rw [lnk_one lb rfl, if_neg (fun h => by cases h)]
  · rw [lnk_one la rfl, if_pos rfl, ea]
end Go.Proofs.Ytcddicaebecneaa
