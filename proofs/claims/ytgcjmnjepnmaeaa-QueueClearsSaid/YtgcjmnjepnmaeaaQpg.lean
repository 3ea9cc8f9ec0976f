/- What the program's queue answers: the ring. -/
import Derived.Test.YtgcjmnjepnmaeaaQrd
import Derived.Test.YtgcjmnjepnmaeaaQra
import Derived.Test.YtgcjmnjepnmaeaaQst
namespace Go.Proofs.Ytgcjmnjepnmaeaa
set_option maxRecDepth 100000
open Go.RowKit

/-- The program's queue: a ring in the block b. -/
def PQ (w : World) (F : Nat → Prop) (b : Nat) (m : Int) (l : List Pk) : Prop := (∀ k, F k ↔ k = b) ∧ ∃ bg c R, Ring w b m bg c R ∧ held bg c R = l
theorem held_nil (bg : Nat) (R : Nat → Pk) : held bg 0 R = [] := rfl
theorem held_head (bg c : Nat) (R : Nat → Pk) (hb : bg < 64) (hc : 0 < c) : firstV (held bg c R) = R bg ∧ firstE (held bg c R) = 0 := by
  obtain ⟨c', rfl⟩ : ∃ c', c = c' + 1 := ⟨c - 1, by omega⟩
  have e : held bg (c' + 1) R = R ((bg + 0) % 64) :: (List.range c').map (fun i => R ((bg + (i + 1)) % 64)) := by
    unfold held
    rw [List.range_succ_eq_map, List.map_cons, List.map_map]
    rfl
  rw [e]
  have e0 : (bg + 0) % 64 = bg := by omega
  rw [e0]
  exact ⟨rfl, if_neg (by simp)⟩
theorem qc : Qc PQ where
  lt := by
    rintro w F b m l ⟨hF, bg, c, R, h, _⟩ k hk
    rw [(hF k).1 hk]
    exact h.lt
  len := by
    rintro w F b m l ⟨hF, bg, c, R, h, rfl⟩
    rw [held_len]
    exact h.hm
  keep := by
    rintro w w' F G b m l ⟨hF, bg, c, R, h, hl⟩ hg hn
    exact ⟨hF, bg, c, R, h.chg hg (hn b ((hF b).2 rfl)), hl⟩
  new_no := fun hm w => qnew_no hm w
  new_ok := fun hm w => (qnew_ok hm w).mono (by
    rintro e w' ⟨rfl, hr, hb⟩
    exact ⟨w.heap.size, fun k => k = w.heap.size, rfl, ⟨fun _ => Iff.rfl, 0, 0, _, hr, rfl⟩, fun k hk => Nat.le_of_eq hk.symm, hb⟩)
  put := by
    rintro w F b m l y ⟨hF, bg, c, R, h, rfl⟩
    by_cases hy : y.Ok
    · by_cases hc : (c : Int) < m
      · refine (qput_ok b m bg c R y w h hc (fun w => (kcheckP y w).mono (by rw [if_pos hy]; exact fun _ _ h => h))).mono ?_
        rintro e w' ⟨rfl, hr, hg⟩
        have hc64 : c < 64 := by have := h.hm; omega
        refine ⟨?_, hg.mono (fun k _ hk => (hF k).2 hk), F, ⟨hF, bg, c + 1, _, hr, ?_⟩, fun k hk => .inl hk⟩
        · unfold putE
          rw [if_neg (fun hn => hn hy), if_neg (by rw [held_len]; omega)]
        · unfold putL
          rw [if_pos ⟨hy, by rw [held_len]; exact hc⟩]
          exact held_put R y hc64
      · refine (qput_no b m bg c R y w h 8 (.inr ⟨hy, by omega, rfl⟩)).mono ?_
        rintro e w' ⟨rfl, hb⟩
        refine ⟨?_, chg0 hb, F, ⟨hF, bg, c, R, h.chg (F := fun _ => False) (chg0 hb) (fun h => h), ?_⟩, fun k hk => .inl hk⟩
        · unfold putE
          rw [if_neg (fun hn => hn hy), if_pos (by rw [held_len]; omega)]
        · unfold putL
          rw [if_neg (by rw [held_len]; omega)]
    · refine (qput_no b m bg c R y w h 1 (.inl ⟨hy, rfl⟩)).mono ?_
      rintro e w' ⟨rfl, hb⟩
      refine ⟨?_, chg0 hb, F, ⟨hF, bg, c, R, h.chg (F := fun _ => False) (chg0 hb) (fun h => h), ?_⟩, fun k hk => .inl hk⟩
      · unfold putE
        rw [if_pos hy]
      · unfold putL
        rw [if_neg (fun hn => hy hn.1)]
  take := by
    rintro w F b m l d ⟨hF, bg, c, R, h, rfl⟩
    refine (qtake_ok b m bg c R d w h).mono ?_
    rintro e w' ⟨rfl, hr, hg⟩
    exact ⟨rfl, hg.mono (fun k _ hk => (hF k).2 hk), F, ⟨hF, hr⟩, fun k hk => .inl hk⟩
  first := by
    rintro w F b m l ⟨hF, bg, c, R, h, rfl⟩
    by_cases hc : 0 < c
    · obtain ⟨e1, e2⟩ := held_head bg c R h.hb hc
      refine (qfirst_ok b m bg c R w h hc).mono ?_
      rintro e w' ⟨rfl, hb⟩
      rw [e1, e2]
      exact ⟨rfl, chg0 hb, F, ⟨hF, bg, c, R, h.chg (F := fun _ => False) (chg0 hb) (fun h => h), rfl⟩, fun k hk => .inl hk⟩
    · obtain rfl : c = 0 := by omega
      refine (qfirst_none b m bg R w h).mono ?_
      rintro e w' ⟨rfl, hb⟩
      exact ⟨rfl, chg0 hb, F, ⟨hF, bg, 0, R, h.chg (F := fun _ => False) (chg0 hb) (fun h => h), rfl⟩, fun k hk => .inl hk⟩
  count := by
    rintro w F b m l d ⟨hF, bg, c, R, h, rfl⟩
    refine (qcount_ok b m bg c R d w h).mono ?_
    rintro e w' ⟨rfl, hg⟩
    exact ⟨rfl, hg.mono (fun k _ hk => hk.elim), F, ⟨hF, bg, c, R, h.chg hg (fun h => h), rfl⟩, fun k hk => .inl hk⟩
  clear := by
    rintro w F b m l d ⟨hF, bg, c, R, h, rfl⟩
    refine (qclear_ok b m bg c R d w h).mono ?_
    rintro e w' ⟨rfl, hr, hg⟩
    exact ⟨rfl, hg.mono (fun k _ hk => (hF k).2 hk), F, ⟨hF, hr⟩, fun k hk => .inl hk⟩
  all := by
    rintro w F b m l ⟨hF, bg, c, R, h, rfl⟩
    refine (qall_ok b m bg c R w h).mono ?_
    rintro e w' ⟨⟨a, cp, rfl, ho⟩, hb⟩
    rw [held_len]
    refine ⟨⟨a, cp, rfl, ho⟩, chg0 hb, F, ⟨hF, bg, c, R, h.chg (F := fun _ => False) (chg0 hb) (fun h => h), rfl⟩, fun k hk => .inl hk, ?_⟩
    intro r g hr hg hFg
    obtain rfl : Value.slice a c cp = r := by injection hr
    have h1 := (ho.lt g hg).1
    have h2 := h.lt
    rw [(hF g).1 hFg] at h1
    omega
  putN := fun y w => qput_nil y w
  takeN := fun d w => qtake_nil d w
  firstN := fun w => qfirst_nil w
  countN := fun d w => (qcount_nil d w).mono (by
    rintro e w' ⟨rfl, rfl⟩
    exact ⟨rfl, Below.refl _ _⟩)
  clearN := fun d w => qclear_nil d w
  allN := fun w => qall_nil w
end Go.Proofs.Ytgcjmnjepnmaeaa
