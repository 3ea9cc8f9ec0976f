/- The reference's Ints and Row; append to a row of the call's own. No conditions. -/
import Derived.Test.YtmimgpnogjgliaaZba
import Derived.Deep.QuietTactic
import Derived.BigQuiet
import Derived.Laws.AppendOwnNone
namespace Go.Proofs.Ytmimgpnogjgliaa
set_option maxRecDepth 100000
open Go.RowKit

theorem z_bel_drewN {B : Nat} {a w : World} (h : Below B a w) (n : Nat) : Below B a (w.drewN n) := ⟨h.os, h.tape, h.output, h.size, h.block⟩
theorem Zs_open {w : World} {v : Value} {xs : List Int} (h : Zs w v xs) : ∃ a cap, v = .slice a xs.length cap ∧ (a = none → cap = 0) ∧ xs.length ≤ cap ∧ ∀ i, i < xs.length → ∃ b off, a = some ⟨b, off, none⟩ ∧ w.cell? ⟨b, off + i, none⟩ = some (.int .i64 (xs.getD i 0)) := by
  obtain ⟨hl, ⟨a, cap, rfl, hz, rfl⟩ | ⟨b, off, cap, rfl, hcap, hc⟩⟩ := h
  · exact ⟨a, cap, rfl, hz, Nat.zero_le _, fun i hi => absurd hi (Nat.not_lt_zero _)⟩
  · exact ⟨some ⟨b, off, none⟩, cap, rfl, (by intro h; cases h), hcap, fun i hi => ⟨b, off, rfl, hc i hi⟩⟩
theorem z_take_ne {xs ys : List Int} (k : Nat) (hne : xs.getD k 0 ≠ ys.getD k 0) : decide (xs = ys) = false :=
  decide_eq_false fun e => hne (by rw [e])
theorem z_take_next {xs ys : List Int} (k : Nat) (h : k < xs.length) (h' : k < ys.length) (he : xs.getD k 0 = ys.getD k 0) (ht : xs.take k = ys.take k) : xs.take (k + 1) = ys.take (k + 1) := by
  rw [List.take_succ_eq_append_getElem h, List.take_succ_eq_append_getElem h', ht]
  simp [List.getD, h, h'] at he
  rw [he]
set_option maxHeartbeats 1000000 in
theorem ints_any (v u : Value) (xs ys : List Int) (w : World) (hv : Zs w v xs) (hu : Zs w u ys) :
    Calls Try.prog 13 #[v, u] w fun e w' => e = .returned (.bool (decide (xs = ys))) ∧ Below w.heap.size w w' := by
  have hlx := hv.1
  have hly := hu.1
  obtain ⟨a, cap, rfl, -, -, hc⟩ := Zs_open hv
  obtain ⟨a', cap', rfl, -, -, hc'⟩ := Zs_open hu
  by_cases he : xs.length = ys.length
  · have HE := Lib.hid he
    rw [← he]
    clear he hly
    go_enter Try.func13, Try.ntmps13
    go_wp2
    go_loopw [5] (fun i wr => ∃ k : Nat, k ≤ xs.length ∧ i = .int .i64 k ∧ xs.take k = ys.take k ∧ Below w.heap.size w wr) (fun i _ => xs.length - (intOf i).toNat)
    case atStart => exact ⟨0, Nat.zero_le _, rfl, rfl, Below.refl _ _⟩
    case round =>
      obtain ⟨k, hk, rfl, ht, hbel⟩ := hrel
      have HB := Lib.hid hbel
      have HT := Lib.hid ht
      clear ht
      by_cases hlt : k < xs.length
      · have hlt' : k < ys.length := by have := HE.out; omega
        obtain ⟨b, off, rfl, hck0⟩ := hc k hlt
        obtain ⟨b', off', rfl, hck0'⟩ := hc' k hlt'
        have hck : wr.cell? ⟨b, off + k, none⟩ = some (.int .i64 (xs.getD k 0)) := by rw [hbel.cell (World.block_lt_of_cell? w _ hck0)]; exact hck0
        have hck' : wr.cell? ⟨b', off' + k, none⟩ = some (.int .i64 (ys.getD k 0)) := by rw [hbel.cell (World.block_lt_of_cell? w _ hck0')]; exact hck0'
        have H1 := Lib.hid (fun h => z_take_ne (xs := xs) (ys := ys) k h)
        have H2 := Lib.hid (fun h => z_take_next (xs := xs) (ys := ys) k hlt hlt' h HT.out)
        generalize xs.getD k 0 = c at *
        generalize ys.getD k 0 = c' at *
        have hi : (k : Int) < (xs.length : Int) := by omega
        clear hc hc' hbel hck0 hck0' hv hu
        by_cases h0 : c = c'
        · have H3 := Lib.hid (H2.out h0)
          subst h0
          go_wp2
          go_quiet (fail)
          go_wp2
          go_roundw
          case rel => exact ⟨k + 1, by omega, by go_num, H3.out, z_bel_drewN HB.out _⟩
          case measure => simp [intOf]; omega
        · have hne : (c == c') = false := by simpa using h0
          have H0 := Lib.hid (H1.out h0)
          go_wp2
          go_quiet (fail)
          go_wp2
          go_ret
          exact ⟨ret_bool H0.out.symm, z_bel_drewN HB.out _⟩
      · obtain rfl : k = xs.length := by omega
        have e : xs = ys := by have := HT.out; rw [List.take_length, HE.out, List.take_length] at this; exact this
        have E := Lib.hid e
        clear hc hc' hbel hv hu e
        go_wp2
        go_ret
        exact ⟨ret_bool (decide_eq_true E.out).symm, HB.out⟩
  · have e : decide (xs = ys) = false := decide_eq_false fun h => he (by rw [h])
    rw [e]
    clear hc hc' hv hu e
    have hne : ((xs.length : Int) == (ys.length : Int)) = false := by simpa using fun h : (xs.length : Int) = ys.length => he (by omega)
    go_enter Try.func13, Try.ntmps13
    go_wp2
    go_ret
    exact ⟨rfl, Below.refl _ _⟩
end Go.Proofs.Ytmimgpnogjgliaa

