/- The reference's sensor: which time may be; Links, Beacon. No conditions. -/
import Derived.Test.YtcddicaebecneaaSnt
namespace Go.Proofs.Ytcddicaebecneaa
set_option maxRecDepth 100000
open Go.RowKit

/-- A time that may be. -/
def tmB (s : Sn) (now : Int) : Bool := decide (s.now ≤ now) && decide (now ≤ 1000000000000)
theorem rtime_any (b g : Nat) (s : Sn) (now : Int) (w : World) (h : XS w b g s) : Calls Try.prog 31 #[.pointer (some ⟨b, 0, none⟩), .int .i64 now] w fun e w' => e = .returned (.bool (tmB s now)) ∧ Below w.heap.size w w' := by
  obtain ⟨c0, c1, c2, c3, c4⟩ := h.cells
  unfold tmB
  clear h
  by_cases h1 : s.now ≤ now
  · have q1 : decide (s.now ≤ now) = true := decide_eq_true h1
    have h1' : now ≥ s.now := h1
    rw [q1]
    clear q1
    by_cases h2 : now ≤ 1000000000000
    · have q2 : decide (now ≤ 1000000000000) = true := decide_eq_true h2
      rw [q2]
      clear q2
      go_enter Try.func31, Try.ntmps31
      go_wp2_with fail
      go_ret
      exact ⟨rfl, Below.refl _ _⟩
    · have q2 : decide (now ≤ 1000000000000) = false := decide_eq_false h2
      rw [q2]
      clear q2
      go_enter Try.func31, Try.ntmps31
      go_wp2_with fail
      go_ret
      exact ⟨rfl, Below.refl _ _⟩
  · have q1 : decide (s.now ≤ now) = false := decide_eq_false h1
    have h1' : ¬ now ≥ s.now := h1
    rw [q1]
    clear q1
    go_enter Try.func31, Try.ntmps31
    go_wp2_with fail
    go_ret
    exact ⟨rfl, Below.refl _ _⟩
/-- The echoes of the first k that f wants. -/
def echF (f : Hd → Bool) (L : List Hd) : Nat → List (Int × Int)
  | 0 => []
  | k + 1 => echF f L k ++ if f (L.getD k zHd) = true then [((k : Int), (L.getD k zHd).2.1)] else []
def lnkL (s : Sn) : List (Int × Int) := echF (fun h => h.2.2.2) s.L 64
def beaL (s : Sn) : List (Int × Int) := echF (fun h => h.1) s.L 64
theorem ech_len (f : Hd → Bool) (L : List Hd) (k : Nat) : (echF f L k).length ≤ k := by
  induction k with
  | zero => exact Nat.le_refl _
  | succ k ih =>
    show (echF f L k ++ if f (L.getD k zHd) = true then [((k : Int), (L.getD k zHd).2.1)] else []).length ≤ k + 1
    rw [List.length_append]
    split
    · simp only [List.length_cons, List.length_nil]; omega
    · simp only [List.length_nil]; omega
set_option maxHeartbeats 8000000 in
theorem rlinks_any (b g : Nat) (s : Sn) (w : World) (h : XS w b g s) : Calls Try.prog 23 #[.pointer (some ⟨b, 0, none⟩)] w fun e w' => (∃ a c, e = .returned (.slice a (lnkL s).length c) ∧ OwC w' w.heap.size (.slice a (lnkL s).length c) (lnkL s)) ∧ Below w.heap.size w w' := by
  obtain ⟨R, hR⟩ : ∃ R, lnkL s = R := ⟨_, rfl⟩
  rw [hR]
  have H := Lib.hid h
  have HR := Lib.hid hR
  clear h hR
  go_enter Try.func23, Try.ntmps23
  go_wp2_with fail
  go_loopw [3, 4] (fun ov i wr => ∃ (k : Nat) (ax : Option Addr) (cx : Nat) (xs : List (Int × Int)), k ≤ 64 ∧ i = .int .i64 k ∧ ov = .slice ax xs.length cx ∧ Hid (echF (fun h => h.2.2.2) s.L k = xs) ∧ Hid (OwC wr w.heap.size (.slice ax xs.length cx) xs) ∧ Hid (Below w.heap.size w wr)) (fun _ i _ => 64 - (intOf i).toNat)
  case atStart => exact ⟨0, none, 0, [], Nat.zero_le _, rfl, rfl, rfl, OwC_nil w _, Below.refl _ _⟩
  case round =>
    obtain ⟨k, ax, cx, xs, hk, rfl, rfl, HF, HO, HB⟩ := hrel
    have hxl : xs.length ≤ k := by
      have h1 := ech_len (fun h => h.2.2.2) s.L k
      rw [HF.out] at h1
      exact h1
    have HX := Lib.hid (H.out.below HB.out)
    obtain ⟨c0, c1, c2, c3, c4⟩ := HX.out.cells
    by_cases hlt : k < 64
    · obtain ⟨r0, r1, r2, r3⟩ := HX.out.row k hlt
      obtain ⟨y, hy⟩ : ∃ y, s.L.getD k zHd = y := ⟨_, rfl⟩
      rw [hy] at r0 r1 r2 r3
      have hltz : (k : Int) < 64 := by omega
      have hst : echF (fun h => h.2.2.2) s.L (k + 1) = xs ++ if y.2.2.2 = true then [((k : Int), y.2.1)] else [] := by rw [← HF.out, ← hy]; rfl
      have HLE1 : Hid (xs.length ≤ 3000) := by show _ ≤ _; omega
      have HSW : Hid (w.heap.size ≤ wr.heap.size) := HB.out.size
      clear hy
      cases g3 : y.2.2.2 with
      | true =>
        rw [g3] at hst r3
        rw [if_pos rfl] at hst
        have HST := Lib.hid hst
        clear hst g3
        go_wp2_with (at_builtin; refine eappc_any rfl (.tmp 22) (.tmp 33) rfl wr ((k : Int), y.2.1) rfl w.heap.size (.slice ax xs.length cx) xs rfl rfl HO.out HLE1.out HSW.out ?_; intro g1 cap1 wa ho9 hb9; have HO1 := Lib.hid ho9; have HA1 := Lib.hid hb9; clear ho9 hb9)
        go_roundw
        case rel => exact ⟨k + 1, some ⟨g1, 0, none⟩, cap1, xs ++ [((k : Int), y.2.1)], by omega, by go_num, by rw [List.length_append]; rfl, HST.out, by have h9 := HO1.out; rw [List.length_append]; exact h9, HB.out.trans HA1.out⟩
        case measure => simp [intOf]; omega
      | false =>
        rw [g3] at hst r3
        rw [if_neg (by simp), List.append_nil] at hst
        have HST := Lib.hid hst
        clear hst g3
        go_wp2_with fail
        go_roundw
        case rel => exact ⟨k + 1, ax, cx, xs, by omega, by go_num, rfl, HST.out, HO.out, HB.out⟩
        case measure => simp [intOf]; omega
    · obtain rfl : k = 64 := by omega
      have e1 : xs = R := by rw [← HF.out, ← HR.out]; rfl
      have HE := Lib.hid e1
      clear e1
      go_wp2_with fail
      go_ret
      rw [← HE.out]
      exact ⟨⟨_, _, rfl, HO.out⟩, HB.out⟩
end Go.Proofs.Ytcddicaebecneaa
