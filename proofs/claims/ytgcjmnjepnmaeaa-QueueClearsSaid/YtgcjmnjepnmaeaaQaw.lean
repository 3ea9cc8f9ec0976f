/- The law's examples. -/
import Derived.Test.YtgcjmnjepnmaeaaQst
namespace Go.Proofs.Ytgcjmnjepnmaeaa
set_option maxRecDepth 100000
open Go.RowKit

theorem off_no {w0 : World} {K : Nat → Prop} {k : Nat} (h : K k) : ¬ Off w0 K k := fun h2 => h2.2 h
def aw1 : Pk := (0, 1, 0, 1, ⟨#[]⟩)
def aw2 : Pk := (0, 2, 0, 2, ⟨#[]⟩)
def aw3 : Pk := (0, 1, 0, 3, ⟨#[]⟩)
theorem aw_ok : aw1.Ok ∧ aw2.Ok ∧ aw3.Ok := by
  refine ⟨?_, ?_, ?_⟩ <;> (unfold Pk.Ok; decide)
theorem aw_p1 : putE 2 [] aw1 = 0 ∧ putL 2 [] aw1 = [aw1] := by
  refine ⟨?_, ?_⟩
  · unfold putE; rw [if_neg (fun h => h aw_ok.1), if_neg (by decide)]
  · unfold putL; rw [if_pos ⟨aw_ok.1, by decide⟩]; rfl
theorem aw_p2 : putE 2 [aw1] aw2 = 0 ∧ putL 2 [aw1] aw2 = [aw1, aw2] := by
  refine ⟨?_, ?_⟩
  · unfold putE; rw [if_neg (fun h => h aw_ok.2.1), if_neg (by decide)]
  · unfold putL; rw [if_pos ⟨aw_ok.2.1, by decide⟩]; rfl
theorem aw_p3 : putE 2 [aw1, aw2] aw3 = 8 ∧ putL 2 [aw1, aw2] aw3 = [aw1, aw2] := by
  refine ⟨?_, ?_⟩
  · unfold putE; rw [if_neg (fun h => h aw_ok.2.2), if_pos (by decide)]
  · unfold putL; rw [if_neg (fun h => absurd h.2 (by decide))]
theorem aw_t1 : takeV [aw1, aw2] 2 = aw2 ∧ takeE [aw1, aw2] 2 = 0 ∧ takeL [aw1, aw2] 2 = [aw1] := ⟨rfl, rfl, rfl⟩
theorem aw_t2 : takeV [aw1] 2 = zPk ∧ takeE [aw1] 2 = 7 ∧ takeL [aw1] 2 = [aw1] := ⟨rfl, rfl, rfl⟩
theorem aw_c : cntN [aw1] 1 = 1 := rfl
set_option maxHeartbeats 16000000 in
theorem awake10 {QSt : World → (Nat → Prop) → Nat → Int → List Pk → Prop} (hc : Qc QSt) (w : World) :
    Calls Try.prog 10 #[] w fun e w' => e = .returned (.bool true) ∧ Below w.heap.size w w' := by
  have C1 := Lib.hid (hc.news (m := 2) (by decide) w)
  go_enter Try.func10, Try.ntmps10
  go_wp2_with fail
  refine C1.out.mono ?_
  rintro e W1 ⟨b, rfl, hq⟩
  have C2 := Lib.hid (hc.puts hq aw1)
  clear hq C1
  go_wp2_with fail
  refine C2.out.mono ?_
  rintro e W2 ⟨rfl, hq, -⟩
  rw [aw_p1.2] at hq
  rw [aw_p1.1]
  have C3 := Lib.hid (hc.puts hq aw2)
  clear hq C2
  go_wp2_with fail
  refine C3.out.mono ?_
  rintro e W3 ⟨rfl, hq, -⟩
  rw [aw_p2.2] at hq
  rw [aw_p2.1]
  have C4 := Lib.hid (hc.puts hq aw3)
  clear hq C3
  go_wp2_with fail
  refine C4.out.mono ?_
  rintro e W4 ⟨rfl, hq, -⟩
  rw [aw_p3.2] at hq
  rw [aw_p3.1]
  have C5 := Lib.hid (hc.takes hq 2)
  clear hq C4
  go_wp2_with fail
  refine C5.out.mono ?_
  rintro e W5 ⟨rfl, hq, -⟩
  rw [aw_t1.2.2] at hq
  rw [aw_t1.1, aw_t1.2.1]
  obtain ⟨W6, hW6⟩ : ∃ W6, W5.alloc (.cells #[.int .i64 aw2.1, .int .i64 aw2.2.1, .int .i64 aw2.2.2.1, .int .i64 aw2.2.2.2.1, .string aw2.2.2.2.2] 34) = W6 := ⟨_, rfl⟩
  have HV6 : Hid (OwnP W6 W5.heap.size aw2.1 aw2.2.1 aw2.2.2.1 aw2.2.2.2.1 aw2.2.2.2.2) := hW6 ▸ ownp_alloc W5 _ _ _ _ _ 34 W5.heap.size rfl
  have hq6 := hq.alloc hc (.cells #[.int .i64 aw2.1, .int .i64 aw2.2.1, .int .i64 aw2.2.2.1, .int .i64 aw2.2.2.2.1, .string aw2.2.2.2.2] 34)
  rw [hW6] at hq6
  have C6 := Lib.hid (hc.takes hq6 2)
  clear hq hq6 C5
  obtain ⟨⟨u0, u1, u2, u3, u4⟩, uf⟩ := HV6.out
  go_wp2_with fail
  refine C6.out.mono ?_
  rintro e W7 ⟨rfl, hq, hch⟩
  rw [aw_t2.2.2] at hq
  rw [aw_t2.1, aw_t2.2.1]
  have HV7 := Lib.hid (HV6.out.chg hch (off_no (.inr rfl)))
  clear hch C6 u0 u1 u2 u3 u4 uf hW6 HV6
  obtain ⟨W8, hW8⟩ : ∃ W8, W7.alloc (.cells #[.int .i64 zPk.1, .int .i64 zPk.2.1, .int .i64 zPk.2.2.1, .int .i64 zPk.2.2.2.1, .string zPk.2.2.2.2] 34) = W8 := ⟨_, rfl⟩
  have HV8 := Lib.hid (HV7.out.below (hW8 ▸ (Below.refl _ W7).alloc (Nat.le_refl _) _))
  have hq8 := hq.alloc hc (.cells #[.int .i64 zPk.1, .int .i64 zPk.2.1, .int .i64 zPk.2.2.1, .int .i64 zPk.2.2.2.1, .string zPk.2.2.2.2] 34)
  rw [hW8] at hq8
  have C8 := Lib.hid (hc.counts hq8 1)
  clear hq hq8 HV7
  obtain ⟨⟨u0, u1, u2, u3, u4⟩, uf⟩ := HV8.out
  go_wp2_with fail
  refine C8.out.mono ?_
  rintro e W9 ⟨rfl, hq, -⟩
  rw [aw_c]
  have hn : (aw2.2.2.2.1 == 2) = true := rfl
  have HB := Lib.hid hq.bel
  clear hq
  go_wp2_with fail
  go_ret
  exact ⟨rfl, HB.out⟩
end Go.Proofs.Ytgcjmnjepnmaeaa
