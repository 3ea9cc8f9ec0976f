/- The document's examples: awake answers true. No conditions. -/
import Derived.Test.YteofjlcaokajeaaRint
import Derived.Test.YteofjlcaokajeaaRef
namespace Go.Proofs.Yteofjlcaokajeaa
open Go.RowKit

theorem run_conv_zero (w : World) (p : Option Addr) (c : Nat) : (convert 22 9 (.slice p 0 c)).run Try.prog w = .ok (.string ByteArray.empty) w := by
  cases p with
  | none => exact run_convert_bytes_nil w 22 5 Try.underlying22 Try.underlying5 0 c 9 Try.underlying9
  | some x =>
    have hl : (loadCells x 0).run Try.prog w = .ok (([] : List Int).map (Value.int .u8)).toArray w := run_loadCells_list (P := Try.prog) w x [] (fun j v hj => by cases hj)
    rw [run_convert_bytes_string w 22 9 5 _ 0 c Try.underlying22 Try.underlying5 Try.underlying9, run_bytesToString w _ 0 c [] hl]
    rfl
/-- A slice of bytes turned into a string. -/
theorem Bs_conv {w : World} {v : Value} {xs : List Int} (h : Bs w v xs) : (convert 22 9 v).run Try.prog w = .ok (.string (strOfNums xs)) w := by
  obtain ⟨h1, h2, ⟨a, cap, rfl, -, rfl⟩ | ⟨b, off, cap, rfl, h5, h6⟩⟩ := h
  · exact run_conv_zero w a cap
  · exact run_convert_bytes_arg w 22 5 Try.underlying22 Try.underlying5 b off _ cap xs rfl h6 9 Try.underlying9

theorem Bs_lit {w : World} (cs : List Int) (T : TypeId) (h : ∀ x ∈ cs, 0 ≤ x ∧ x < 256) (hl : cs.length ≤ 9) (o : Obj) (ho : o = .cells (cs.map (Value.int .u8)).toArray T) (g : Nat) (hg : g = w.heap.size) (n : Nat) (hn : n = cs.length) : Bs (w.alloc o) (.slice (some ⟨g, 0, none⟩) n n) cs := by
  subst ho hg hn
  refine ⟨h, by omega, .inr ⟨_, 0, _, rfl, Nat.le_refl _, fun i hi => ?_⟩⟩
  rw [cell_of_row _ _ _ _ _ _ (heap_alloc_new w _)]
  simp [List.getD, hi]

theorem ex_ok : PutOk 258 3 := by decide
theorem ex_bytes : putB 258 3 = [0, 1, 2] := by decide
theorem ex_err : putE 258 3 = 0 := by decide

set_option maxHeartbeats 1000000 in
theorem awake_any (w : World) : Calls Try.prog 13 #[] w fun e w' => e = .returned (.bool true) ∧ Below w.heap.size w w' := by
  go_enter Try.func13, Try.ntmps13
  go_wp2_with fail
  refine (put_any 258 3 _ (by decide)).mono ?_
  rintro e w1 ⟨r, rfl, hr, hb1⟩
  rw [ex_err]
  rw [ex_bytes] at hr
  go_wp2_with fail
  refine (get_any _ [0, 1, 2] _ _ _ (Bs_lit [0, 1, 2] 5 (by decide) (by decide) _ rfl _ rfl _ rfl)).mono ?_
  rintro e w2 ⟨rfl, hw2⟩
  rw [show getS [0, 1, 2] 0 3 = (258, 3, 0) from by decide]
  have hb2 : Below w.heap.size w w2 := by rw [← hw2]; exact hb1.alloc hb1.size _
  have hr2 : Bs w2 r [0, 1, 2] := by rw [← hw2]; exact Bs_below hr ((Below.refl _ _).alloc (Nat.le_refl _) _)
  clear hw2 hr hb1
  unfold tri
  go_wp2_with fail
  refine (int_any (-2) _).mono ?_
  rintro e w3 ⟨r3, rfl, hr3, hb3⟩
  have hb4 : Below w.heap.size w w3 := hb2.trans (hb3.mono hb2.size)
  have hr4 := Bs_below hr2 hb3
  clear hb3 hb2 hr2
  go_wp2_with fail
  refine (getInt_any _ _ _ _ hr3).mono ?_
  rintro e w4 ⟨rfl, rfl⟩
  rw [show getIntS (lo (IntKind.u64.wrap (-2)) 8) 0 = (-2, 8, 0) from by decide +kernel]
  unfold tri
  have hcv := Bs_conv hr4
  rw [show strOfNums [0, 1, 2] = ⟨#[0, 1, 2]⟩ from rfl] at hcv
  have H4 := Lib.hid hb4
  clear hr4 hr3 hb4
  go_wp2_with fail
  refine (sum_any _ [] _ (Bs_nil _)).mono ?_
  rintro e w5 ⟨rfl, rfl⟩
  rw [show sumN [] = 1 from by decide]
  go_wp2_with fail
  refine (sum_any _ [1, 2] _ (Bs_lit [1, 2] 5 (by decide) (by decide) _ rfl _ rfl _ rfl)).mono ?_
  rintro e w6 ⟨rfl, hw6⟩
  rw [show sumN [1, 2] = 1540 from by decide]
  have H6 : Hid (Below w.heap.size w w6) := by rw [← hw6]; exact H4.out.alloc H4.out.size _
  clear hw6 hcv H4
  go_wp2_with fail
  go_ret
  exact ⟨rfl, H6.out⟩
#print axioms awake_any
end Go.Proofs.Yteofjlcaokajeaa
