/- Rows of bytes, one behind the other, of thousands of bytes: the reference's Both. No conditions but on lengths. -/
import Derived.Test.YteleedpiadcfjaaPlain
import Derived.LoopTactic
namespace Go.Proofs.Yteleedpiadcfjaa
set_option maxRecDepth 100000
open Go.RowKit

set_option maxHeartbeats 1000000 in
theorem both_big (g : Nat) (vs : List Value) (xss : List (List Int)) (w : World) (hl : vs.length = xss.length)
    (hcell : ∀ i, i < vs.length → w.cell? ⟨g, i, none⟩ = some (vs.getD i undef)) (hb : ∀ i, i < vs.length → Bs w (vs.getD i undef) (xss.getD i [])) (tot : xss.flatten.length ≤ 5000) (h9 : vs.length ≤ 9) :
    Calls Try.prog 17 #[.slice (some ⟨g, 0, none⟩) vs.length vs.length] w (RetOwn xss.flatten w) := by
  obtain ⟨i0, hi, hz0, hz1, hz2⟩ := info_parts Try.info5
  have hbytes := Lib.hid (fun i (hi : i < vs.length) => (hb i hi).1)
  have hl' : vs.length ≤ xss.length := by omega
  have HL := Lib.hid hl
  clear hl
  go_enter Try.func17, Try.ntmps17
  go_wp2
  go_loopw [3, 4] (fun v i wr => ∃ k : Nat, k ≤ vs.length ∧ i = .int .i64 k ∧ wr.ownsRow w.heap.size 5 1 v (xss.take k).flatten.length ((xss.take k).flatten.map (Value.int .u8)) ∧ Below w.heap.size w wr) (fun _ i _ => vs.length - (intOf i).toNat)
  case atStart => exact ⟨0, Nat.zero_le _, rfl, World.ownsRow_nil _ _ _ _, Below.refl _ _⟩
  case round =>
    obtain ⟨k, hk, rfl, hown, hbel⟩ := hrel
    by_cases hlt : k < vs.length
    · have hc := hcell k hlt
      have hc1 : wr.cell? ⟨g, k, none⟩ = some (vs.getD k undef) := by rw [hbel.cell (World.block_lt_of_cell? w _ hc)]; exact hc
      have hB := Bs_below (hb k hlt) hbel
      have hbs : w.heap.size ≤ wr.heap.size := hbel.size
      have hb2 := Lib.hid hbel
      have hfs := Lib.hid (flat_step xss k (by omega))
      have hle := flat_le xss (k + 1)
      rw [hfs.out, List.length_append] at hle
      clear hcell hb hc hbel
      generalize vs.getD k undef = vk at *
      generalize xss.getD k [] = xk at *
      obtain ⟨_, _, ⟨a, cap, rfl, hz, rfl⟩ | ⟨b, off, cap, rfl, hcap, hcs⟩⟩ := hB
      · have ho := Lib.hid hown
        clear hown
        cases a with
        | none =>
          obtain rfl : cap = 0 := hz rfl
          clear hz
          go_wp2_with (at_builtin; go_must (refine wpList_append_own_none rfl (.tmp 11) (.tmp 15) 24 rfl w.heap.size 5 i0 1 Try.underlying24 hi _ _ _ rfl ho.out rfl ?_))
          go_roundw
          case rel => exact ⟨k + 1, by omega, by go_num, by rw [hfs.out, List.append_nil]; exact ho.out, hb2.out⟩
          case measure => simp [intOf]; omega
        | some x =>
          clear hz
          go_wp2_with (at_builtin; go_must (refine wpList_append_own _ rfl (.tmp 11) (.tmp 15) 24 rfl w.heap.size 5 i0 (.int .u8 0) 1 1 Try.underlying24 hi hz0 hz1 hz2 rfl (by decide) _ _ _ rfl ho.out x 0 cap [] rfl (by simp) (by simp) (by simp) (by unfold maxLen; omega) (by omega) hbs ?_); intro v' w1 hown1 hgrow _)
          go_roundw
          case rel => exact ⟨k + 1, by omega, by go_num, by rw [hfs.out, List.append_nil]; simpa using hown1, hb2.out.grown hgrow hbs (fun k hk => (ho.out.lt k hk).1)⟩
          case measure => simp [intOf]; omega
      · have ho := Lib.hid hown
        have hnews := Lib.hid (news_of hcs)
        clear hown hcs
        go_wp2_with (at_builtin; go_must (refine wpList_append_own _ rfl (.tmp 11) (.tmp 15) 24 rfl w.heap.size 5 i0 (.int .u8 0) 1 1 Try.underlying24 hi hz0 hz1 hz2 rfl (by decide) _ _ _ rfl ho.out ⟨b, off, none⟩ xk.length cap (xk.map (Value.int .u8)) rfl (by simp) hnews.out (ones xk) (by unfold maxLen; omega) (by omega) hbs ?_); intro v' w1 hown1 hgrow _)
        go_roundw
        case rel => exact ⟨k + 1, by omega, by go_num, by rw [hfs.out, List.length_append, List.map_append]; exact hown1, hb2.out.grown hgrow hbs (fun k hk => (ho.out.lt k hk).1)⟩
        case measure => simp [intOf]; omega
    · obtain rfl : k = vs.length := by omega
      have ho := Lib.hid hown
      have hb2 := Lib.hid hbel
      clear hown hbel hcell
      go_wp2
      go_ret
      refine ⟨_, rfl, ?_, ?_, hb2.out⟩
      · have hr := ho.out
        have hl := HL.out
        rw [hl, List.take_length] at hr
        exact hr
      have hl := HL.out
      intro x hx
      obtain ⟨l, hl1, hl2⟩ := List.mem_flatten.1 hx
      obtain ⟨i, hi1, rfl⟩ := List.mem_iff_getElem.1 hl1
      have := hbytes.out i (by omega)
      simp only [List.getD, hi1, List.getElem?_eq_getElem, Option.getD_some] at this
      exact this x hl2
theorem both3_big {w : World} {v1 v2 v3 : Value} {x1 x2 x3 : List Int} (h1 : Bs w v1 x1) (h2 : Bs w v2 x2) (h3 : Bs w v3 x3) (T : TypeId) (tot : x1.length + x2.length + x3.length ≤ 5000) :
    Calls Try.prog 17 #[.slice (some ⟨w.heap.size, 0, none⟩) 3 3] (w.alloc (.cells #[v1, v2, v3] T)) (RetOwn (x1 ++ (x2 ++ x3)) (w.alloc (.cells #[v1, v2, v3] T))) := by
  have h := both_big w.heap.size [v1, v2, v3] [x1, x2, x3] (w.alloc (.cells #[v1, v2, v3] T)) rfl (cell_lit w [v1, v2, v3] T) (fun i hi => by
    have : i = 0 ∨ i = 1 ∨ i = 2 := by simp at hi; omega
    rcases this with rfl | rfl | rfl
    · exact Bs_alloc h1 _
    · exact Bs_alloc h2 _
    · exact Bs_alloc h3 _) (by simp; omega) (by simp)
  simpa using h
#print axioms both3_big
end Go.Proofs.Yteleedpiadcfjaa
