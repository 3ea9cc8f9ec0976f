/- Texts Akm, Pka, Pq5, Pq8 of this proof, in one. No conditions but on lengths. -/
import Derived.Test.YtdigjklhfimnbaaGreatU51
import Derived.Test.YtdigjklhfimnbaaGreatRows
import Derived.Test.YtdigjklhfimnbaaGreatU18
import Derived.Test.YtdigjklhfimnbaaGreatU23
import Derived.Test.YtdigjklhfimnbaaGreatU28
import Derived.ArgAppend
import Derived.Below
import Derived.BigQuiet
import Derived.Calls
import Derived.ChangeArms
import Derived.ChangeKeysEq
import Derived.ChangeMade
import Derived.ChangeOld
import Derived.Deep.Cut
import Derived.Deep.CutBlock
import Derived.Deep.QuietTactic
import Derived.Deep.RegionHeld
import Derived.Deep.RegionLaw
import Derived.Deep.RegionWith
import Derived.Deep.Slices
import Derived.Laws.AppendOwnNone
import Derived.Laws.BytesArg
import Derived.Laws.LoneSync
import Derived.Laws.OwnMore
import Derived.Laws.StructEq
import Derived.Lib.AppendStr
import Derived.Lib.ConvBytes
import Derived.Lib.Hide
import Derived.Lib.QuietBelow
import Derived.LoopIn
import Derived.LoopTactic
import Derived.Maps.AppendAt
import Derived.OpenShut
import Derived.Orders
import Derived.Outline
import Derived.OwnWalkIn
import Derived.ProofKit
import Derived.RangeFuncBox
import Derived.RangeFuncCalls
import Derived.RangeFuncLeaves
import Derived.RangeFuncNested
import Derived.Shelf.RegionOpen
import Derived.Shelf.RegionOpenPlain
import Derived.ShutString
import Derived.StillTail
import Derived.TacticsInMore
import Derived.WalkKit
import Derived.WalkLawsBesides
import Derived.WalkSpells
import Derived.WideShapes
namespace Go.Proofs.YtdigjklhfimnbaaGreat
set_option maxRecDepth 100000

theorem pow2_split {j k : Nat} (h : j < k) : ∃ t : Int, pow2 k = pow2 j * (2 * t) := by
  induction k with
  | zero => omega
  | succ k ih =>
    rcases Nat.lt_or_ge j k with h' | h'
    · obtain ⟨t, ht⟩ := ih h'
      exact ⟨2 * t, by simp only [pow2]; rw [ht]; rw [← Int.mul_assoc 2, Int.mul_comm 2 (pow2 j), Int.mul_assoc]⟩
    · obtain rfl : j = k := by omega
      exact ⟨1, by simp only [pow2]; omega⟩
theorem bit_add {m p t : Int} (hp : 1 ≤ p) : (m + p * (2 * t)) / p % 2 = m / p % 2 := by
  rw [Int.add_mul_ediv_left _ _ (by omega)]
  omega
/-- The bits of a mask. -/
theorem mk_bit (x : Int) (cs : List Int) : ∀ (K j : Nat), j < K → (mk x cs K / pow2 j % 2 = 1 ↔ hit x cs j = true)
  | 0, j, h => by omega
  | K + 1, j, h => by
    have hp := pow2_pos j
    have hb := mk_bd x cs K
    rcases Nat.lt_or_ge j K with h' | h'
    · rw [← mk_bit x cs K j h', mk]
      obtain ⟨t, ht⟩ := pow2_split h'
      split
      · rw [ht, bit_add hp]
      · rw [Int.add_zero]
    · obtain rfl : j = K := by omega
      rw [mk]
      split
      · rename_i hh
        have e : (mk x cs j + pow2 j) / pow2 j = 1 := by
          have h1 := Int.add_mul_ediv_left (mk x cs j) 1 (show pow2 j ≠ 0 by omega)
          rw [Int.mul_one, Int.ediv_eq_zero_of_lt hb.1 hb.2] at h1
          omega
        rw [e]
        simp [hh]
      · rename_i hh
        rw [Int.add_zero, Int.ediv_eq_zero_of_lt hb.1 hb.2]
        simp [hh]
theorem hit_iff {x : Int} {cs : List Int} {k : Nat} : hit x cs k = true ↔ ∃ c, c ∈ cs ∧ far x c = (k : Int) + 1 := by
  unfold hit
  rw [List.any_eq_true]
  constructor
  · rintro ⟨c, h1, h2⟩
    exact ⟨c, h1, by simpa using h2⟩
  · rintro ⟨c, h1, h2⟩
    exact ⟨c, h1, by simpa using h2⟩
/-- What an ack of what came has. -/
theorem has_iff {x n : Int} {cs : List Int} : hasN x (mk x cs 16) n = true ↔ (1 ≤ far n x ∧ far n x ≤ 32768) ∨ ((1 ≤ far x n ∧ far x n ≤ 16) ∧ ∃ c, c ∈ cs ∧ far x c = far x n) := by
  unfold hasN hasE
  simp only [Bool.or_eq_true, Bool.and_eq_true, decide_eq_true_eq]
  constructor
  · rintro (h | ⟨⟨h1, h2⟩, h3⟩)
    · exact .inl h
    · refine .inr ⟨⟨h1, h2⟩, ?_⟩
      have h4 := (mk_bit x cs 16 (far x n - 1).toNat (by omega)).1 h3
      obtain ⟨c, hc, he⟩ := hit_iff.1 h4
      exact ⟨c, hc, by omega⟩
  · rintro (h | ⟨⟨h1, h2⟩, c, hc, he⟩)
    · exact .inl h
    · exact .inr ⟨⟨h1, h2⟩, (mk_bit x cs 16 (far x n - 1).toNat (by omega)).2 (hit_iff.2 ⟨c, hc, by omega⟩)⟩
theorem mk_16 (x : Int) (cs : List Int) : 0 ≤ mk x cs 16 ∧ mk x cs 16 ≤ 65535 := by
  have h := mk_bd x cs 16
  rw [pow2_16] at h
  omega
end Go.Proofs.YtdigjklhfimnbaaGreat
namespace Go.Proofs.YtdigjklhfimnbaaGreat
set_option maxRecDepth 100000
open Go.RowKit

/-- A row of pairs lies there. -/
def Prs (w : World) (g : Nat) (ps : List (Int × Nat)) : Prop := ∀ i, i < ps.length → w.cell? ⟨g, i * 2, none⟩ = some (.int .i64 (ps.getD i (0, 0)).1) ∧ w.cell? ⟨g, i * 2 + 1, none⟩ = some (.int .i64 ((ps.getD i (0, 0)).2 : Int))
theorem Prs.below {w w' : World} {g : Nat} {ps : List (Int × Nat)} (h : Prs w g ps) (hg : g < w.heap.size) (hb : Below w.heap.size w w') : Prs w' g ps := fun i hi =>
  ⟨(hb.cell (p := ⟨g, i * 2, none⟩) hg).trans (h i hi).1, (hb.cell (p := ⟨g, i * 2 + 1, none⟩) hg).trans (h i hi).2⟩
end Go.Proofs.YtdigjklhfimnbaaGreat
namespace Go.Proofs.YtdigjklhfimnbaaGreat
set_option maxRecDepth 100000
set_option linter.unusedVariables false
open Go.RowKit

section
variable {w : World} {F : Nat → Prop} {b : Nat} {s : Sd} {Z : Zs1} {vW vO : Value}
theorem pwait_any (h : PZ w F b s Z vW vO) (hl : s.W.length ≤ 3000) : Calls Tryz.prog 54 #[.pointer (some ⟨b, 0, none⟩)] w fun e w' => (∃ a c, e = .returned (.slice a s.W.length c) ∧ OwO w' w.heap.size (.slice a s.W.length c) s.W) ∧ Below w.heap.size w w' := by
  obtain ⟨a, c, rfl⟩ := h.wform
  have C1 := Lib.hid (oclone_any (.slice a s.W.length c) s.W w h.wt.os hl)
  obtain ⟨c0, c1, c2, c3, c4, cf⟩ := h.cells
  clear h hl c0 c1 c2 c4 cf
  go_enter Tryz.func54, Tryz.ntmps54
  go_wp2_with fail
  refine C1.out.mono ?_
  rintro e w1 ⟨⟨a1, c1, rfl, ho⟩, hb⟩
  have HO := Lib.hid ho
  have HB := Lib.hid hb
  clear ho hb
  go_wp2_with fail
  go_ret
  exact ⟨⟨_, _, rfl, HO.out⟩, HB.out⟩
/-- What is out, as pointers and as batches. -/
theorem PZ.outs (h : PZ w F b s Z vW vO) : (Z.map fun z => z.2.1).length = (Z.map Prod.fst).length ∧ ∀ i, i < (Z.map Prod.fst).length → RdP w ((Z.map Prod.fst).getD i 0) ((Z.map fun z => z.2.1).getD i zb) := by
  refine ⟨by simp, fun i hi => ?_⟩
  rw [List.length_map] at hi
  have e1 : (Z.map Prod.fst).getD i 0 = Z[i].1 := by simp [List.getD, hi]
  have e2 : (Z.map fun z => z.2.1).getD i zb = Z[i].2.1 := by simp [List.getD, hi]
  rw [e1, e2]
  exact (h.snd _ (List.getElem_mem hi)).rd
theorem PZ.sout (h : PZ w F b s Z vW vO) : s.out = Z.map fun z => z.2.1 := by unfold Sd.out; rw [h.zl, List.map_map]; rfl
theorem btok_len {n : Int} {ys : List Ob} (h : BtOk n ys) : ys.length ≤ 3000 := by
  have := h.2.1
  omega
theorem PZ.olen (h : PZ w F b s Z vW vO) (hok : SdOk s) : Z.length ≤ 16 ∧ ∀ i, i < (Z.map Prod.fst).length → ((Z.map fun z => z.2.1).getD i zb).2.length ≤ 3000 := by
  constructor
  · have h1 := out_le hok
    have h2 := hok.win
    rw [h.sout, List.length_map] at h1
    omega
  · intro i hi
    rw [List.length_map] at hi
    have e2 : (Z.map fun z => z.2.1).getD i zb = Z[i].2.1 := by simp [List.getD, hi]
    rw [e2]
    exact btok_len (hok.bok Z[i].2 (by rw [h.zl]; exact List.mem_map.2 ⟨Z[i], List.getElem_mem hi, rfl⟩))
theorem pout_any (h : PZ w F b s Z vW vO) (hok : SdOk s) : Calls Tryz.prog 55 #[.pointer (some ⟨b, 0, none⟩)] w fun e w' => (∃ a c, e = .returned (.slice a s.out.length c) ∧ RowB w' w.heap.size (.slice a s.out.length c) s.out) ∧ Below w.heap.size w w' := by
  obtain ⟨ps, hps⟩ : ∃ ps, Z.map Prod.fst = ps := ⟨_, rfl⟩
  obtain ⟨k1, k2⟩ := h.outs
  obtain ⟨k3, k4⟩ := h.olen hok
  have hot : OwP w vO ps := hps ▸ h.ot
  have hln : ps.length = Z.length := by rw [← hps, List.length_map]
  rw [hps] at k1 k2 k4
  rw [← h.sout] at k1 k2 k4
  obtain ⟨a, c, rfl⟩ := own_form hot
  have C1 := Lib.hid (bof_any a c ps s.out w (Gs_of_own (R := RPT) hot).1 k1 k2 (by omega) k4)
  obtain ⟨c0, c1, c2, c3, c4, cf⟩ := h.cells
  clear h hok hps k1 k2 k3 k4 hot hln c0 c1 c2 c3 cf
  go_enter Tryz.func55, Tryz.ntmps55
  go_wp2_with fail
  refine C1.out.mono ?_
  rintro e w1 ⟨r, rfl, ho, hb⟩
  obtain ⟨a1, c1, rfl⟩ := ho.form'
  have HO := Lib.hid ho
  have HB := Lib.hid hb
  clear ho hb
  go_wp2_with fail
  go_ret
  exact ⟨⟨_, _, rfl, HO.out⟩, HB.out⟩
end
theorem bts_nil (w : World) : Bts w (.slice none 0 0) [] := .inl ⟨none, 0, rfl, rfl⟩
theorem os_nil (w : World) : Os w (.slice none 0 0) [] := .inl ⟨none, 0, rfl, fun _ => rfl, rfl⟩
theorem wait_nil (w : World) : Calls Tryz.prog 54 #[.pointer none] w fun e w' => ∃ r, e = .returned r ∧ Os w' r [] ∧ Below w.heap.size w w' := by
  go_enter Tryz.func54, Tryz.ntmps54
  go_wp2_with fail
  go_ret
  exact ⟨_, rfl, os_nil _, Below.refl _ _⟩
theorem out_nil (w : World) : Calls Tryz.prog 55 #[.pointer none] w fun e w' => ∃ r, e = .returned r ∧ Bts w' r [] ∧ Below w.heap.size w w' := by
  go_enter Tryz.func55, Tryz.ntmps55
  go_wp2_with fail
  go_ret
  exact ⟨_, rfl, bts_nil _, Below.refl _ _⟩
theorem send_nil (w : World) : Calls Tryz.prog 50 #[.pointer none] w fun e w' => ∃ r, e = .returned r ∧ Bts w' r [] ∧ Below w.heap.size w w' := by
  go_enter Tryz.func50, Tryz.ntmps50
  go_wp2_with fail
  go_step3
  go_wp2_with fail
  rw [Exit.noGoto_ret]
  show bodyPost _ _ _ _ _ _
  go_ret
  exact ⟨_, rfl, bts_nil _, Below.refl _ _⟩
theorem again_nil (w : World) : Calls Tryz.prog 51 #[.pointer none] w fun e w' => ∃ r, e = .returned (.tuple #[r, .bool true]) ∧ Bts w' r [] ∧ Below w.heap.size w w' := by
  go_enter Tryz.func51, Tryz.ntmps51
  go_wp2_with fail
  go_ret2
  exact ⟨_, rfl, bts_nil _, Below.refl _ _⟩
theorem got_nil (a : Ak) (w : World) : Calls Tryz.prog 117 #[.pointer none, .agg #[.int .i64 a.1, .int .i64 a.2.1, .int .i64 a.2.2.1, .int .i64 a.2.2.2]] w fun e w' => e = .returned (.int .i64 0) ∧ Below w.heap.size w w' := by
  have hb : Below w.heap.size w (w.alloc (.cells #[.int .i64 a.1, .int .i64 a.2.1, .int .i64 a.2.2.1, .int .i64 a.2.2.2] 212)) := (Below.refl _ w).alloc (Nat.le_refl _) _
  have HB := Lib.hid hb
  clear hb
  go_enter Tryz.func117, Tryz.ntmps117
  go_wp2_with fail
  go_ret
  exact ⟨rfl, HB.out⟩
theorem push_nil (y : Ob) (w : World) : Calls Tryz.prog 48 #[.pointer none, .agg #[.int .i64 y.k, .int .i64 y.x, .bool y.n, .int .i64 y.t, .int .i64 y.o, .int .i64 y.r, .int .i64 y.d, .int .i64 y.i, .int .i64 y.p, .int .i64 y.q, .int .i64 y.s, .int .i64 y.m]] w fun e w' => e = .returned (.int .i64 3) ∧ Below w.heap.size w w' := by
  have hb : Below w.heap.size w (w.alloc (.cells #[.int .i64 y.k, .int .i64 y.x, .bool y.n, .int .i64 y.t, .int .i64 y.o, .int .i64 y.r, .int .i64 y.d, .int .i64 y.i, .int .i64 y.p, .int .i64 y.q, .int .i64 y.s, .int .i64 y.m] 41)) := (Below.refl _ w).alloc (Nat.le_refl _) _
  have HB := Lib.hid hb
  clear hb
  go_enter Tryz.func48, Tryz.ntmps48
  go_wp2_with fail
  go_ret
  exact ⟨rfl, HB.out⟩
end Go.Proofs.YtdigjklhfimnbaaGreat
namespace Go.Proofs.YtdigjklhfimnbaaGreat
set_option maxRecDepth 100000
set_option linter.unusedVariables false
open Go.RowKit

theorem PZ.pt {w : World} {F : Nat → Prop} {b : Nat} {s : Sd} {Z : Zs1} {vW : Value} {a : Option Addr} {c n : Nat} (h : PZ w F b s Z vW (.slice a n c)) (hn : n = Z.length) {k : Nat} {z : Nat × Bt × Int} (hz : Z[k]? = some z) : ∃ g off, a = some ⟨g, off, none⟩ ∧ w.cell? ⟨g, off + k, none⟩ = some (ptr z.1) ∧ SndAt w F vW z.1 z.2 ∧ w.cell? ⟨z.1, 2, none⟩ = some (.int .i64 z.2.2) ∧ w.frozen? ⟨z.1, 2, none⟩ = false ∧ w.cell? ⟨z.1, 0, none⟩ = some (.int .i64 z.2.1.1) := by
  subst hn
  obtain ⟨hk, rfl⟩ := List.getElem?_eq_some_iff.1 hz
  obtain ⟨ps, hps⟩ : ∃ ps, Z.map Prod.fst = ps := ⟨_, rfl⟩
  have hpl : ps.length = Z.length := by rw [← hps, List.length_map]
  have hot : OwP w (.slice a ps.length c) ps := by rw [hpl, ← hps]; exact h.ot
  obtain ⟨g, off, h1, h2, h3⟩ := pt_at (Gs_of_own (R := RPT) hot).1 (i := k) (by omega)
  have e : ps.getD k 0 = Z[k].1 := by rw [← hps]; simp [List.getD, hk]
  rw [e] at h3
  have hs := h.snd _ (List.getElem_mem hk)
  obtain ⟨u, h4, h5⟩ := hs.cell
  exact ⟨g, off, h1, h3, hs, by simp [World.cell?, h4], by simp [World.frozen?, h4], by simp [World.cell?, h4]⟩
def incZ (z : Nat × Bt × Int) : Nat × Bt × Int := (z.1, z.2.1, z.2.2 + 1)
theorem agB_no {s : Sd} {Z : Zs1} (hz : s.L = Z.map Prod.snd) {k : Nat} {z : Nat × Bt × Int} (hk : Z[k]? = some z) (h : z.2.2 = s.tries) : agB s = false := by
  obtain ⟨hk', rfl⟩ := List.getElem?_eq_some_iff.1 hk
  unfold agB
  rw [List.all_eq_false]
  exact ⟨Z[k].2, by rw [hz]; exact List.mem_map.2 ⟨_, List.getElem_mem hk', rfl⟩, by simp; omega⟩
theorem agB_yes {s : Sd} {Z : Zs1} (hok : SdOk s) (hz : s.L = Z.map Prod.snd) (h : ∀ (k : Nat) (z : Nat × Bt × Int), Z[k]? = some z → z.2.2 ≠ s.tries) : agB s = true := by
  unfold agB
  rw [List.all_eq_true]
  intro e he
  have h1 := hok.sent e he
  rw [hz] at he
  obtain ⟨z, hz2, rfl⟩ := List.mem_map.1 he
  obtain ⟨k, hk, rfl⟩ := List.mem_iff_getElem.1 hz2
  have := h k Z[k] (List.getElem?_eq_getElem hk)
  exact decide_eq_true (by omega)
theorem agS_map {s : Sd} {Z : Zs1} (hb : agB s = true) (hz : s.L = Z.map Prod.snd) : { s with L := (Z.map incZ).map Prod.snd } = agS s := by
  unfold agS
  rw [if_pos hb, hz, List.map_map, List.map_map]
  rfl
theorem inc_step {Z : Zs1} {k : Nat} {z : Nat × Bt × Int} (hz : Z[k]? = some z) : (Z.take k).map incZ ++ Z.drop k = (Z.take k).map incZ ++ z :: Z.drop (k + 1) ∧ (Z.take (k + 1)).map incZ ++ Z.drop (k + 1) = (Z.take k).map incZ ++ incZ z :: Z.drop (k + 1) := by
  obtain ⟨hk, rfl⟩ := List.getElem?_eq_some_iff.1 hz
  constructor
  · rw [List.drop_eq_getElem_cons hk]
  · rw [List.take_succ_eq_append_getElem hk, List.map_append, List.append_assoc]
    rfl
theorem inc_at {Z : Zs1} {k : Nat} {z : Nat × Bt × Int} (hz : Z[k]? = some z) : ((Z.take k).map incZ ++ Z.drop k)[k]? = some z ∧ ((Z.take k).map incZ ++ Z.drop k).length = Z.length := by
  obtain ⟨hk, rfl⟩ := List.getElem?_eq_some_iff.1 hz
  have hl : ((Z.take k).map incZ).length = k := by rw [List.length_map, List.length_take]; omega
  refine ⟨?_, by rw [List.length_append, hl, List.length_drop]; omega⟩
  rw [List.getElem?_append_right (by omega), hl, Nat.sub_self, List.getElem?_drop, Nat.add_zero, List.getElem?_eq_getElem hk]
section
variable {w : World} {F : Nat → Prop} {b : Nat} {s : Sd} {Z : Zs1} {vW vO : Value}
set_option maxHeartbeats 8000000 in
theorem pagain_any (h : PZ w F b s Z vW vO) (hok : SdOk s) : Calls Tryz.prog 51 #[.pointer (some ⟨b, 0, none⟩)] w fun e w' => ∃ r, e = .returned (.tuple #[r, .bool (agB s)]) ∧ Chg F w w' ∧ (∃ Z', PZ w' F b (agS s) Z' vW vO) ∧ RowB w' w.heap.size r (agL s) := by
  obtain ⟨aO, cO, rfl⟩ := h.oform
  have HPZ := Lib.hid h
  have HOK := Lib.hid hok
  have hzl : Z.length ≤ 16 := (h.olen hok).1
  obtain ⟨c0, c1, c2, c3, c4, cf⟩ := h.cells
  clear h hok c0 c1 c2 c3 cf
  go_enter Tryz.func51, Tryz.ntmps51
  go_wp2_with fail
  clear c4
  go_loopw [15] (fun iv wr => ∃ k : Nat, k ≤ Z.length ∧ iv = .int .i64 k ∧ Hid (Below w.heap.size w wr) ∧ Hid (∀ (i : Nat) (z : Nat × Bt × Int), i < k → Z[i]? = some z → z.2.2 ≠ s.tries)) (fun i _ => Z.length - (intOf i).toNat)
  case atStart => exact ⟨0, Nat.zero_le _, rfl, Below.refl _ _, fun i z hi => absurd hi (Nat.not_lt_zero i)⟩
  case round =>
    obtain ⟨k, hk, rfl, HB, HN⟩ := hrel
    by_cases hlt : k < Z.length
    · have hr := HPZ.out.below HB.out
      obtain ⟨z, hz⟩ : ∃ z, Z[k]? = some z := ⟨_, List.getElem?_eq_getElem hlt⟩
      obtain ⟨g, off, rfl, p0, hs, p2, pf, -⟩ := hr.pt rfl hz
      obtain ⟨c0, c1, c2, c3, c4, cf⟩ := hr.cells
      obtain ⟨p, ⟨n, ys⟩, t⟩ := z
      simp only at p0 p2 pf
      have HR := Lib.hid hr
      have HZ := Lib.hid hz
      have CL := Lib.hid (fun W h => sload_any p 2 t W h)
      have hltz : (k : Int) < Z.length := by omega
      have hbl := hr.lt b hr.fb
      have hpl := hr.lt p hs.f
      have kc : ∀ w', Below wr.heap.size wr w' → w'.cell? ⟨b, 1, none⟩ = some (.int .i64 s.tries) ∧ w'.cell? ⟨p, 2, none⟩ = some (.int .i64 t) := fun w' h => ⟨(h.cell (p := ⟨b, 1, none⟩) hbl).trans c1, (h.cell (p := ⟨p, 2, none⟩) hpl).trans p2⟩
      clear c0 c1 c2 c3 c4 cf hs hr hz pf p2
      go_upto_region 6 with (fail)
      clear p0
      refine T3.wp_region_tail (C := fun w' => Below wr.heap.size wr w') (X := fun _ w w' => Below w.heap.size w w') (n := 45) 8 (by kernel_rfl) (by kernel_rfl) (by kernel_rfl) (by kernel_rfl) rfl (fun _ w => Below.refl _ w) (Below.refl _ _).drew ?_
      simp only [List.take_succ_cons, List.take_zero, List.drop_succ_cons, List.drop_zero]
      refine T3.w_is (fun _ w => Below.refl _ w) rfl _ (.inl rfl) (fun ρ w hC hc hfn hf => by have e5 : ρ (.tmp 5) = _ := hf 5 (by decide); (conv => lhs; simp [execOp, go_sem, hc, e5])) ?_
      refine T3.w_is (fun _ w => Below.refl _ w) rfl _ (.inl rfl) (fun ρ w hC hc hfn hf => by have e19 : ρ (.tmp 19) = _ := hf 19 (by decide); (conv => lhs; simp [execOp, go_sem, hc, e19])) ?_
      refine T3.w_is (fun _ w => Below.refl _ w) rfl _ (.inl rfl) (fun ρ w hC hc hfn hf => by have e20 : ρ (.tmp 20) = _ := hf 20 (by decide); (conv => lhs; simp [execOp, go_sem, hc, e20])) ?_
      refine T3.w_call rfl (Is _) (fun _ _ _ _ _ h _ => h) 83 (.inl rfl) (fun ρ w hC hc hfn hf => by have e21 : ρ (.tmp 21) = _ := hf 21 (by decide); exact ⟨_, by (conv => lhs; simp [execOp, resolve, invoke, go_sem, hc, hfn, e21]), (sload_any p 2 t w (kc w hC).2).mono fun e w' h => by obtain ⟨rfl, rfl⟩ := h; exact ⟨_, rfl, hC, Below.refl _ _, rfl⟩⟩) ?_
      refine T3.w_is (fun _ w => Below.refl _ w) rfl _ (.inl rfl) (fun ρ w hC hc hfn hf => by have e0 : ρ (.tmp 0) = _ := hf 0 (by decide); (conv => lhs; simp [execOp, go_sem, hc, e0])) ?_
      refine T3.w_is (fun _ w => Below.refl _ w) rfl _ (.inl rfl) (fun ρ w hC hc hfn hf => by have e23 : ρ (.tmp 23) = _ := hf 23 (by decide); (conv => lhs; simp [execOp, go_sem, hc, e23])) ?_
      refine T3.w_is (fun _ w => Below.refl _ w) rfl _ (.inl rfl) (fun ρ w hC hc hfn hf => by have e24 : ρ (.tmp 24) = _ := hf 24 (by decide); (conv => lhs; simp [execOp, go_sem, hc, e24])) ?_
      refine T3.w_is (fun _ w => Below.refl _ w) rfl _ (.inl rfl) (fun ρ w hC hc hfn hf => by have e25 : ρ (.tmp 25) = _ := hf 25 (by decide); (conv => lhs; simp [execOp, go_sem, hc, e25, kc w hC])) ?_
      intro A V5 hC hn hd hf
      have y0 : A.eval (.tmp 0) = _ := Eq.trans (hf 0) (by conv => lhs; simp [go_sem])
      have y1 : A.eval (.tmp 1) = _ := Eq.trans (hf 1) (by conv => lhs; simp [go_sem])
      have y2 : A.eval (.tmp 2) = _ := Eq.trans (hf 2) (by conv => lhs; simp [go_sem])
      have y3 : A.eval (.tmp 3) = _ := Eq.trans (hf 3) (by conv => lhs; simp [go_sem])
      have y4 : A.eval (.tmp 4) = _ := Eq.trans (hf 4) (by conv => lhs; simp [go_sem])
      have y5 : A.eval (.tmp 5) = _ := Eq.trans (hf 5) (by conv => lhs; simp [go_sem])
      have y6 : A.eval (.tmp 6) = _ := Eq.trans (hf 6) (by conv => lhs; simp [go_sem])
      have y7 : A.eval (.tmp 7) = _ := Eq.trans (hf 7) (by conv => lhs; simp [go_sem])
      have y8 : A.eval (.tmp 8) = _ := Eq.trans (hf 8) (by conv => lhs; simp [go_sem])
      have y9 : A.eval (.tmp 9) = _ := Eq.trans (hf 9) (by conv => lhs; simp [go_sem])
      have y10 : A.eval (.tmp 10) = _ := Eq.trans (hf 10) (by conv => lhs; simp [go_sem])
      have y11 : A.eval (.tmp 11) = _ := Eq.trans (hf 11) (by conv => lhs; simp [go_sem])
      have y12 : A.eval (.tmp 12) = _ := Eq.trans (hf 12) (by conv => lhs; simp [go_sem])
      have y13 : A.eval (.tmp 13) = _ := Eq.trans (hf 13) (by conv => lhs; simp [go_sem])
      have y14 : A.eval (.tmp 14) = _ := Eq.trans (hf 14) (by conv => lhs; simp [go_sem])
      have y15 : A.eval (.tmp 15) = _ := Eq.trans (hf 15) (by conv => lhs; simp [go_sem])
      have y16 : A.eval (.tmp 16) = _ := Eq.trans (hf 16) (by conv => lhs; simp [go_sem])
      have y17 : A.eval (.tmp 17) = _ := Eq.trans (hf 17) (by conv => lhs; simp [go_sem])
      have y18 : A.eval (.tmp 18) = _ := Eq.trans (hf 18) (by conv => lhs; simp [go_sem])
      have y19 : A.eval (.tmp 19) = _ := hf 19
      have y20 : A.eval (.tmp 20) = _ := hf 20
      have y21 : A.eval (.tmp 21) = _ := hf 21
      have y22 : A.eval (.tmp 22) = _ := hf 22
      have y23 : A.eval (.tmp 23) = _ := hf 23
      have y24 : A.eval (.tmp 24) = _ := hf 24
      have y25 : A.eval (.tmp 25) = _ := hf 25
      have y26 : A.eval (.tmp 26) = _ := hf 26
      have y27 : A.eval (.tmp 27) = _ := Eq.trans (hf 27) (by conv => lhs; simp [go_sem])
      have y28 : A.eval (.tmp 28) = _ := Eq.trans (hf 28) (by conv => lhs; simp [go_sem])
      have y29 : A.eval (.tmp 29) = _ := Eq.trans (hf 29) (by conv => lhs; simp [go_sem])
      have y30 : A.eval (.tmp 30) = _ := Eq.trans (hf 30) (by conv => lhs; simp [go_sem])
      have y31 : A.eval (.tmp 31) = _ := Eq.trans (hf 31) (by conv => lhs; simp [go_sem])
      have y32 : A.eval (.tmp 32) = _ := Eq.trans (hf 32) (by conv => lhs; simp [go_sem])
      have y33 : A.eval (.tmp 33) = _ := Eq.trans (hf 33) (by conv => lhs; simp [go_sem])
      have y34 : A.eval (.tmp 34) = _ := Eq.trans (hf 34) (by conv => lhs; simp [go_sem])
      have y35 : A.eval (.tmp 35) = _ := Eq.trans (hf 35) (by conv => lhs; simp [go_sem])
      have y36 : A.eval (.tmp 36) = _ := Eq.trans (hf 36) (by conv => lhs; simp [go_sem])
      have y37 : A.eval (.tmp 37) = _ := Eq.trans (hf 37) (by conv => lhs; simp [go_sem])
      have y38 : A.eval (.tmp 38) = _ := Eq.trans (hf 38) (by conv => lhs; simp [go_sem])
      have y39 : A.eval (.tmp 39) = _ := Eq.trans (hf 39) (by conv => lhs; simp [go_sem])
      have y40 : A.eval (.tmp 40) = _ := Eq.trans (hf 40) (by conv => lhs; simp [go_sem])
      have y41 : A.eval (.tmp 41) = _ := Eq.trans (hf 41) (by conv => lhs; simp [go_sem])
      have y42 : A.eval (.tmp 42) = _ := Eq.trans (hf 42) (by conv => lhs; simp [go_sem])
      have y43 : A.eval (.tmp 43) = _ := Eq.trans (hf 43) (by conv => lhs; simp [go_sem])
      have y44 : A.eval (.tmp 44) = _ := Eq.trans (hf 44) (by conv => lhs; simp [go_sem])
      clear hf
      have hA := frame_eq hn
      rw [show List.range 45 = [0, 1, 2, 3, 4, 5, 6, 7, 8, 9, 10, 11, 12, 13, 14, 15, 16, 17, 18, 19, 20, 21, 22, 23, 24, 25, 26, 27, 28, 29, 30, 31, 32, 33, 34, 35, 36, 37, 38, 39, 40, 41, 42, 43, 44] from rfl, hd] at hA
      simp only [List.map_cons, List.map_nil, y0, y1, y2, y3, y4, y5, y6, y7, y8, y9, y10, y11, y12, y13, y14, y15, y16, y17, y18, y19, y20, y21, y22, y23, y24, y25, y26, y27, y28, y29, y30, y31, y32, y33, y34, y35, y36, y37, y38, y39, y40, y41, y42, y43, y44] at hA
      clear y0 y1 y2 y3 y4 y5 y6 y7 y8 y9 y10 y11 y12 y13 y14 y15 y16 y17 y18 y19 y20 y21 y22 y23 y24 y25 y26 y27 y28 y29 y30 y31 y32 y33 y34 y35 y36 y37 y38 y39 y40 y41 y42 y43 y44
      clear hn hd
      subst hA
      have HB5 := Lib.hid (HB.out.trans (hC.mono HB.out.size))
      clear kc hC
      by_cases ht : t = s.tries
      · have hag : Hid (agB s = false) := agB_no HPZ.out.zl HZ.out ht
        have hb9 : (t == s.tries) = true := by rw [ht]; exact beq_self_eq_true _
        clear ht
        go_wp2_with fail
        go_ret2
        have hal : agL s = [] := by unfold agL; rw [hag.out]; rfl
        have has : agS s = s := by unfold agS; rw [hag.out]; rfl
        rw [hag.out, hal, has]
        exact ⟨_, rfl, chg0 HB5.out, ⟨Z, HPZ.out.below HB5.out⟩, RowB_nil _ _⟩
      · have hb9 : (t == s.tries) = false := beq_false_of_ne ht
        have HT := Lib.hid ht
        clear ht
        go_wp2_with fail
        go_roundw
        case rel => exact ⟨k + 1, by omega, by go_num, HB5.out, fun i z hi hz => by
          by_cases h9 : i = k
          · subst h9
            have e := hz.symm.trans HZ.out
            cases e
            exact HT.out
          · exact HN.out i z (by omega) hz⟩
        case measure => simp [intOf]; omega
    · obtain rfl : k = Z.length := by omega
      have hag : Hid (agB s = true) := agB_yes HOK.out HPZ.out.zl (fun i z hz => HN.out i z (List.getElem?_eq_some_iff.1 hz).1 hz)
      have hr := HPZ.out.below HB.out
      obtain ⟨c0, c1, c2, c3, c4, cf⟩ := hr.cells
      have HR := Lib.hid hr
      clear hr HN c0 c1 c2 c3 cf
      go_wp2_with fail
      clear c4
      obtain ⟨wo, hwo⟩ : ∃ wo, wo = wr := ⟨_, rfl⟩
      subst hwo
      go_loopw [34] (fun iv wr => ∃ (k : Nat), k ≤ Z.length ∧ iv = .int .i64 k ∧ Hid (Chg F w wr) ∧ Hid (wr.heap.size = wo.heap.size) ∧ Hid (PZ wr F b { s with L := ((Z.take k).map incZ ++ Z.drop k).map Prod.snd } ((Z.take k).map incZ ++ Z.drop k) vW (.slice aO Z.length cO))) (fun i _ => Z.length - (intOf i).toNat)
      case atStart =>
        refine ⟨0, Nat.zero_le _, rfl, ((chg0 HB.out) : Chg F w wo), rfl, ?_⟩
        have e : ({ s with L := ((Z.take 0).map incZ ++ Z.drop 0).map Prod.snd } : Sd) = s := by
          have e2 : ((Z.take 0).map incZ ++ Z.drop 0).map Prod.snd = s.L := HPZ.out.zl.symm
          rw [e2]
        rw [e]
        exact HR.out
      case round =>
        obtain ⟨k, hk, rfl, HC, HS, HP⟩ := hrel
        by_cases hlt : k < Z.length
        · obtain ⟨z, hz⟩ : ∃ z, Z[k]? = some z := ⟨_, List.getElem?_eq_getElem hlt⟩
          obtain ⟨q1, q2⟩ := inc_at hz
          obtain ⟨q3, q4⟩ := inc_step hz
          obtain ⟨g, off, rfl, p0, hs, p2, pf, -⟩ := HP.out.pt q2.symm q1
          have ht := HOK.out.sent z.2 (by rw [HPZ.out.zl]; exact List.mem_map.2 ⟨z, List.mem_of_getElem? hz, rfl⟩)
          have ht2 := HOK.out.tries
          have hP := HP.out
          rw [q3] at hP
          obtain ⟨p, ⟨n, ys⟩, t⟩ := z
          have hts := hP.tset (t + 1)
          simp only at p0 p2 pf ht
          have hw : IntKind.i64.wrap (t + 1) = t + 1 := by rw [IntKind.wrap_i64]; omega
          have CA := Lib.hid (sadd_any p 2 t 1 wr p2 pf hw)
          have HTS := Lib.hid hts
          have HFP := Lib.hid hs.f
          have HQ4 := Lib.hid q4
          have hltz : (k : Int) < Z.length := by omega
          clear q1 q2 q3 q4 p2 pf hs hP hts ht ht2 hw hz
          go_wp2_with fail
          refine CA.out.mono ?_
          rintro e w9 ⟨rfl, hw9⟩
          have HC9 : Hid (Chg F w w9) := hw9 ▸ HC.out.setCell (.inl HFP.out) _
          have HS9 : Hid (w9.heap.size = wo.heap.size) := by show _ = _; rw [hw9, ← HS.out]; simp [World.setCell]
          have HP9 : Hid (PZ w9 F b { s with L := ((Z.take (k + 1)).map incZ ++ Z.drop (k + 1)).map Prod.snd } ((Z.take (k + 1)).map incZ ++ Z.drop (k + 1)) vW (.slice (some ⟨g, off, none⟩) Z.length cO)) := by
            show PZ _ _ _ _ _ _ _
            rw [HQ4.out, hw9]
            exact HTS.out
          clear p0 hw9
          go_wp2_with fail
          go_roundw
          case rel => exact ⟨k + 1, by omega, by go_num, HC9.out, HS9.out, HP9.out⟩
          case measure => simp [intOf]; omega
        · obtain rfl : k = Z.length := by omega
          have e1 : (Z.take Z.length).map incZ ++ Z.drop Z.length = Z.map incZ := by simp
          have hP := HP.out
          rw [e1, agS_map hag.out HPZ.out.zl] at hP
          have CO := Lib.hid (pout_any hP (sdok_again HOK.out))
          have HPF := Lib.hid hP
          have hao : agL s = (agS s).out := by unfold agL; rw [if_pos hag.out, out_again]
          have HAO := Lib.hid hao
          clear e1 hP HP hao
          go_wp2_with fail
          refine CO.out.mono ?_
          rintro e w9 ⟨⟨a1, c1, rfl, ho⟩, hb⟩
          have HO := Lib.hid ho
          have HB9 := Lib.hid hb
          clear ho hb
          go_wp2_with fail
          go_ret2
          rw [hag.out, HAO.out]
          refine ⟨_, rfl, HC.out.trans (G := fun _ => False) (chg0 HB9.out) (fun _ _ e => e.elim), ⟨_, HPF.out.below HB9.out⟩, ?_⟩
          obtain ⟨vs, k1, k2, k3⟩ := HO.out
          have hsz : w.heap.size ≤ wr.heap.size := HC.out.size
          exact ⟨vs, k1, gown_mono k2 hsz, fun i hi => ⟨(k3 i hi).1, gown_mono (k3 i hi).2 hsz⟩⟩
end
end Go.Proofs.YtdigjklhfimnbaaGreat
