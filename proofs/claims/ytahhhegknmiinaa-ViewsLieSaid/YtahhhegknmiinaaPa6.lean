/- slices.Grow of none, slices.Concat of rows of views. Conditions on lengths. -/
import Derived.Test.YtahhhegknmiinaaPa5
import Derived.Lib.AppendZerosOnto
namespace Go.Proofs.Ytahhhegknmiinaa
set_option maxRecDepth 100000
open Go.RowKit

theorem app_go2 {ops : Array Oper} {rest : List Oper} {o : Oper} {a : Act} {Q : Exit → Act → World → Prop} {w : World} (hg : o.guard = none) (s x : Operand) (t t' : TypeId)
    (hop : o.op = Op.call { callee := Callee.builtin Builtin.append, args := #[s, x], argTypes := #[t, t'] }) (v u r : Value) (w' : World) (hs : a.eval s = v) (hx : a.eval x = u)
    (hr : (Builtin.append_ #[t, t'] o.type #[v, u]).run Try.prog w = .ok r w') (h : wpList Try.prog ops Q rest (a.put o.dst r) w') : wpList Try.prog ops Q (o :: rest) a w := by
  refine wpList_plain hg fun K hK => ?_
  unfold Oper.wp
  have he : (execOp a.eval o).run Try.prog w = .ok (.value r) w' := by
    unfold execOp
    simp only [hop, resolve, invoke, builtin, Sem.run_bind, Sem.run_pure, Result.andThen_ok, List.map_toArray, List.map_cons, List.map_nil, hs, hx, hr]
  rw [he]
  exact hK _ _ h
theorem underTI : Try.prog.underlying 3 = some (.int .i64) := by kernel_rfl
theorem grow_any (n : Nat) (w : World) (hn : n ≤ 3000) : Calls Try.prog 54 #[.slice none 0 0, .int .i64 n] w fun e w' => (∃ a c, e = .returned (.slice a 0 c) ∧ OwV w' w.heap.size (.slice a 0 c) []) ∧ Below w.heap.size w w' := by
  rcases Nat.eq_zero_or_pos n with rfl | h0
  · go_enter Try.func54, Try.ntmps54
    go_wp2_with fail
    go_ret
    exact ⟨⟨none, 0, rfl, OwV_nil w _⟩, Below.refl _ _⟩
  · obtain ⟨i0, hi, hz0, hz1, hz2⟩ := info_parts RV.hinfo
    have hby : n * i0.bytes ≤ 281474976710656 := by
      rw [hz2]
      exact Nat.le_trans (Nat.mul_le_mul_right 56 hn) (by decide)
    have hr : (Builtin.append_ #[22, 3] 22 #[.slice none 0 0, .int .i64 n]).run Try.prog w = _ := Lib.run_append_grow_zeros (P := Try.prog) w 22 3 22 40 i0 RV.zero .i64 .i64 RV.hSL underTI hi hz0 none 0 0 [] (run_firstCells_none w.drew i0.size 0 0 0) n h0 (by rw [hz1]; decide) (by omega) (by omega) hby (by rw [Nat.zero_add, nextslicecap_zero h0]; exact hby)
    obtain ⟨cap, hcap⟩ : ∃ cap, grownCap w (0 + n) 0 40 = cap := ⟨_, rfl⟩
    have hge := grownCap_ge w (0 + n) 0 40
    have hle := grownCap_le_maxLen w (0 + n) 0 40 (by unfold maxLen; omega)
    rw [hcap] at hr hge hle
    have hz : (RV.zero).cells.size = 7 := RV.hz
    obtain ⟨cs, hcs⟩ : ∃ cs, ((([] : List Value).toArray ++ Builtin.zeroCells RV.zero.cells n ++ Builtin.zeroCells RV.zero.cells (cap - (0 + n))) : Array Value) = cs := ⟨_, rfl⟩
    have hsz : cs.size = cap * 7 := by
      rw [← hcs]
      simp only [Array.size_append, List.size_toArray, List.length_nil, size_zeroCells, hz]
      omega
    rw [hcs] at hr
    obtain ⟨V, hV⟩ : ∃ V, w.drew.alloc (.cells cs 40) = V := ⟨_, rfl⟩
    have ho : OwV V w.heap.size (.slice (some ⟨w.heap.size, 0, none⟩) 0 cap) [] := hV ▸ World.ownsRow_made (e := 40) (size := 7) w.drew cs cap (Nat.le_refl _) hle hsz
    have hb : Below w.heap.size w V := hV ▸ ((Below.refl _ w).drew).alloc (Nat.le_refl _) _
    rw [hV, Nat.zero_add] at hr
    have HO := Lib.hid ho
    have HB := Lib.hid hb
    have hn0 : (0 : Int) < (n : Int) := by omega
    have w1_ : IntKind.i64.wrap (n : Int) = (n : Int) := by rw [IntKind.wrap_i64]; omega
    clear hV ho hb hcs hsz hcap hge hle hby hi hz0 hz1 hz2
    go_enter Try.func54, Try.ntmps54
    go_wp2_with (at_builtin; refine app_go2 rfl (.tmp 20) (.tmp 21) 22 3 rfl _ _ _ _ rfl rfl hr ?_)
    go_ret
    exact ⟨⟨_, cap, rfl, HO.out⟩, HB.out⟩
/-- Rows of views, one behind the other. -/
def flatP (ps : List (Value × List Vw)) : List Vw := (ps.map (·.2)).flatten
def dP : Value × List Vw := (.slice none 0 0, [])
theorem flat_step (ps : List (Value × List Vw)) (k : Nat) (h : k < ps.length) : flatP (ps.take (k + 1)) = flatP (ps.take k) ++ (ps.getD k dP).2 := by
  have e : (ps.getD k dP).2 = ps[k].2 := by simp [List.getD, h]
  rw [List.take_add_one, List.getElem?_eq_getElem h, e]
  unfold flatP
  rw [List.map_append, List.flatten_append]
  simp
theorem flat_le (ps : List (Value × List Vw)) (k : Nat) : (flatP (ps.take k)).length ≤ (flatP ps).length := by
  have e : flatP ps = flatP (ps.take k) ++ flatP (ps.drop k) := by unfold flatP; rw [← List.flatten_append, ← List.map_append, List.take_append_drop]
  rw [e, List.length_append]
  omega
/-- A row of such rows. -/
def Pcs (w : World) (g : Nat) (ps : List (Value × List Vw)) : Prop := g < w.heap.size ∧ ∀ i, i < ps.length → w.cell? ⟨g, i, none⟩ = some (ps.getD i dP).1 ∧ Vs w (ps.getD i dP).1 (ps.getD i dP).2
theorem Pcs.below {w w' : World} {g : Nat} {ps : List (Value × List Vw)} (h : Pcs w g ps) (hb : Below w.heap.size w w') : Pcs w' g ps :=
  ⟨Nat.lt_of_lt_of_le h.1 hb.size, fun i hi => ⟨(hb.cell (p := ⟨g, i, none⟩) h.1).trans (h.2 i hi).1, (h.2 i hi).2.below hb⟩⟩
set_option maxHeartbeats 8000000 in
theorem conc_any (g c : Nat) (ps : List (Value × List Vw)) (w : World) (h : Pcs w g ps) (hn : ps.length ≤ 100) (hl : (flatP ps).length ≤ 3000) :
    Calls Try.prog 35 #[.slice (some ⟨g, 0, none⟩) ps.length c] w fun e w' => (∃ r, e = .returned r ∧ OwV w' w.heap.size r (flatP ps)) ∧ Below w.heap.size w w' := by
  have H := Lib.hid h
  clear h
  go_enter Try.func35, Try.ntmps35
  go_wp2_with fail
  go_loopw [3, 11] (fun sv i wr => ∃ k : Nat, k ≤ ps.length ∧ i = .int .i64 k ∧ sv = .int .i64 (flatP (ps.take k)).length ∧ w = wr) (fun _ i _ => ps.length - (intOf i).toNat)
  case atStart => exact ⟨0, Nat.zero_le _, rfl, rfl, rfl⟩
  case round =>
    obtain ⟨k, hk, rfl, rfl, rfl⟩ := hrel
    by_cases hlt : k < ps.length
    · obtain ⟨c0, hv⟩ := H.out.2 k hlt
      have hst := flat_step ps k hlt
      have hfl := flat_le ps (k + 1)
      have hfl0 := flat_le ps k
      obtain ⟨u, hu⟩ : ∃ u, (ps.getD k dP).1 = u := ⟨_, rfl⟩
      obtain ⟨ys, hys⟩ : ∃ ys, (ps.getD k dP).2 = ys := ⟨_, rfl⟩
      rw [hu] at c0 hv
      rw [hys] at hv hst
      clear hu hys
      obtain ⟨a1, c1, rfl⟩ := hv.form
      rw [hst, List.length_append] at hfl
      obtain ⟨m, hm⟩ : ∃ m, (flatP (ps.take k)).length = m := ⟨_, rfl⟩
      have hm2 : (flatP (ps.take (k + 1))).length = m + ys.length := by rw [hst, List.length_append, hm]
      rw [hm] at hfl hfl0 ⊢
      have HM := Lib.hid hm2
      have r1 : IntKind.i64.wrap ((m : Int) + (ys.length : Int)) = (m : Int) + (ys.length : Int) := by rw [IntKind.wrap_i64]; omega
      have r2 : ¬ (m : Int) + (ys.length : Int) < 0 := by omega
      clear hst hm hm2 hv
      go_wp2_with fail
      go_roundw
      case rel => exact ⟨k + 1, by omega, by go_num, by rw [HM.out]; simp, by first | rfl | trivial⟩
      case measure => simp [intOf]; omega
    · obtain rfl : k = ps.length := by omega
      rw [List.take_length]
      obtain ⟨m, hm⟩ : ∃ m, (flatP ps).length = m := ⟨_, rfl⟩
      rw [hm] at hl
      rw [hm]
      have HM := Lib.hid hm
      have G := Lib.hid (grow_any m w hl)
      clear hm
      go_wp2_with fail
      refine G.out.mono ?_
      rintro e w1 ⟨⟨a1, c1, rfl, ho⟩, hb⟩
      have HO1 := Lib.hid ho
      have HB1 := Lib.hid hb
      clear ho hb G
      go_wp2_with fail
      go_loopw [6, 27] (fun rv i wr => ∃ (k : Nat) (ax : Option Addr) (cx : Nat) (xs : List Vw), k ≤ ps.length ∧ i = .int .i64 k ∧ rv = .slice ax xs.length cx ∧ Hid (flatP (ps.take k) = xs) ∧ Hid (OwV wr w.heap.size (.slice ax xs.length cx) xs) ∧ Hid (Below w.heap.size w wr)) (fun _ i _ => ps.length - (intOf i).toNat)
      case atStart => exact ⟨0, a1, c1, [], Nat.zero_le _, rfl, rfl, rfl, HO1.out, HB1.out⟩
      case round =>
        obtain ⟨k, ax, cx, xs, hk, rfl, rfl, HF, HO, HB⟩ := hrel
        clear HO1 HB1
        by_cases hlt : k < ps.length
        · obtain ⟨c0, hv⟩ := (H.out.below HB.out).2 k hlt
          have hst := flat_step ps k hlt
          have hfl := flat_le ps (k + 1)
          rw [HF.out] at hst
          obtain ⟨u, hu⟩ : ∃ u, (ps.getD k dP).1 = u := ⟨_, rfl⟩
          obtain ⟨ys, hys⟩ : ∃ ys, (ps.getD k dP).2 = ys := ⟨_, rfl⟩
          rw [hu] at c0 hv
          rw [hys] at hv hst
          clear hu hys
          rw [hst, List.length_append, HM.out] at hfl
          obtain ⟨r, w2, hr, ho, hg, _⟩ := run_gappv wr 22 w.heap.size _ xs HO.out u ys hv (by omega) HB.out.size
          have hb2 : Below w.heap.size w w2 := HB.out.grown hg HB.out.size (fun k hk => (World.ownsRow.lt HO.out k hk).1)
          obtain ⟨a2, c2, rfl⟩ := ho.form
          have HO2 := Lib.hid ho
          have HB2 := Lib.hid hb2
          have HST := Lib.hid hst
          clear ho hb2 hg hst hv hfl
          go_wp2_with (at_builtin; refine app_go rfl (.tmp 31) (.tmp 32) 22 rfl _ _ _ _ rfl rfl hr ?_)
          go_roundw
          case rel => exact ⟨k + 1, a2, c2, xs ++ ys, by omega, by go_num, by rw [List.length_append], HST.out, HO2.out, HB2.out⟩
          case measure => simp [intOf]; omega
        · obtain rfl : k = ps.length := by omega
          rw [List.take_length] at HF
          go_wp2_with fail
          go_ret
          exact ⟨⟨_, rfl, by rw [HF.out]; exact HO.out⟩, HB.out⟩
end Go.Proofs.Ytahhhegknmiinaa
