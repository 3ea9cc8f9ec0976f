/- The echoes of those that are wanted (echoes). No conditions. -/
import Derived.Test.YtcddicaebecneaaPo2
import Derived.Test.YtcddicaebecneaaSn3
namespace Go.Proofs.Ytcddicaebecneaa
set_option maxRecDepth 100000
open Go.RowKit

noncomputable def ncs (L : List Hd) : Array Value := (gflat RH L).toArray
theorem ncs_size {L : List Hd} (hL : L.length = 64) : (ncs L).size = 256 := (gflat_len RH L).trans (show L.length * 4 = 256 by rw [hL])
theorem ncs_at {L : List Hd} {i j : Nat} (hi : i < L.length) (hj : j < 4) : (ncs L)[i * 4 + j]? = (hdc (L.getD i zHd))[j]? := by
  have h := gflat_at RH L i j hi hj
  unfold ncs
  rw [List.getElem?_toArray]
  exact h
theorem underTA : Try.prog.underlying 71 = some (.array 64 70) := by kernel_rfl
theorem infoTA : (Try.prog.info? 71).map (·.size) = some 256 := by kernel_rfl
theorem underTN : Try.prog.underlying 70 = some (.struct (Try.prog.fieldsOf 70)) := by kernel_rfl
theorem infoTN : (Try.prog.info? 70).map (·.size) = some 4 := by kernel_rfl
theorem load_arr {w : World} {m : Nat} {now : Int} {L : List Hd} (h : Mem w m now L) : (loadVar 71 ⟨m, 1, none⟩).run Try.prog w = .ok (.agg (ncs L)) w := by
  have hl : (loadCells ⟨m, 1, none⟩ (ncs L).toList.length).run Try.prog w = .ok (ncs L).toList.toArray w :=
    run_loadCells_list (P := Try.prog) w ⟨m, 1, none⟩ (ncs L).toList (fun j v hv => by
      have hadd : (⟨m, 1, none⟩ : Addr).add j = ⟨m, 1 + j, none⟩ := by unfold Addr.add; split <;> simp_all
      rw [hadd, h.cell]
      have hv' : (gflat RH L)[j]? = some v := by simpa [ncs] using hv
      show (Value.int .i64 now :: gflat RH L).toArray[1 + j]? = some v
      rw [List.getElem?_toArray, Nat.add_comm, List.getElem?_cons_succ]
      exact hv')
  obtain ⟨i, h1, h2⟩ := Option.map_eq_some_iff.1 infoTA
  have hs : i.size = (ncs L).size := h2.trans (ncs_size h.2).symm
  have hagg : (isAgg 71).run Try.prog w = .ok true w := by
    unfold isAgg
    rw [Sem.run_bind, run_underlying underTA w]
    rfl
  simp only [Array.length_toList, Array.toArray_toList] at hl
  simp [loadVar, Sem.run_bind, hagg, sizeOf, typeInfo, h1, hs, hl]
theorem wp_load_arr {o : Oper} {a : Act} {w : World} {K : Act → World → Prop} {Q : Exit → Act → World → Prop} (x : Operand) (ho : o.op = .load 71 x) {m : Nat} (hx : a.eval x = .pointer (some ⟨m, 1, none⟩)) {now : Int} {L : List Hd} (hm : Mem w m now L)
    (h : K (a.put o.dst (.agg (ncs L))) w) : o.wp Try.prog a w K Q := by
  unfold Oper.wp execOp
  simp only [ho, hx, Instr.loadAt, Instr.sureAddr, Sem.run_bind, Sem.run_pure, Result.andThen_ok, load_arr hm]
  exact h
theorem idx_ncs {L : List Hd} (hL : L.length = 64) {k : Nat} (hk : k < 64) (w : World) :
    (Instr.index 71 (.agg (ncs L)) (.int .i64 (k : Int))).run Try.prog w = .ok (.agg #[.bool (L.getD k zHd).1, .int .i64 (L.getD k zHd).2.1, .int .i64 (L.getD k zHd).2.2.1, .bool (L.getD k zHd).2.2.2]) w := by
  obtain ⟨i, h1, h2⟩ := Option.map_eq_some_iff.1 infoTN
  have hi : (0 : Int) ≤ (k : Int) ∧ (k : Int) < 64 := by omega
  have hs := ncs_size hL
  have e : (ncs L).extract (k * 4) (k * 4 + 4) = #[.bool (L.getD k zHd).1, .int .i64 (L.getD k zHd).2.1, .int .i64 (L.getD k zHd).2.2.1, .bool (L.getD k zHd).2.2.2] := by
    refine Array.ext_getElem? fun j => ?_
    by_cases hj : j < 4
    · rw [Array.getElem?_extract_of_lt (by omega)]
      rw [← Array.getElem?_eq_getElem, ncs_at (by omega) hj]
      have hj' : j = 0 ∨ j = 1 ∨ j = 2 ∨ j = 3 := by omega
      rcases hj' with rfl | rfl | rfl | rfl <;> rfl
    · rw [Array.getElem?_eq_none (by rw [Array.size_extract]; omega), Array.getElem?_eq_none (by show 4 ≤ j; omega)]
  simp only [Instr.index, asIntOf, Sem.run_bind, Sem.run_pure, Result.andThen_ok, run_underlying underTA w]
  simp [hi, sizeOf, typeInfo, h1, h2, part, Sem.run_bind, e]
set_option maxHeartbeats 4000000 in
theorem echoes_bea (f : Hd → Bool) (hcl : ∀ (y : Hd) (w : World), Calls Try.prog 36 #[.agg #[.bool y.1, .int .i64 y.2.1, .int .i64 y.2.2.1, .bool y.2.2.2]] w fun e w' => e = .returned (.bool (f y)) ∧ Below w.heap.size w w') (b m : Nat) (s : Sn) (w : World) (h : PAt w b m s) :
    Calls Try.prog 35 #[.pointer (some ⟨b, 0, none⟩), .func (.func 36) #[] #[]] w fun e w' => (∃ a c, e = .returned (.slice a (echF f s.L 64).length c) ∧ OwC w' w.heap.size (.slice a (echF f s.L 64).length c) (echF f s.L 64)) ∧ Below w.heap.size w w' := by
  obtain ⟨R, hR⟩ : ∃ R, echF f s.L 64 = R := ⟨_, rfl⟩
  rw [hR]
  have HR := Lib.hid hR
  have HCL := Lib.hid hcl
  have H := Lib.hid h
  have L1 := mload b 3 ⟨m, 0, none⟩ w h.c3 h.mem.pt
  clear hR h hcl
  go_enter Try.func35, Try.ntmps35
  go_wp2_with fail
  refine L1.mono ?_
  rintro e w1 ⟨rfl, rfl⟩
  go_wp2_with fail
  refine wp_load_arr _ rfl rfl H.out.mem ?_
  go_wp2_with fail
  go_loopw [5, 15] (fun lv iv wr => ∃ (k : Nat) (ax : Option Addr) (cx : Nat) (xs : List (Int × Int)), k ≤ 64 ∧ iv = .int .i64 k ∧ lv = .slice ax xs.length cx ∧ Hid (echF f s.L k = xs) ∧ Hid (OwC wr w.heap.size (.slice ax xs.length cx) xs) ∧ Hid (Below w.heap.size w wr)) (fun _ i _ => 64 - (intOf i).toNat)
  case atStart => exact ⟨0, none, 0, [], Nat.zero_le _, rfl, rfl, rfl, OwC_nil _ _, Below.refl _ _⟩
  case round =>
    obtain ⟨k, ax, cx, xs, hk, rfl, rfl, HF, HO, HB⟩ := hrel
    have hxl : xs.length ≤ k := by
      have h1 := ech_len f s.L k
      rw [HF.out] at h1
      exact h1
    by_cases hlt : k < 64
    · have hix := fun W => idx_ncs H.out.mem.2 hlt W
      obtain ⟨y, hy⟩ : ∃ y, s.L.getD k zHd = y := ⟨_, rfl⟩
      have hst : echF f s.L (k + 1) = xs ++ if f y = true then [((k : Int), y.2.1)] else [] := by rw [← HF.out, ← hy]; rfl
      have hltz : (k : Int) < 64 := by omega
      rw [hy] at hix
      clear hy
      obtain ⟨V, hV⟩ : ∃ V, wr.alloc (.cells #[.bool y.1, .int .i64 y.2.1, .int .i64 y.2.2.1, .bool y.2.2.2] 70) = V := ⟨_, rfl⟩
      have hbv : Below wr.heap.size wr V := hV ▸ (Below.refl _ wr).alloc (Nat.le_refl _) _
      obtain ⟨g, hg⟩ : ∃ g, wr.heap.size = g := ⟨_, rfl⟩
      have hgv : V.heap.size = g + 1 := by rw [← hV, ← hg]; simp
      have hc4 : C4 V g 0 y := by rw [← hV, ← hg]; exact ⟨by simp, by simp, by simp, by simp⟩
      have HOV := Lib.hid (HO.out.below hbv)
      have HBV := Lib.hid (HB.out.trans (hbv.mono HB.out.size))
      have HC4 := Lib.hid hc4
      have HV := Lib.hid hV
      have HG := Lib.hid hg
      have HXL : Hid (xs.length ≤ 3000) := by show _ ≤ _; omega
      have HST := Lib.hid hst
      obtain ⟨x0, x1, x2, x3⟩ := hc4
      simp only [Nat.zero_add] at x1 x2 x3
      clear hV hbv hg hgv hst
      go_upto_region 5 with (fail)
      rw [HV.out]
      try simp only [HG.out]
      go_wp2_with fail
      refine (HCL.out y V).mono ?_
      rintro e w1 ⟨rfl, hb1⟩
      obtain ⟨z0, z1, z2, z3⟩ := HC4.out.chg (F := fun _ => False) (chg0 hb1) (fun h => h)
      simp only [Nat.zero_add] at z1 z2 z3
      have HO1 := Lib.hid (HOV.out.below hb1)
      have HB1 := Lib.hid (HBV.out.trans (hb1.mono HBV.out.size))
      clear x0 x1 x2 x3 hb1
      cases hf : f y with
      | true =>
        have HST1 : Hid (echF f s.L (k + 1) = xs ++ [((k : Int), y.2.1)]) := by show _ = _; rw [HST.out, if_pos hf]
        clear hf
        go_wp2_with (at_builtin; refine eappc_any rfl (.tmp 22) (.tmp 27) rfl w1 ((k : Int), y.2.1) rfl w.heap.size (.slice ax xs.length cx) xs rfl rfl HO1.out HXL.out HB1.out.size ?_; intro g1 cap1 wa ho9 hb9; have HO2 := Lib.hid ho9; have HA2 := Lib.hid hb9; clear ho9 hb9)
        go_roundw
        case rel => exact ⟨k + 1, some ⟨g1, 0, none⟩, cap1, xs ++ [((k : Int), y.2.1)], by omega, by go_num, by rw [List.length_append]; rfl, HST1.out, by have h9 := HO2.out; rw [List.length_append]; exact h9, HB1.out.trans HA2.out⟩
        case measure => simp [intOf]; omega
      | false =>
        have HST1 : Hid (echF f s.L (k + 1) = xs) := by show _ = _; rw [HST.out, if_neg (by rw [hf]; decide), List.append_nil]
        clear hf
        go_wp2_with fail
        go_roundw
        case rel => exact ⟨k + 1, ax, cx, xs, by omega, by go_num, rfl, HST1.out, HO1.out, HB1.out⟩
        case measure => simp [intOf]; omega
    · obtain rfl : k = 64 := by omega
      have e1 : xs = R := by rw [← HF.out, ← HR.out]
      have E1 := Lib.hid e1
      clear e1
      go_wp2_with fail
      go_ret
      rw [← E1.out]
      exact ⟨⟨ax, cx, rfl, HO.out⟩, HB.out⟩
set_option maxHeartbeats 4000000 in
theorem echoes_lnk (f : Hd → Bool) (hcl : ∀ (y : Hd) (w : World), Calls Try.prog 37 #[.agg #[.bool y.1, .int .i64 y.2.1, .int .i64 y.2.2.1, .bool y.2.2.2]] w fun e w' => e = .returned (.bool (f y)) ∧ Below w.heap.size w w') (b m : Nat) (s : Sn) (w : World) (h : PAt w b m s) :
    Calls Try.prog 35 #[.pointer (some ⟨b, 0, none⟩), .func (.func 37) #[] #[]] w fun e w' => (∃ a c, e = .returned (.slice a (echF f s.L 64).length c) ∧ OwC w' w.heap.size (.slice a (echF f s.L 64).length c) (echF f s.L 64)) ∧ Below w.heap.size w w' := by
  obtain ⟨R, hR⟩ : ∃ R, echF f s.L 64 = R := ⟨_, rfl⟩
  rw [hR]
  have HR := Lib.hid hR
  have HCL := Lib.hid hcl
  have H := Lib.hid h
  have L1 := mload b 3 ⟨m, 0, none⟩ w h.c3 h.mem.pt
  clear hR h hcl
  go_enter Try.func35, Try.ntmps35
  go_wp2_with fail
  refine L1.mono ?_
  rintro e w1 ⟨rfl, rfl⟩
  go_wp2_with fail
  refine wp_load_arr _ rfl rfl H.out.mem ?_
  go_wp2_with fail
  go_loopw [5, 15] (fun lv iv wr => ∃ (k : Nat) (ax : Option Addr) (cx : Nat) (xs : List (Int × Int)), k ≤ 64 ∧ iv = .int .i64 k ∧ lv = .slice ax xs.length cx ∧ Hid (echF f s.L k = xs) ∧ Hid (OwC wr w.heap.size (.slice ax xs.length cx) xs) ∧ Hid (Below w.heap.size w wr)) (fun _ i _ => 64 - (intOf i).toNat)
  case atStart => exact ⟨0, none, 0, [], Nat.zero_le _, rfl, rfl, rfl, OwC_nil _ _, Below.refl _ _⟩
  case round =>
    obtain ⟨k, ax, cx, xs, hk, rfl, rfl, HF, HO, HB⟩ := hrel
    have hxl : xs.length ≤ k := by
      have h1 := ech_len f s.L k
      rw [HF.out] at h1
      exact h1
    by_cases hlt : k < 64
    · have hix := fun W => idx_ncs H.out.mem.2 hlt W
      obtain ⟨y, hy⟩ : ∃ y, s.L.getD k zHd = y := ⟨_, rfl⟩
      have hst : echF f s.L (k + 1) = xs ++ if f y = true then [((k : Int), y.2.1)] else [] := by rw [← HF.out, ← hy]; rfl
      have hltz : (k : Int) < 64 := by omega
      rw [hy] at hix
      clear hy
      obtain ⟨V, hV⟩ : ∃ V, wr.alloc (.cells #[.bool y.1, .int .i64 y.2.1, .int .i64 y.2.2.1, .bool y.2.2.2] 70) = V := ⟨_, rfl⟩
      have hbv : Below wr.heap.size wr V := hV ▸ (Below.refl _ wr).alloc (Nat.le_refl _) _
      obtain ⟨g, hg⟩ : ∃ g, wr.heap.size = g := ⟨_, rfl⟩
      have hgv : V.heap.size = g + 1 := by rw [← hV, ← hg]; simp
      have hc4 : C4 V g 0 y := by rw [← hV, ← hg]; exact ⟨by simp, by simp, by simp, by simp⟩
      have HOV := Lib.hid (HO.out.below hbv)
      have HBV := Lib.hid (HB.out.trans (hbv.mono HB.out.size))
      have HC4 := Lib.hid hc4
      have HV := Lib.hid hV
      have HG := Lib.hid hg
      have HXL : Hid (xs.length ≤ 3000) := by show _ ≤ _; omega
      have HST := Lib.hid hst
      obtain ⟨x0, x1, x2, x3⟩ := hc4
      simp only [Nat.zero_add] at x1 x2 x3
      clear hV hbv hg hgv hst
      go_upto_region 5 with (fail)
      rw [HV.out]
      try simp only [HG.out]
      go_wp2_with fail
      refine (HCL.out y V).mono ?_
      rintro e w1 ⟨rfl, hb1⟩
      obtain ⟨z0, z1, z2, z3⟩ := HC4.out.chg (F := fun _ => False) (chg0 hb1) (fun h => h)
      simp only [Nat.zero_add] at z1 z2 z3
      have HO1 := Lib.hid (HOV.out.below hb1)
      have HB1 := Lib.hid (HBV.out.trans (hb1.mono HBV.out.size))
      clear x0 x1 x2 x3 hb1
      cases hf : f y with
      | true =>
        have HST1 : Hid (echF f s.L (k + 1) = xs ++ [((k : Int), y.2.1)]) := by show _ = _; rw [HST.out, if_pos hf]
        clear hf
        go_wp2_with (at_builtin; refine eappc_any rfl (.tmp 22) (.tmp 27) rfl w1 ((k : Int), y.2.1) rfl w.heap.size (.slice ax xs.length cx) xs rfl rfl HO1.out HXL.out HB1.out.size ?_; intro g1 cap1 wa ho9 hb9; have HO2 := Lib.hid ho9; have HA2 := Lib.hid hb9; clear ho9 hb9)
        go_roundw
        case rel => exact ⟨k + 1, some ⟨g1, 0, none⟩, cap1, xs ++ [((k : Int), y.2.1)], by omega, by go_num, by rw [List.length_append]; rfl, HST1.out, by have h9 := HO2.out; rw [List.length_append]; exact h9, HB1.out.trans HA2.out⟩
        case measure => simp [intOf]; omega
      | false =>
        have HST1 : Hid (echF f s.L (k + 1) = xs) := by show _ = _; rw [HST.out, if_neg (by rw [hf]; decide), List.append_nil]
        clear hf
        go_wp2_with fail
        go_roundw
        case rel => exact ⟨k + 1, ax, cx, xs, by omega, by go_num, rfl, HST1.out, HO1.out, HB1.out⟩
        case measure => simp [intOf]; omega
    · obtain rfl : k = 64 := by omega
      have e1 : xs = R := by rw [← HF.out, ← HR.out]
      have E1 := Lib.hid e1
      clear e1
      go_wp2_with fail
      go_ret
      rw [← E1.out]
      exact ⟨⟨ax, cx, rfl, HO.out⟩, HB.out⟩
end Go.Proofs.Ytcddicaebecneaa
