/- The reference's Int, and rows joined: their contracts. No conditions. -/
import Derived.Test.YtfiaghfaijlfjaaGreatPut
import Derived.Laws.AppendOwnNone
namespace Go.Proofs.YtfiaghfaijlfjaaGreat
open Go.RowKit
set_option maxRecDepth 20000

theorem lo_wrap (v : Int) (i : Nat) (h : i < 8) : IntKind.u64.wrap v / 256 ^ (8 - 1 - i) % 256 = v / 256 ^ (8 - 1 - i) % 256 := by
  rw [IntKind.wrap_u64]
  have : i = 0 ∨ i = 1 ∨ i = 2 ∨ i = 3 ∨ i = 4 ∨ i = 5 ∨ i = 6 ∨ i = 7 := by omega
  rcases this with rfl | rfl | rfl | rfl | rfl | rfl | rfl | rfl <;> simp only [Nat.reduceSub, Int.reducePow] <;> omega
theorem left_pos (V : Int) (_ : 0 ≤ V) : (V - V % 256) / 256 = V / 256 := by omega
theorem tmod_bd (V : Int) (h : V < 0) : -256 < V.tmod 256 ∧ V.tmod 256 ≤ 0 ∧ (V.tmod 256 < 0 → V.tmod 256 + 256 = V % 256) ∧ (¬ V.tmod 256 < 0 → V.tmod 256 = V % 256) := by
  have h1 := Int.tmod_add_mul_tdiv V 256
  have h2 := Int.tmod_lt_of_pos V (b := 256) (by omega)
  have h3 := Int.lt_tmod_of_pos V (b := 256) (by omega)
  have h4 : V.tmod 256 ≤ 0 := by
    have := Int.neg_tmod (-V) 256
    rw [Int.neg_neg] at this
    have h5 := Int.tmod_nonneg (a := -V) 256 (by omega)
    omega
  refine ⟨by omega, h4, fun _ => by omega, fun _ => by omega⟩
theorem tdiv_exact (V : Int) : (V - V % 256).tdiv 256 = V / 256 := by
  have : V - V % 256 = 256 * (V / 256) := by omega
  rw [this, Int.mul_tdiv_cancel_left _ (by omega)]
/-- What is left of v behind so many rounds; nothing in the end. -/
def leftOf (v j : Int) : Int := if j < 0 then 0 else v / 256 ^ (7 - j).toNat
theorem leftOf_next (v : Int) (k : Nat) (h : 1 ≤ k) (h7 : k ≤ 7) : leftOf v ((k : Int) - 1) = leftOf v k / 256 := by
  unfold leftOf
  rw [if_neg (by omega), if_neg (by omega), show (7 - ((k : Int) - 1)).toNat = (7 - (k : Int)).toNat + 1 from by omega, Int.pow_succ, ← Int.ediv_ediv_of_nonneg (by exact Int.pow_nonneg (by omega))]
theorem leftOf_at (v : Int) (k : Nat) (h7 : k ≤ 7) : leftOf v k = v / 256 ^ (8 - 1 - k) := by
  unfold leftOf
  rw [if_neg (by omega), show (7 - (k : Int)).toNat = 8 - 1 - k from by omega]
theorem leftOf_bd (v : Int) (k : Nat) (hv : -9223372036854775808 ≤ v) (hv' : v < 9223372036854775808) : -9223372036854775808 ≤ leftOf v k ∧ leftOf v k < 9223372036854775808 := by
  unfold leftOf
  rw [if_neg (by omega)]
  have hp : (0 : Int) < 256 ^ (7 - (k : Int)).toNat := Int.pow_pos (by omega)
  generalize (256 : Int) ^ (7 - (k : Int)).toNat = p at *
  refine ⟨?_, ?_⟩
  · rcases Int.lt_or_le v 0 with h | h
    · have : v ≤ v / p := by
        rw [Int.le_ediv_iff_mul_le hp]
        have : v * p ≤ v * 1 := Int.mul_le_mul_of_nonpos_left (by omega) (by omega)
        omega
      omega
    · have := Int.ediv_nonneg h (Int.le_of_lt hp); omega
  · rcases Int.lt_or_le v 0 with h | h
    · have := Int.ediv_neg_of_neg_of_pos h hp; omega
    · have := Int.ediv_le_self p h; omega
set_option maxHeartbeats 1000000 in
theorem rint_any (v : Int) (w : World) (hv : -9223372036854775808 ≤ v) (hv' : v < 9223372036854775808) :
    Calls Tryz.prog 95 #[.int .i64 v] w (RetBs (lo (IntKind.u64.wrap v) 8) w) := by
  obtain ⟨i0, hi, hz0, hz1, hz2⟩ := info_parts Tryz.info5
  have h88 : ((8 : Nat) : Int) = 8 := rfl
  go_enter Tryz.func95, Tryz.ntmps95
  go_wp2_with (at_make; go_must (refine wpList_make_full _ rfl _ _ 140 rfl w.heap.size 5 i0 (.int .u8 0) 1 Tryz.underlying140 hi hz0 hz1 _ _ _ _ 8 rfl rfl rfl rfl (by rw [hz2]; omega) (by unfold maxLen; omega) (by simp) ?_); intro w1 hown hgrow)
  rw [row_zero] at hown
  have hbel : Below w.heap.size w w1 := ((Below.refl _ w).grown hgrow (by simp) (by simp))
  clear hgrow
  go_loopw [0, 4, 5] (fun x i _ wr => ∃ j : Int, -1 ≤ j ∧ j < 8 ∧ i = .int .i64 j ∧ x = .int .i64 (leftOf v j) ∧ wr.ownsRow w.heap.size 5 1 (.slice (some ⟨w.heap.size, 0, none⟩) 8 8) 8 (row (downTo (fun i => v / 256 ^ (8 - 1 - i) % 256) (j + 1).toNat) 8) ∧ Below w.heap.size w wr) (fun _ i _ _ => (intOf i + 1).toNat)
  case atStart =>
    refine ⟨7, by omega, by omega, rfl, val_int ?_, ?_, hbel⟩
    · simp [leftOf]
    · rw [show ((7 : Int) + 1).toNat = 8 from rfl, row_downToN]; simpa using hown
  case round =>
    clear hbel hown
    obtain ⟨j, hj0, hj1, rfl, rfl, hown, hbel⟩ := hrel
    by_cases hlt : 0 ≤ j
    · obtain ⟨k, rfl⟩ := Int.eq_ofNat_of_zero_le hlt
      have hk8 : k < 8 := by omega
      rw [show ((k : Int) + 1).toNat = k + 1 from by omega] at hown
      have hcell := hown.cellAt k (by omega)
      rw [row_get _ _ _ hk8] at hcell
      have hfz := hown.frozenAt k
      have hst := Lib.hid (hown.stored k)
      have hb2 := Lib.hid hbel
      clear hown hbel
      obtain ⟨bd1, bd2⟩ := leftOf_bd v k hv hv'
      have hat := Lib.hid (leftOf_at v k (by omega))
      have hnx := Lib.hid (leftOf_next v k)
      generalize leftOf v k = V at *
      have hz : k = 0 → leftOf v ((k : Int) - 1) = 0 := fun h => by subst h; rfl
      have HZ := Lib.hid hz
      clear hz
      have fin : ∀ (L X : Int), L = V % 256 → ((k = 0 ∧ X = 0) ∨ (¬ k = 0 ∧ X = V / 256)) →
          (∃ j : Int, -1 ≤ j ∧ j < 8 ∧ Value.int IntKind.i64 ((k : Int) - 1) = .int .i64 j ∧ Value.int IntKind.i64 X = .int .i64 (leftOf v j) ∧ (wr.setCell ⟨w.heap.size, k, none⟩ (.int .u8 L)).ownsRow w.heap.size 5 1 (.slice (some ⟨w.heap.size, 0, none⟩) 8 8) 8 (row (downTo (fun i => v / 256 ^ (8 - 1 - i) % 256) (j + 1).toNat) 8) ∧ Below w.heap.size w (wr.setCell ⟨w.heap.size, k, none⟩ (.int .u8 L))) := by
        intro L X hL hX
        refine ⟨(k : Int) - 1, by omega, by omega, rfl, val_int ?_, ?_, hb2.out.setCell (by simp) _⟩
        · rcases hX with ⟨h1, h2⟩ | ⟨h1, h2⟩
          · rw [HZ.out h1, h2]
          · rw [hnx.out (by omega) (by omega), h2]
        · rw [show ((k : Int) - 1 + 1).toNat = k from by omega, ← row_down, hL, hat.out]
          exact (hst.out _).1
      have FIN := Lib.hid fin
      clear fin
      by_cases hV : 0 ≤ V
      · by_cases hk0 : k = 0
        · have hkb : ((k : Int) == 0) = true := by rw [beq_iff_eq]; omega
          have HK := Lib.hid hk0
          clear hk0
          go_wp2
          go_roundw
          case rel => exact FIN.out _ _ rfl (.inl ⟨HK.out, rfl⟩)
          case measure => simp [intOf]
        · have hkb : ((k : Int) == 0) = false := by rw [beq_eq_false_iff_ne]; omega
          have HK := Lib.hid hk0
          clear hk0
          go_wp2
          go_roundw
          case rel => exact FIN.out _ _ rfl (.inr ⟨HK.out, left_pos V hV⟩)
          case measure => simp [intOf]
      · obtain ⟨t1, t2, t3, t4⟩ := tmod_bd V (by omega)
        have hex := Lib.hid (tdiv_exact V)
        generalize hT : V.tmod 256 = T at *
        by_cases hT0 : T < 0
        · have e1 := t3 hT0
          have b1 : -9223372036854775808 ≤ V - (T + 256) := by omega
          have HE := Lib.hid e1
          clear e1 t3 t4
          by_cases hk0 : k = 0
          · have hkb : ((k : Int) == 0) = true := by rw [beq_iff_eq]; omega
            have HK := Lib.hid hk0
            clear hk0
            go_wp2
            go_roundw
            case rel => exact FIN.out _ _ HE.out (.inl ⟨HK.out, rfl⟩)
            case measure => simp [intOf]
          · have hkb : ((k : Int) == 0) = false := by rw [beq_eq_false_iff_ne]; omega
            have HK := Lib.hid hk0
            clear hk0
            go_wp2
            go_roundw
            case rel => exact FIN.out _ _ HE.out (.inr ⟨HK.out, by rw [HE.out, hex.out]⟩)
            case measure => simp [intOf]
        · have e1 := t4 hT0
          have b1 : -9223372036854775808 ≤ V - T := by omega
          have HE := Lib.hid e1
          clear e1 t3 t4
          by_cases hk0 : k = 0
          · have hkb : ((k : Int) == 0) = true := by rw [beq_iff_eq]; omega
            have HK := Lib.hid hk0
            clear hk0
            go_wp2
            go_roundw
            case rel => exact FIN.out _ _ HE.out (.inl ⟨HK.out, rfl⟩)
            case measure => simp [intOf]
          · have hkb : ((k : Int) == 0) = false := by rw [beq_eq_false_iff_ne]; omega
            have HK := Lib.hid hk0
            clear hk0
            go_wp2
            go_roundw
            case rel => exact FIN.out _ _ HE.out (.inr ⟨HK.out, by rw [HE.out, hex.out]⟩)
            case measure => simp [intOf]
    · obtain rfl : j = -1 := by omega
      have ho := Lib.hid hown
      have hb2 := Lib.hid hbel
      clear hown hbel
      go_wp2
      go_ret
      refine ⟨_, rfl, ?_, hb2.out⟩
      have hr := ho.out
      rw [show ((-1 : Int) + 1).toNat = 0 from rfl, row_downTo] at hr
      rw [row_congr (fun i h => (lo_wrap v i h).symm)] at hr
      exact Bs_of_row hr (by omega) (fun i _ => by omega)
theorem Bs_below {w w' : World} {v : Value} {xs : List Int} (h : Bs w v xs) (hb : Below w.heap.size w w') : Bs w' v xs := by
  obtain ⟨h1, h2, h3 | ⟨b, off, cap, h4, h5, h6⟩⟩ := h
  · exact ⟨h1, h2, .inl h3⟩
  · refine ⟨h1, h2, .inr ⟨b, off, cap, h4, h5, fun i hi => ?_⟩⟩
    have hc := h6 i hi
    rw [hb.cell (World.block_lt_of_cell? w _ hc)]
    exact hc
theorem Bs_of_own {w : World} {base n : Nat} {v : Value} {xs : List Int} (h : w.ownsRow base 5 1 v n (xs.map (Value.int .u8))) (hx : ∀ x ∈ xs, 0 ≤ x ∧ x < 256) (hn : xs.length ≤ 9223372036854775807) : Bs w v xs := by
  have hl : xs.length = n := by simpa using h.1
  refine ⟨hx, hn, ?_⟩
  rcases h.2 with ⟨h1, h2⟩ | ⟨g, cap, cur, rfl, _, hg, hnc, _, _, htake⟩
  · left; exact ⟨none, 0, h1, fun _ => rfl, List.length_eq_zero_iff.1 (by omega)⟩
  · right
    refine ⟨g, 0, cap, by rw [hl], by omega, fun i hi => ?_⟩
    rw [Nat.zero_add, h.cellAt i (by omega)]
    simp [List.getD, hi]
theorem flat_step (xss : List (List Int)) (k : Nat) (h : k < xss.length) : (xss.take (k + 1)).flatten = (xss.take k).flatten ++ xss.getD k [] := by
  rw [List.take_succ_eq_append_getElem h, List.flatten_append]
  simp [List.getD, h]
theorem flat_le (xss : List (List Int)) (k : Nat) : (xss.take k).flatten.length ≤ xss.flatten.length := by
  have := congrArg (fun l => (List.flatten l).length) (List.take_append_drop k xss)
  simp only [List.flatten_append, List.length_append] at this
  omega
theorem news_of {w : World} {b off : Nat} {xs : List Int} (hc : ∀ i, i < xs.length → w.cell? ⟨b, off + i, none⟩ = some (.int .u8 (xs.getD i 0))) : ∀ j u, (xs.map (Value.int .u8))[j]? = some u → w.cell? ((⟨b, off, none⟩ : Addr).add j) = some u := by
  intro j u h
  have hj : j < xs.length := by
    rcases Nat.lt_or_ge j xs.length with h' | h'
    · exact h'
    · rw [List.getElem?_eq_none (by simpa using h')] at h; cases h
  have hadd : (⟨b, off, none⟩ : Addr).add j = ⟨b, off + j, none⟩ := by unfold Addr.add; split <;> simp_all
  rw [hadd, hc j hj]
  simp [hj] at h
  simp [List.getD, hj, h]
theorem ones (xs : List Int) : ∀ u ∈ xs.map (Value.int .u8), u.oneCell' = true := by
  intro u hu
  obtain ⟨_, _, rfl⟩ := List.mem_map.1 hu
  rfl
/-- It returns a slice of the call's own that reads as xs, and nothing that was there has changed. -/
def RetOwn (xs : List Int) (w : World) (e : Ending) (w' : World) : Prop := ∃ r, e = .returned r ∧ w'.ownsRow w.heap.size 5 1 r xs.length (xs.map (Value.int .u8)) ∧ (∀ x ∈ xs, 0 ≤ x ∧ x < 256) ∧ Below w.heap.size w w'
set_option maxHeartbeats 1000000 in
theorem both_any (g : Nat) (vs : List Value) (xss : List (List Int)) (w : World) (hl : vs.length = xss.length)
    (hcell : ∀ i, i < vs.length → w.cell? ⟨g, i, none⟩ = some (vs.getD i undef)) (hb : ∀ i, i < vs.length → Bs w (vs.getD i undef) (xss.getD i [])) (tot : xss.flatten.length ≤ 1000) (h9 : vs.length ≤ 9) :
    Calls Tryz.prog 117 #[.slice (some ⟨g, 0, none⟩) vs.length vs.length] w (RetOwn xss.flatten w) := by
  obtain ⟨i0, hi, hz0, hz1, hz2⟩ := info_parts Tryz.info5
  have hbytes := Lib.hid (fun i (hi : i < vs.length) => (hb i hi).1)
  have hl' : vs.length ≤ xss.length := by omega
  have HL := Lib.hid hl
  clear hl
  go_enter Tryz.func117, Tryz.ntmps117
  go_wp2
  go_loopw [3, 4] (fun v i wr => ∃ k : Nat, k ≤ vs.length ∧ i = .int .i64 k ∧ wr.ownsRow w.heap.size 5 1 v (xss.take k).flatten.length ((xss.take k).flatten.map (Value.int .u8)) ∧ Below w.heap.size w wr) (fun _ i _ => vs.length - (intOf i).toNat)
  case atStart => exact ⟨0, Nat.zero_le _, rfl, World.ownsRow_nil _ _ _ _, Below.refl _ _⟩
  case round =>
    obtain ⟨k, hk, rfl, hown, hbel⟩ := hrel
    by_cases hlt : k < vs.length
    · have hc := hcell k hlt
      have hc1 : wr.cell? ⟨g, k, none⟩ = some (vs.getD k undef) := by rw [hbel.cell (World.block_lt_of_cell? w _ hc)]; exact hc
      have hB := Bs_below (hb k hlt) hbel
      have hbs : w.heap.size ≤ wr.heap.size := hbel.size
      have hb2 := Lib.hid hbel
      have hfs := Lib.hid (flat_step xss k (by omega))
      have hle := flat_le xss (k + 1)
      rw [hfs.out, List.length_append] at hle
      clear hcell hb hc hbel
      generalize vs.getD k undef = vk at *
      generalize xss.getD k [] = xk at *
      obtain ⟨_, _, ⟨a, cap, rfl, hz, rfl⟩ | ⟨b, off, cap, rfl, hcap, hcs⟩⟩ := hB
      · have ho := Lib.hid hown
        clear hown
        cases a with
        | none =>
          obtain rfl : cap = 0 := hz rfl
          clear hz
          go_wp2_with (at_builtin; go_must (refine wpList_append_own_none rfl (.tmp 11) (.tmp 15) 140 rfl w.heap.size 5 i0 1 Tryz.underlying140 hi _ _ _ rfl ho.out rfl ?_))
          go_roundw
          case rel => exact ⟨k + 1, by omega, by go_num, by rw [hfs.out, List.append_nil]; exact ho.out, hb2.out⟩
          case measure => simp [intOf]; omega
        | some x =>
          clear hz
          go_wp2_with (at_builtin; go_must (refine wpList_append_own _ rfl (.tmp 11) (.tmp 15) 140 rfl w.heap.size 5 i0 (.int .u8 0) 1 1 Tryz.underlying140 hi hz0 hz1 hz2 rfl (by decide) _ _ _ rfl ho.out x 0 cap [] rfl (by simp) (by simp) (by simp) (by unfold maxLen; omega) (by omega) hbs ?_); intro v' w1 hown1 hgrow _)
          go_roundw
          case rel => exact ⟨k + 1, by omega, by go_num, by rw [hfs.out, List.append_nil]; simpa using hown1, hb2.out.grown hgrow hbs (fun k hk => (ho.out.lt k hk).1)⟩
          case measure => simp [intOf]; omega
      · have ho := Lib.hid hown
        have hnews := Lib.hid (news_of hcs)
        clear hown hcs
        go_wp2_with (at_builtin; go_must (refine wpList_append_own _ rfl (.tmp 11) (.tmp 15) 140 rfl w.heap.size 5 i0 (.int .u8 0) 1 1 Tryz.underlying140 hi hz0 hz1 hz2 rfl (by decide) _ _ _ rfl ho.out ⟨b, off, none⟩ xk.length cap (xk.map (Value.int .u8)) rfl (by simp) hnews.out (ones xk) (by unfold maxLen; omega) (by omega) hbs ?_); intro v' w1 hown1 hgrow _)
        go_roundw
        case rel => exact ⟨k + 1, by omega, by go_num, by rw [hfs.out, List.length_append, List.map_append]; exact hown1, hb2.out.grown hgrow hbs (fun k hk => (ho.out.lt k hk).1)⟩
        case measure => simp [intOf]; omega
    · obtain rfl : k = vs.length := by omega
      have ho := Lib.hid hown
      have hb2 := Lib.hid hbel
      clear hown hbel hcell
      go_wp2
      go_ret
      refine ⟨_, rfl, ?_, ?_, hb2.out⟩
      · have hr := ho.out
        have hl := HL.out
        rw [hl, List.take_length] at hr
        exact hr
      have hl := HL.out
      intro x hx
      obtain ⟨l, hl1, hl2⟩ := List.mem_flatten.1 hx
      obtain ⟨i, hi1, rfl⟩ := List.mem_iff_getElem.1 hl1
      have := hbytes.out i (by omega)
      simp only [List.getD, hi1, List.getElem?_eq_getElem, Option.getD_some] at this
      exact this x hl2
end Go.Proofs.YtfiaghfaijlfjaaGreat

