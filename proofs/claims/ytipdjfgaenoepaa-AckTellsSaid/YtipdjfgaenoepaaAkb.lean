/- A row of acks as bytes: the reference's Bytes. No conditions but on lengths. -/
import Derived.Test.YtipdjfgaenoepaaRpo
import Derived.Test.YtipdjfgaenoepaaAkr
import Derived.Test.YtipdjfgaenoepaaPlain
namespace Go.Proofs.Ytipdjfgaenoepaa
set_option maxRecDepth 100000
open Go.RowKit

/-- append of bytes to a row of the call's own: the other rows stand. -/
theorem app_grow {ops : Array Oper} {rest : List Oper} {o : Oper} {a : Act} {Q : Exit → Act → World → Prop} {w : World} (hgd : o.guard = none) (s x : Operand)
    (ho : o.op = .call { callee := .builtin .append, args := #[s, x], argTypes := #[25, 25] }) (base : Nat) (xs ys : List Int)
    (hown : w.ownsRow base 5 1 (a.eval s) xs.length (xs.map (Value.int .u8))) (hx : Bs w (a.eval x) ys) (h63 : xs.length + ys.length ≤ 1000) (hbase : base ≤ w.heap.size)
    (h : ∀ v' w', w'.ownsRow base 5 1 v' (xs ++ ys).length ((xs ++ ys).map (Value.int .u8)) → Below base w w' → w.heap.size ≤ w'.heap.size → w.grownBy w' (a.eval s).ownBlock → wpList Try.prog ops Q rest (a.put o.dst v') w') : wpList Try.prog ops Q (o :: rest) a w := by
  obtain ⟨i0, hi, hz0, hz1, hz2⟩ := info_parts Try.info5
  obtain ⟨_, _, ⟨ad, cap, hv, hz, rfl⟩ | ⟨b, off, cap, hv, hcap, hcs⟩⟩ := hx
  · cases ad with
    | none =>
      obtain rfl : cap = 0 := hz rfl
      refine wpList_append_own_none hgd s x 25 ho base 5 i0 1 Try.underlying25 hi _ _ _ rfl hown hv ?_
      rw [List.append_nil] at h
      exact h _ _ hown (Below.refl _ _) (Nat.le_refl _) ⟨rfl, rfl, rfl, Nat.le_refl _, fun _ _ _ => rfl⟩
    | some ad =>
      refine wpList_append_own w hgd s x 25 ho base 5 i0 (.int .u8 0) 1 1 Try.underlying25 hi hz0 hz1 hz2 rfl (by decide) _ _ _ rfl hown ad 0 cap [] hv (by simp) (by simp) (by simp) (by unfold maxLen; omega) (by omega) hbase fun v' w1 hown1 hgrow _ => ?_
      refine h v' w1 (by simpa using hown1) ((Below.refl _ w).grown hgrow hbase (fun k hk => (hown.lt k hk).1)) hgrow.size hgrow
  · refine wpList_append_own w hgd s x 25 ho base 5 i0 (.int .u8 0) 1 1 Try.underlying25 hi hz0 hz1 hz2 rfl (by decide) _ _ _ rfl hown ⟨b, off, none⟩ ys.length cap (ys.map (Value.int .u8)) hv (by simp) (news_of hcs) (ones ys) (by unfold maxLen; omega) (by omega) hbase fun v' w1 hown1 hgrow _ => ?_
    refine h v' w1 ?_ ((Below.refl _ w).grown hgrow hbase (fun k hk => (hown.lt k hk).1)) hgrow.size hgrow
    rw [List.length_append, List.map_append]; exact hown1


/-- An ack's bytes; a row's. -/
def akB (y : Int × Int × Int × Int) : List Int := y.1 :: (lo y.2.1 4 ++ (lo y.2.2.1 2 ++ lo y.2.2.2 2))
def acB (ys : List (Int × Int × Int × Int)) : List Int := [(ys.length : Int)] ++ (ys.map akB).flatten
theorem akB_len (y : Int × Int × Int × Int) : (akB y).length = 9 := by simp [akB, lo_len]
theorem akB_flat_len (ys : List (Int × Int × Int × Int)) : ((ys.map akB).flatten).length = 9 * ys.length := by
  induction ys with
  | nil => rfl
  | cons y ys ih => simp only [List.map_cons, List.flatten_cons, List.length_append, akB_len, ih, List.length_cons]; omega
theorem akB_step (ys : List (Int × Int × Int × Int)) (k : Nat) (h : k < ys.length) : ((ys.take (k + 1)).map akB).flatten = ((ys.take k).map akB).flatten ++ akB (ys.getD k (0, 0, 0, 0)) := by
  rw [List.take_succ_eq_append_getElem h, List.map_append, List.flatten_append]; simp [List.getD, h]
theorem rputE (v : Int) (w : World) (h : EpOk v) : Calls Try.prog 25 #[.int .i64 v, .int .i64 4] w fun e w' => ∃ r, e = .returned (.tuple #[r, .int .i64 0]) ∧ w'.ownsRow w.heap.size 5 1 r 4 ((lo v 4).map (Value.int .u8)) ∧ Below w.heap.size w w' := by
  exact rput_own v 4 w h.1 (by have := h.2; show v < 256 * (256 * (256 * (256 * 1))); omega) (by decide) (by decide)
theorem rputN (v : Int) (w : World) (h : 0 ≤ v ∧ v ≤ 65535) : Calls Try.prog 25 #[.int .i64 v, .int .i64 2] w fun e w' => ∃ r, e = .returned (.tuple #[r, .int .i64 0]) ∧ w'.ownsRow w.heap.size 5 1 r 2 ((lo v 2).map (Value.int .u8)) ∧ Below w.heap.size w w' := by
  exact rput_own v 2 w h.1 (by have := h.2; show v < 256 * (256 * 1); omega) (by decide) (by decide)
theorem lo_byt {v : Int} {n : Nat} : ∀ x ∈ lo v n, 0 ≤ x ∧ x < 256 := fun x hx => by
  obtain ⟨i, _, rfl⟩ := List.mem_map.1 hx
  omega
theorem u8_len {n : Nat} (h : n ≤ 64) : IntKind.u8.wrap (n : Int) = (n : Int) := by rw [IntKind.wrap_u8]; omega
theorem rbytes7_no (v : Value) (ys : List (Int × Int × Int × Int)) (w : World) (hy : As w v ys) (hl : ys.length ≤ 3000) (h : ¬ AksOk ys) :
    Calls Try.prog 10 #[v] w fun e w' => e = .returned (.tuple #[.slice none 0 0, .int .i64 1]) ∧ Below w.heap.size w w' := by
  have CR := Lib.hid (raright_fix v ys false ⟨fun hf => (by cases hf), fun h' => absurd h' h⟩ w hy hl)
  go_enter Try.func10, Try.ntmps10
  go_wp2_with fail
  refine CR.out.mono ?_
  rintro e w2 ⟨rfl, hb⟩
  have HB2 := Lib.hid hb
  clear hb
  go_wp2_with fail
  go_ret2
  exact ⟨rfl, HB2.out⟩
set_option maxHeartbeats 16000000 in
theorem rbytes7_ok (v : Value) (ys : List (Int × Int × Int × Int)) (w : World) (hy : As w v ys) (h : AksOk ys) :
    Calls Try.prog 10 #[v] w fun e w' => (∃ r, e = .returned (.tuple #[r, .int .i64 0]) ∧ w'.ownsRow w.heap.size 5 1 r (acB ys).length ((acB ys).map (Value.int .u8))) ∧ Below w.heap.size w w' := by
  obtain ⟨a, c, rfl⟩ := hy.form
  have hl := h.2.2
  have HY := Lib.hid hy
  have CR := Lib.hid (raright_fix (.slice a ys.length c) ys true ⟨fun _ => h, fun _ => rfl⟩ w hy (by omega))
  have HO := Lib.hid h
  have hwl := u8_len hl
  clear hy h
  go_enter Try.func10, Try.ntmps10
  go_wp2_with fail
  refine CR.out.mono ?_
  rintro e w2 ⟨rfl, hb⟩
  have HC2 := Lib.hid hb
  have HR4 : Hid ((w2.alloc (.cells #[.int .u8 (ys.length : Int)] 5)).ownsRow w.heap.size 5 1 (.slice (some ⟨w2.heap.size, 0, none⟩) 1 1) [(ys.length : Int)].length ([(ys.length : Int)].map (Value.int .u8))) := own_lit1 w2 w.heap.size (ys.length : Int) hb.size w2.heap.size rfl
  have HC4 : Hid (Below w.heap.size w (w2.alloc (.cells #[.int .u8 (ys.length : Int)] 5))) := hb.alloc hb.size _
  clear hb CR
  go_wp2_with fail
  go_loopw [4, 5] (fun out i wr => ∃ (k : Nat) (v5 : Value), k ≤ ys.length ∧ i = .int .i64 k ∧ v5 = out ∧ wr.ownsRow w.heap.size 5 1 v5 ([(ys.length : Int)] ++ ((ys.take k).map akB).flatten).length (([(ys.length : Int)] ++ ((ys.take k).map akB).flatten).map (Value.int .u8)) ∧ Below w.heap.size w wr) (fun _ i _ => ys.length - (intOf i).toNat)
  case atStart => exact ⟨0, _, Nat.zero_le _, rfl, rfl, by simpa using HR4.out, HC4.out⟩
  case round =>
    obtain ⟨k, v5, hk, rfl, rfl, hrow, hbel⟩ := hrel
    have HR5 := Lib.hid hrow
    have HC5 := Lib.hid hbel
    have HZ5 : Hid (w.heap.size ≤ wr.heap.size) := hbel.size
    have HY5 : Hid (As wr (.slice a ys.length c) ys) := HY.out.below hbel
    clear hrow hbel HR4 HC4
    by_cases hlt : k < ys.length
    · obtain ⟨b, off, rfl, hB, p0⟩ := HY5.out.at hlt
      have hE := HO.out.1 k hlt
      have hst := akB_step ys k hlt
      obtain ⟨⟨y1, y2, y3, y4⟩, hyk⟩ : ∃ y, ys.getD k (0, 0, 0, 0) = y := ⟨_, rfl⟩
      rw [hyk] at p0 hst
      have hE1 : AkOne (y1, y2, y3, y4) := by rw [← hyk]; exact hE.1
      have HE := Lib.hid hE1
      have HST := Lib.hid hst
      have hw1 : IntKind.u8.wrap y1 = y1 := by have h9 : 0 ≤ y1 ∧ y1 < 64 := HE.out.1; rw [IntKind.wrap_u8]; omega
      have P0 := Lib.hid p0
      clear hE hE1 hst hyk p0
      obtain ⟨p0, p1, p2, p3⟩ := P0.out
      simp only at p0 p1 p2 p3
      go_wp2_with fail
      refine (rputE y2 wr HE.out.2.1).mono ?_
      rintro e w6 ⟨r6, rfl, hr6, hb6⟩
      obtain ⟨a6, c6, rfl⟩ := gown_form hr6
      have HT6 := Lib.hid hr6
      have HB6 := Lib.hid hb6
      have P6 := Lib.hid (P0.out.below hb6)
      clear hr6 hb6 p0 p1 p2 p3
      obtain ⟨p0, p1, p2, p3⟩ := P6.out
      simp only at p0 p1 p2 p3
      go_wp2_with fail
      refine (rputN y3 w6 HE.out.2.2.1).mono ?_
      rintro e w7 ⟨r7, rfl, hr7, hb7⟩
      obtain ⟨a7, c7, rfl⟩ := gown_form hr7
      have HT6' := Lib.hid (gown_below HT6.out hb7)
      have HT7 := Lib.hid hr7
      have HB7 : Hid (Below wr.heap.size wr w7) := HB6.out.trans (hb7.mono HB6.out.size)
      have P7 := Lib.hid (P0.out.below HB7.out)
      clear hr7 hb7 p0 p1 p2 p3
      obtain ⟨p0, p1, p2, p3⟩ := P7.out
      simp only at p0 p1 p2 p3
      go_wp2_with fail
      refine (rputN y4 w7 HE.out.2.2.2).mono ?_
      rintro e w8 ⟨r8, rfl, hr8, hb8⟩
      obtain ⟨a8, c8, rfl⟩ := gown_form hr8
      have G6 := Lib.hid (gown_mono (gown_below HT6'.out hb8) (Nat.le_refl wr.heap.size))
      have G7 := Lib.hid (gown_mono (gown_below HT7.out hb8) HB6.out.size)
      have G8 := Lib.hid (gown_mono hr8 HB7.out.size)
      have HB8 : Hid (Below wr.heap.size wr w8) := HB7.out.trans (hb8.mono HB7.out.size)
      have P8 := Lib.hid (P0.out.below HB8.out)
      have HR8 := Lib.hid (gown_below HR5.out HB8.out)
      have HN : Hid (∀ b7, Value.ownBlock v5 = some b7 → b7 < wr.heap.size) := fun b7 h7 => (HR5.out.lt b7 h7).2
      have HNE : Hid (∀ (r : Value) (n : Nat) (xs : List Value), w8.ownsRow wr.heap.size 5 1 r n xs → (Value.ownBlock r = none ∨ Value.ownBlock r ≠ Value.ownBlock v5)) := fun r n xs hr => by
        cases hq : Value.ownBlock r with
        | none => exact .inl rfl
        | some q => exact .inr (fun e => by have h1 := (hr.lt q hq).1; have h2 := HN.out q e.symm; omega)
      have HC8 : Hid (Below w.heap.size w w8) := HC5.out.trans (HB8.out.mono HZ5.out)
      have HZ8 : Hid (w.heap.size ≤ w8.heap.size) := HC8.out.size
      clear hr8 hb8 p0 p1 p2 p3 HT6 HT6' HT7 HB6 HB7 P0 P6 P7 HC5 HR5 HY5
      obtain ⟨p0, p1, p2, p3⟩ := P8.out
      simp only at p0 p1 p2 p3
      have hPl : ([(ys.length : Int)] ++ ((ys.take k).map akB).flatten).length = 1 + 9 * k := by
        simp only [List.length_append, List.length_cons, List.length_nil, akB_flat_len, List.length_take]; omega
      obtain ⟨P, hP⟩ : ∃ P, [(ys.length : Int)] ++ ((ys.take k).map akB).flatten = P := ⟨_, rfl⟩
      rw [hP] at HR8 hPl
      have HPL := Lib.hid hPl
      have HP := Lib.hid hP
      clear hPl hP
      go_wp2_with (first
        | (at_builtin; (skip; refine app_grow rfl (.tmp 52) (.tmp 59) rfl w.heap.size P [y1] (HR8.out.alloc _) (bs_lit1 w8 y1 (by have h9 : 0 ≤ y1 ∧ y1 < 64 := HE.out.1; omega) w8.heap.size rfl) (by have := HPL.out; rw [this]; simp; omega) (by simp; exact Nat.le_succ_of_le HZ8.out) ?_; intro v9 w9 hown9 hb9 hs9 hg9; have HR9 := Lib.hid hown9; have HC9 := Lib.hid ((HC8.out.alloc HZ8.out _).trans hb9); have HT6 : Hid (Bs w9 (.slice a6 4 c6) (lo y2 4)) := Bs_of_own ((G6.out.alloc _).kept hg9 (HNE.out _ _ _ G6.out)) lo_byt (by rw [lo_len]; decide); have HT7 : Hid (Bs w9 (.slice a7 2 c7) (lo y3 2)) := Bs_of_own ((G7.out.alloc _).kept hg9 (HNE.out _ _ _ G7.out)) lo_byt (by rw [lo_len]; decide); have HT8 : Hid (Bs w9 (.slice a8 2 c8) (lo y4 2)) := Bs_of_own ((G8.out.alloc _).kept hg9 (HNE.out _ _ _ G8.out)) lo_byt (by rw [lo_len]; decide); have HZ9 : Hid (w.heap.size ≤ w9.heap.size) := HC9.out.size; clear hown9 hb9 hs9 hg9))
        | (go_at_call 22; go_loud (skip; refine (both3 HT6.out HT7.out HT8.out _ (by rw [lo_len, lo_len, lo_len]; decide)).mono ?_; rintro e wa ⟨ra, rfl, hra, hya, hba⟩; have HTa : Hid (Bs wa ra (lo y2 4 ++ (lo y3 2 ++ lo y4 2))) := Bs_of_own hra hya (by simp [lo_len]); have HBa : Hid (Below w9.heap.size w9 wa) := ((Below.refl _ w9).alloc (Nat.le_refl _) _).trans (hba.mono (by simp)); have HRa := Lib.hid (gown_below HR9.out HBa.out); have HCa : Hid (Below w.heap.size w wa) := HC9.out.trans (HBa.out.mono HZ9.out); have HZa : Hid (w.heap.size ≤ wa.heap.size) := HCa.out.size; clear hra hya hba))
        | (at_builtin; (skip; refine app_any rfl (.tmp 61) (.tmp 66) rfl w.heap.size (P ++ [y1]) (lo y2 4 ++ (lo y3 2 ++ lo y4 2)) HRa.out HTa.out (by have := HPL.out; rw [List.length_append, this, List.length_append, List.length_append, lo_len, lo_len, lo_len]; simp; omega) HZa.out ?_; intro vb wb hownb hbb hsb; have HRb := Lib.hid hownb; have HCb := Lib.hid (HCa.out.trans hbb); clear hownb hbb hsb)))
      go_roundw
      case rel => exact ⟨k + 1, _, by omega, by go_num, rfl, by rw [HST.out, ← List.append_assoc, HP.out]; simpa [akB] using HRb.out, HCb.out⟩
      case measure => simp [intOf]; omega
    · obtain rfl : k = ys.length := by omega
      go_wp2_with fail
      go_ret2
      exact ⟨⟨_, rfl, by have := HR5.out; rw [List.take_length] at this; exact this⟩, HC5.out⟩
#print axioms rbytes7_ok
end Go.Proofs.Ytipdjfgaenoepaa
