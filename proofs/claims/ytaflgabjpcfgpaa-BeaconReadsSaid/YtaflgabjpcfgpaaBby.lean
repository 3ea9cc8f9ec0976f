/- A beacon as bytes: the reference's Bytes. No conditions but on lengths. -/
import Derived.Test.YtaflgabjpcfgpaaRpo
import Derived.Test.YtaflgabjpcfgpaaBeo
namespace Go.Proofs.Ytaflgabjpcfgpaa
set_option maxRecDepth 100000
open Go.RowKit

/-- append of bytes to a row of the call's own: the other rows stand. -/
theorem app_grow {ops : Array Oper} {rest : List Oper} {o : Oper} {a : Act} {Q : Exit → Act → World → Prop} {w : World} (hgd : o.guard = none) (s x : Operand)
    (ho : o.op = .call { callee := .builtin .append, args := #[s, x], argTypes := #[26, 26] }) (base : Nat) (xs ys : List Int)
    (hown : w.ownsRow base 5 1 (a.eval s) xs.length (xs.map (Value.int .u8))) (hx : Bs w (a.eval x) ys) (h63 : xs.length + ys.length ≤ 1000) (hbase : base ≤ w.heap.size)
    (h : ∀ v' w', w'.ownsRow base 5 1 v' (xs ++ ys).length ((xs ++ ys).map (Value.int .u8)) → Below base w w' → w.heap.size ≤ w'.heap.size → w.grownBy w' (a.eval s).ownBlock → wpList Try.prog ops Q rest (a.put o.dst v') w') : wpList Try.prog ops Q (o :: rest) a w := by
  obtain ⟨i0, hi, hz0, hz1, hz2⟩ := info_parts Try.info5
  obtain ⟨_, _, ⟨ad, cap, hv, hz, rfl⟩ | ⟨b, off, cap, hv, hcap, hcs⟩⟩ := hx
  · cases ad with
    | none =>
      obtain rfl : cap = 0 := hz rfl
      refine wpList_append_own_none hgd s x 26 ho base 5 i0 1 Try.underlying26 hi _ _ _ rfl hown hv ?_
      rw [List.append_nil] at h
      exact h _ _ hown (Below.refl _ _) (Nat.le_refl _) ⟨rfl, rfl, rfl, Nat.le_refl _, fun _ _ _ => rfl⟩
    | some ad =>
      refine wpList_append_own w hgd s x 26 ho base 5 i0 (.int .u8 0) 1 1 Try.underlying26 hi hz0 hz1 hz2 rfl (by decide) _ _ _ rfl hown ad 0 cap [] hv (by simp) (by simp) (by simp) (by unfold maxLen; omega) (by omega) hbase fun v' w1 hown1 hgrow _ => ?_
      refine h v' w1 (by simpa using hown1) ((Below.refl _ w).grown hgrow hbase (fun k hk => (hown.lt k hk).1)) hgrow.size hgrow
  · refine wpList_append_own w hgd s x 26 ho base 5 i0 (.int .u8 0) 1 1 Try.underlying26 hi hz0 hz1 hz2 rfl (by decide) _ _ _ rfl hown ⟨b, off, none⟩ ys.length cap (ys.map (Value.int .u8)) hv (by simp) (news_of hcs) (ones ys) (by unfold maxLen; omega) (by omega) hbase fun v' w1 hown1 hgrow _ => ?_
    refine h v' w1 ?_ ((Below.refl _ w).grown hgrow hbase (fun k hk => (hown.lt k hk).1)) hgrow.size hgrow
    rw [List.length_append, List.map_append]; exact hown1

/-- An echo's bytes; a beacon's. -/
def ecB (y : Int × Int) : List Int := y.1 :: lo y.2 4
def beB (M : Int) (ys : List (Int × Int)) : List Int := lo M 4 ++ [(ys.length : Int)] ++ (ys.map ecB).flatten
theorem lo_len (v : Int) (n : Nat) : (lo v n).length = n := by simp [lo]
theorem ecB_len (y : Int × Int) : (ecB y).length = 5 := by simp [ecB, lo_len]
theorem ecB_flat_len (ys : List (Int × Int)) : ((ys.map ecB).flatten).length = 5 * ys.length := by
  induction ys with
  | nil => rfl
  | cons y ys ih => simp only [List.map_cons, List.flatten_cons, List.length_append, ecB_len, ih, List.length_cons]; omega
theorem ecB_step (ys : List (Int × Int)) (k : Nat) (h : k < ys.length) : ((ys.take (k + 1)).map ecB).flatten = ((ys.take k).map ecB).flatten ++ ecB (ys.getD k (0, 0)) := by
  rw [take_snoc h, List.map_append, List.flatten_append]; simp
/-- Echoes in their order are no more than the ids. -/
theorem BeOk.lo {M : Int} {ys : List (Int × Int)} (h : BeOk M ys) : ∀ i, i < ys.length → (i : Int) ≤ (ys.getD i (0, 0)).1 := by
  intro i
  induction i with
  | zero => intro hi; exact (h.1 0 hi).1.1
  | succ i ih =>
    intro hi
    have h1 := ih (by omega)
    have h2 := (h.1 (i + 1) hi).2.1 (by omega)
    rw [Nat.add_sub_cancel] at h2
    omega
theorem BeOk.len {M : Int} {ys : List (Int × Int)} (h : BeOk M ys) : ys.length ≤ 64 := by
  by_cases h0 : ys.length = 0
  · omega
  · have h1 := h.lo (ys.length - 1) (by omega)
    have h2 := (h.1 (ys.length - 1) (by omega)).1.2
    omega
theorem rput4 (v : Int) (w : World) (h : EpOk v) : Calls Try.prog 26 #[.int .i64 v, .int .i64 4] w fun e w' => ∃ r, e = .returned (.tuple #[r, .int .i64 0]) ∧ w'.ownsRow w.heap.size 5 1 r (lo v 4).length ((lo v 4).map (Value.int .u8)) ∧ Below w.heap.size w w' := by
  rw [lo_len]
  exact rput_own v 4 w h.1 (by have := h.2; show v < 256 * (256 * (256 * (256 * 1))); omega) (by decide) (by decide)
theorem lo_byt {v : Int} {n : Nat} : Byt (lo v n) := fun x hx => by
  obtain ⟨i, _, rfl⟩ := List.mem_map.1 hx
  omega
theorem u8_len {n : Nat} (h : n ≤ 64) : IntKind.u8.wrap (n : Int) = (n : Int) := by rw [IntKind.wrap_u8]; omega
theorem rbytes6_no (M : Int) (v : Value) (ys : List (Int × Int)) (w : World) (hy : Es w v ys) (hl : ys.length ≤ 3000) (h : ¬ BeOk M ys) :
    Calls Try.prog 10 #[.agg #[.int .i64 M, v]] w fun e w' => e = .returned (.tuple #[.slice none 0 0, .int .i64 1]) ∧ Below w.heap.size w w' := by
  obtain ⟨a, c, rfl⟩ := hy.form
  have CR := Lib.hid (rbright_fix M (.slice a ys.length c) ys false ⟨fun hf => (by cases hf), fun h' => absurd h' h⟩ (w.alloc (.cells #[.int .i64 M, .slice a ys.length c] 24)) (hy.alloc _) hl)
  have HB : Hid (Below w.heap.size w (w.alloc (.cells #[.int .i64 M, .slice a ys.length c] 24))) := (Below.refl _ w).alloc (Nat.le_refl _) _
  clear hy
  go_enter Try.func10, Try.ntmps10
  go_wp2_with fail
  refine CR.out.mono ?_
  rintro e w2 ⟨rfl, hb⟩
  have HB2 := Lib.hid (HB.out.trans (hb.mono HB.out.size))
  clear hb
  go_wp2_with fail
  go_ret2
  exact ⟨rfl, HB2.out⟩
set_option maxHeartbeats 16000000 in
theorem rbytes6_ok (M : Int) (v : Value) (ys : List (Int × Int)) (w : World) (hy : Es w v ys) (h : BeOk M ys) :
    Calls Try.prog 10 #[.agg #[.int .i64 M, v]] w fun e w' => (∃ r, e = .returned (.tuple #[r, .int .i64 0]) ∧ w'.ownsRow w.heap.size 5 1 r (beB M ys).length ((beB M ys).map (Value.int .u8))) ∧ Below w.heap.size w w' := by
  obtain ⟨a, c, rfl⟩ := hy.form
  have hl := h.len
  obtain ⟨W1, hW1⟩ : ∃ W1, W1 = w.alloc (.cells #[.int .i64 M, .slice a ys.length c] 24) := ⟨_, rfl⟩
  have hs1 : W1.heap.size = w.heap.size + 1 := by rw [hW1]; simp
  have HB : Hid (Below w.heap.size w W1) := by rw [hW1]; exact (Below.refl _ w).alloc (Nat.le_refl _) _
  have HY : Hid (Es W1 (.slice a ys.length c) ys) := by rw [hW1]; exact hy.alloc _
  have OX : Hid (OwnB2 W1 w.heap.size M (.slice a ys.length c)) := by rw [hW1]; exact ownb2_alloc w M (.slice a ys.length c) 24 w.heap.size rfl
  have CR := Lib.hid (rbright_fix M (.slice a ys.length c) ys true ⟨fun _ => h, fun _ => rfl⟩ W1 HY.out (by omega))
  have HO := Lib.hid h
  have hwl := u8_len hl
  obtain ⟨S, hS⟩ : ∃ S, W1.heap.size = S := ⟨_, rfl⟩
  have HS := Lib.hid hS
  have HS1 : Hid (w.heap.size < S) := by show _ < _; omega
  obtain ⟨⟨x0, x1⟩, xf⟩ := OX.out
  clear hy h hS hs1
  go_enter Try.func10, Try.ntmps10
  go_upto_region 1 with (fail)
  rw [← hW1]
  clear hW1
  go_wp2_with fail
  refine CR.out.mono ?_
  rintro e w2 ⟨rfl, hb⟩
  rw [HS.out] at hb
  have HC2 := Lib.hid hb
  have OX2 := Lib.hid (OX.out.low HS1.out hb)
  have HZ2 : Hid (S ≤ w2.heap.size) := by show _ ≤ _; have := hb.size; have h2 := HS.out; omega
  clear hb x0 x1 xf CR
  obtain ⟨⟨x0, x1⟩, xf⟩ := OX2.out
  go_wp2_with fail
  refine (rput4 M w2 HO.out.2).mono ?_
  rintro e w3 ⟨r, rfl, hr, hb⟩
  have HC3 := Lib.hid (HC2.out.trans (hb.mono HZ2.out))
  have OX3 := Lib.hid (OX.out.low HS1.out HC3.out)
  have HR := Lib.hid (gown_mono hr HZ2.out)
  have HZ3 : Hid (S ≤ w3.heap.size) := Nat.le_trans HZ2.out hb.size
  clear hb hr x0 x1 xf HC2 OX2 HZ2
  obtain ⟨⟨x0, x1⟩, xf⟩ := OX3.out
  go_wp2_with (at_builtin; go_loud (skip; refine app_any rfl (.tmp 18) (.tmp 23) rfl S (lo M 4) [(ys.length : Int)] (HR.out.alloc _) (bs_lit1 w3 (ys.length : Int) (by omega) w3.heap.size rfl) (by rw [lo_len]; simp) (by simp; exact Nat.le_succ_of_le HZ3.out) ?_; intro v4 w4 hown4 hb4 hs4; have HR4 := Lib.hid hown4; have HC4 := Lib.hid ((HC3.out.alloc HZ3.out _).trans hb4); have HZ4 : Hid (S ≤ w4.heap.size) := (Nat.le_trans (by simp; exact Nat.le_succ_of_le HZ3.out) hs4); clear hown4 hb4 hs4))
  clear x0 x1 xf HR HC3 HZ3 OX3
  go_loopw [4, 6] (fun out i wr => ∃ (k : Nat) (v5 : Value), k ≤ ys.length ∧ i = .int .i64 k ∧ v5 = out ∧ wr.ownsRow S 5 1 v5 (lo M 4 ++ [(ys.length : Int)] ++ ((ys.take k).map ecB).flatten).length ((lo M 4 ++ [(ys.length : Int)] ++ ((ys.take k).map ecB).flatten).map (Value.int .u8)) ∧ S ≤ wr.heap.size ∧ Below S W1 wr) (fun _ i _ => ys.length - (intOf i).toNat)
  case atStart => exact ⟨0, _, Nat.zero_le _, rfl, rfl, by simpa using HR4.out, HZ4.out, HC4.out⟩
  case round =>
    obtain ⟨k, v5, hk, rfl, rfl, hrow, hsz, hbel⟩ := hrel
    have HR5 := Lib.hid hrow
    have HZ5 := Lib.hid hsz
    have HC5 := Lib.hid hbel
    have OX5 := Lib.hid (OX.out.low HS1.out hbel)
    have HY5 : Hid (Es wr (.slice a ys.length c) ys) := HY.out.below (by rw [HS.out]; exact hbel)
    clear hrow hsz hbel HR4 HZ4 HC4
    obtain ⟨⟨x0, x1⟩, xf⟩ := OX5.out
    by_cases hlt : k < ys.length
    · obtain ⟨b, off, rfl, hB, p0, p1⟩ := HY5.out.at hlt
      have hE := HO.out.1 k hlt
      have hst := ecB_step ys k hlt
      obtain ⟨⟨y1, y2⟩, hyk⟩ : ∃ y, ys.getD k (0, 0) = y := ⟨_, rfl⟩
      rw [hyk] at p0 p1 hst
      have hE1 : (0 ≤ y1 ∧ y1 < 64) ∧ EpOk y2 := by unfold EcAt at hE; rw [hyk] at hE; exact ⟨hE.1, hE.2.2⟩
      have HE := Lib.hid hE1
      have HST := Lib.hid hst
      have hw1 : IntKind.u8.wrap y1 = y1 := by have := HE.out.1; rw [IntKind.wrap_u8]; omega
      simp only at p0 p1
      clear hE hE1 hst hyk
      go_wp2_with fail
      refine (rput4 y2 wr HE.out.2).mono ?_
      rintro e w6 ⟨r6, rfl, hr, hb⟩
      have HC6 := Lib.hid (HC5.out.trans (hb.mono HZ5.out))
      have HN6 : Hid (∀ b7, Value.ownBlock v5 = some b7 → b7 < wr.heap.size) := fun b7 h7 => (HR5.out.lt b7 h7).2
      have HR6 := Lib.hid (gown_below HR5.out hb)
      have HT6 := Lib.hid hr
      have HNE : Hid (Value.ownBlock r6 = none ∨ Value.ownBlock r6 ≠ Value.ownBlock v5) := by
        cases hq : Value.ownBlock r6 with
        | none => exact .inl rfl
        | some q => exact .inr (fun e => by have h1 := (hr.lt q hq).1; have h2 := HN6.out q e.symm; omega)
      have HZ6 : Hid (S ≤ w6.heap.size) := Nat.le_trans HZ5.out hb.size
      have OX6 := Lib.hid (OX.out.low HS1.out HC6.out)
      have HY6 : Hid (Es w6 (.slice (some ⟨b, off, none⟩) ys.length c) ys) := HY.out.below (by rw [HS.out]; exact HC6.out)
      have q0 := (hb.cell (p := ⟨b, off + k * 2, none⟩) hB).trans p0
      clear hb hr x0 x1 xf p0 p1 HC5 HZ5 HR5 OX5 HY5
      obtain ⟨⟨x0, x1⟩, xf⟩ := OX6.out
      have hPl : (lo M 4 ++ [(ys.length : Int)] ++ ((ys.take k).map ecB).flatten).length = 5 + 5 * k := by
        simp only [List.length_append, lo_len, List.length_cons, List.length_nil, ecB_flat_len, List.length_take]; omega
      obtain ⟨P, hP⟩ : ∃ P, lo M 4 ++ [(ys.length : Int)] ++ ((ys.take k).map ecB).flatten = P := ⟨_, rfl⟩
      rw [hP] at HR6 hPl
      have HPL := Lib.hid hPl
      have HP := Lib.hid hP
      clear hPl hP
      go_wp2_with (first
        | (at_builtin; (skip; refine app_grow rfl (.tmp 42) (.tmp 50) rfl S P [y1] (HR6.out.alloc _) (bs_lit1 w6 y1 (by have := HE.out.1; omega) w6.heap.size rfl) (by have := HPL.out; rw [this]; simp; omega) (by simp; exact Nat.le_succ_of_le HZ6.out) ?_; intro v7 w7 hown7 hb7 hs7 hg7; have HR7 := Lib.hid hown7; have HC7 := Lib.hid ((HC6.out.alloc HZ6.out _).trans hb7); have HZ7 : Hid (S ≤ w7.heap.size) := (Nat.le_trans (by simp; exact Nat.le_succ_of_le HZ6.out) hs7); have HT7 : Hid (Bs w7 r6 (lo y2 4)) := Bs_of_own ((HT6.out.alloc _).kept hg7 (HNE.out)) lo_byt (by rw [lo_len]; decide); clear hown7 hb7 hs7 hg7))
        | (at_builtin; (skip; refine app_any rfl (.tmp 52) (.tmp 53) rfl S (P ++ [y1]) (lo y2 4) HR7.out HT7.out (by have := HPL.out; rw [List.length_append, this, lo_len]; simp; omega) HZ7.out ?_; intro v8 w8 hown8 hb8 hs8; have HR8 := Lib.hid hown8; have HC8 := Lib.hid (HC7.out.trans hb8); have HZ8 := Lib.hid (Nat.le_trans HZ7.out hs8); clear hown8 hb8 hs8)))
      go_roundw
      case rel => exact ⟨k + 1, _, by omega, by go_num, rfl, by rw [HST.out, ← List.append_assoc, HP.out]; simpa [ecB] using HR8.out, HZ8.out, HC8.out⟩
      case measure => simp [intOf]; omega
    · obtain rfl : k = ys.length := by omega
      go_wp2_with fail
      go_ret2
      refine ⟨⟨_, rfl, gown_mono (by have := HR5.out; rw [List.take_length] at this; exact this) (Nat.le_of_lt HS1.out)⟩, HB.out.trans (HC5.out.mono (Nat.le_of_lt HS1.out))⟩
#print axioms rbytes6_ok
end Go.Proofs.Ytaflgabjpcfgpaa
