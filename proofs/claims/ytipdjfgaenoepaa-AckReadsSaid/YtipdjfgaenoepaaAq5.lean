/- Bytes as rows of the call's own, and which block an append hands back; a row of acks as bytes: the program's Bytes. No conditions but on lengths. -/
import Derived.Test.YtipdjfgaenoepaaAq2
import Derived.Test.YtipdjfgaenoepaaAko
import Derived.Test.YtipdjfgaenoepaaAkb
import Derived.Test.YtipdjfgaenoepaaPow
namespace Go.Proofs.Ytipdjfgaenoepaa
set_option maxRecDepth 100000
open Go.RowKit

section
variable (R : RowT)
theorem run_gapps3 (w : World) (ty : TypeId) (S : Nat) (v : Value) (xs : List R.α) (hown : w.ownsRow S R.T R.K v xs.length (gflat R xs)) (S' : Nat) (u : Value) (ys : List R.α) (hu : w.ownsRow S' R.T R.K u ys.length (gflat R ys)) (hl : xs.length + ys.length ≤ 3000) (hS : S ≤ w.heap.size) :
    ∃ r w', (Builtin.append_ #[R.SL, R.SL] ty #[v, u]).run Try.prog w = .ok r w' ∧ w'.ownsRow S R.T R.K r (xs ++ ys).length (gflat R (xs ++ ys)) ∧ w.grownBy w' v.ownBlock ∧ ∀ g, r.ownBlock = some g → v.ownBlock = some g ∨ w.heap.size ≤ g := by
  obtain ⟨i0, hi, hz0, hz1, hz2⟩ := info_parts R.hinfo
  have hzs := R.hz
  have hbb := R.hb
  have hpos := R.hK
  have e : gflat R (xs ++ ys) = gflat R xs ++ gflat R ys := gflat_app R xs ys
  have e2 : (xs ++ ys).length = xs.length + ys.length := by simp
  have hfl := gflat_len R xs
  have hfy := gflat_len R ys
  have hby : (xs.length + ys.length) * R.bytes ≤ 140737488355328 := Nat.le_trans (Nat.mul_le_mul hl hbb) (by decide)
  have same : ∀ row, w.grownBy w row := fun _ => ⟨rfl, rfl, rfl, Nat.le_refl _, fun _ _ _ => rfl⟩
  rcases hu.2 with ⟨rfl, h0⟩ | ⟨b, c, cur2, rfl, _, _, hyc, _⟩
  · have hy : ys = [] := List.length_eq_zero_iff.1 h0
    subst hy
    refine ⟨v, w, run_append_owned_none (P := Try.prog) (w := w) S R.SL ty R.T i0 R.K R.hSL hi v xs.length (gflat R xs) hown, ?_, same _, fun _ h => .inl h⟩
    rw [List.append_nil]; exact hown
  · have hnews : ∀ j q, (gflat R ys)[j]? = some q → w.cell? ((⟨b, 0, none⟩ : Addr).add j) = some q := fun j q hj => by
      have h1 := (List.getElem?_eq_some_iff.1 hj).1
      rw [hfy] at h1
      rw [add_spot', Nat.zero_add, gown_cell hu j h1]; exact hj
    have hone := gflat_ones R ys
    rw [e, e2]
    rcases hown.2 with ⟨rfl, h0⟩ | ⟨g, cap, cur, rfl, hg1, hg2, _⟩
    · obtain ⟨v', w', hr, h2, h3, _, _⟩ := run_append_own_at (P := Try.prog) w w.heap.size R.SL ty R.T i0 R.zero R.K R.bytes R.hSL hi hz0 hz1 hz2 hzs hpos (.slice none 0 0) xs.length (gflat R xs) ⟨hown.1, .inl ⟨rfl, h0⟩⟩ ⟨b, 0, none⟩ ys.length c (gflat R ys) hfy hnews hone (by unfold maxLen; omega) hby (Nat.le_refl _)
      exact ⟨v', w', hr, gown_mono h2 hS, h3, fun g hg => .inr (World.ownsRow.lt h2 g hg).1⟩
    · by_cases hroom : xs.length + ys.length ≤ cap
      · obtain ⟨w', hr, h2, h3⟩ := run_append_fits (P := Try.prog) w S R.SL ty R.T i0 R.K R.hSL hi hz1 g xs.length cap (gflat R xs) hown ⟨b, 0, none⟩ ys.length c (gflat R ys) hfy hnews hone hroom
        exact ⟨_, w', hr, h2, h3, fun g' h => .inl h⟩
      · obtain ⟨v', w', hr, h2, h3⟩ := run_append_arg_grows (P := Try.prog) w R.SL ty R.T i0 R.zero R.K R.bytes R.hSL hi hz0 hz1 hz2 hzs hpos ⟨g, 0, none⟩ xs.length cap (gflat R xs) hfl (hown.cells rfl) ⟨b, 0, none⟩ ys.length c (gflat R ys) hfy hnews (by omega) (by unfold maxLen; omega) hby
        exact ⟨v', w', hr, gown_mono h2 hS, ⟨h3.os, h3.tape, h3.output, h3.size, fun k hk _ => h3.block k hk (by simp)⟩, fun g' hg => .inr (World.ownsRow.lt h2 g' hg).1⟩
end
/-- A byte. -/
def bc (y : Int) : List Value := [.int .u8 y]
theorem underBS : Try.prog.underlying 25 = some (.slice 5) := by kernel_rfl
theorem infoBY : (Try.prog.info? 5).map (fun i => (i.zero, i.size, i.bytes)) = some (some (.int .u8 0), 1, 1) := by kernel_rfl
theorem cellsBY : Try.prog.cellsOf 5 = 1 := by kernel_rfl
theorem bc_ones (y : Int) : ∀ u ∈ bc y, u.oneCell' = true := by
  intro u hu
  simp only [bc, List.mem_cons, List.not_mem_nil, or_false] at hu
  rw [hu]; rfl
noncomputable def RB : RowT where
  α := Int
  d := 0
  cl := bc
  K := 1
  T := 5
  SL := 25
  zero := .int .u8 0
  bytes := 1
  hcl := fun _ => rfl
  hK := by decide
  hone := bc_ones
  hSL := underBS
  hinfo := infoBY
  hz := rfl
  hb := by decide
  hc := cellsBY
/-- Bytes in a row of the call's own. -/
def OwB (w : World) (S : Nat) (v : Value) (xs : List Int) : Prop := w.ownsRow S 5 1 v xs.length (xs.map (Value.int .u8))
theorem gflat_bytes (xs : List Int) : gflat RB xs = xs.map (Value.int .u8) := by
  show xs.flatMap bc = _
  induction xs with
  | nil => rfl
  | cons x xs ih => rw [List.flatMap_cons, ih]; rfl
theorem OwB.to {w : World} {S : Nat} {v : Value} {xs : List Int} (h : OwB w S v xs) : w.ownsRow S RB.T RB.K v xs.length (gflat RB xs) := by rw [gflat_bytes]; exact h
theorem OwB.of {w : World} {S : Nat} {v : Value} {xs : List Int} (h : w.ownsRow S RB.T RB.K v xs.length (gflat RB xs)) : OwB w S v xs := by rw [gflat_bytes] at h; exact h
theorem OwB.form {w : World} {S : Nat} {v : Value} {xs : List Int} (h : OwB w S v xs) : ∃ a c, v = .slice a xs.length c := gown_form h
theorem OwB.lt {w : World} {S : Nat} {v : Value} {xs : List Int} (h : OwB w S v xs) (b : Nat) (hb : v.ownBlock = some b) : S ≤ b ∧ b < w.heap.size := World.ownsRow.lt h b hb
theorem OwB.mono {w : World} {S B : Nat} {v : Value} {xs : List Int} (h : OwB w S v xs) (hB : B ≤ S) : OwB w B v xs := gown_mono h hB
theorem OwB.below {w w' : World} {S : Nat} {v : Value} {xs : List Int} (h : OwB w S v xs) (hb : Below w.heap.size w w') : OwB w' S v xs := gown_below h hb
theorem brun (w : World) (ty : TypeId) (S : Nat) (v : Value) (xs : List Int) (hown : OwB w S v xs) (S' : Nat) (u : Value) (ys : List Int) (hu : OwB w S' u ys) (hl : xs.length + ys.length ≤ 3000) (hS : S ≤ w.heap.size) :
    ∃ r w', (Builtin.append_ #[25, 25] ty #[v, u]).run Try.prog w = .ok r w' ∧ OwB w' S r (xs ++ ys) ∧ w.grownBy w' v.ownBlock ∧ ∀ g, r.ownBlock = some g → v.ownBlock = some g ∨ w.heap.size ≤ g := by
  obtain ⟨r, w', hr, h1, h2, h3⟩ := run_gapps3 RB w ty S v xs hown.to S' u ys hu.to hl hS
  exact ⟨r, w', hr, OwB.of h1, h2, h3⟩
/-- 'x = append(x, y...)' of bytes: of the row that it hands back it is the elder one's block, or a new one. -/
theorem app_sep {ops : Array Oper} {rest : List Oper} {o : Oper} {a : Act} {Q : Exit → Act → World → Prop} {w : World} (hgd : o.guard = none) (s x : Operand)
    (ho : o.op = .call { callee := .builtin .append, args := #[s, x], argTypes := #[25, 25] }) (S : Nat) (xs : List Int) (hown : OwB w S (a.eval s) xs) (S' : Nat) (ys : List Int) (hu : OwB w S' (a.eval x) ys) (hl : xs.length + ys.length ≤ 3000) (hS : S ≤ w.heap.size)
    (h : ∀ v' w', OwB w' S v' (xs ++ ys) → w.grownBy w' (a.eval s).ownBlock → (∀ g, v'.ownBlock = some g → (a.eval s).ownBlock = some g ∨ w.heap.size ≤ g) → wpList Try.prog ops Q rest (a.put o.dst v') w') : wpList Try.prog ops Q (o :: rest) a w := by
  obtain ⟨v', w', hr, h2, h3, h4⟩ := brun w o.type S _ xs hown S' _ ys hu hl hS
  refine wpList_plain hgd fun _ hK => ?_
  unfold Oper.wp execOp
  simp only [ho, resolve, invoke, builtin, Sem.run_bind, Sem.run_pure, Result.andThen_ok, List.map_toArray, List.map_cons, List.map_nil, hr]
  exact hK _ _ (h v' w' h2 h3 h4)
/-- A row that none of these blocks holds. -/
def Sep (lo hi : Nat) (v : Value) : Prop := ∀ g, v.ownBlock = some g → g < lo ∨ hi ≤ g
/-- A row between. -/
def Btw (w : World) (lo hi : Nat) (v : Value) (xs : List Int) : Prop := OwB w lo v xs ∧ ∀ g, v.ownBlock = some g → g < hi
theorem Btw.grown {w w' : World} {lo hi : Nat} {r v : Value} {xs : List Int} (h : Btw w lo hi r xs) (hs : Sep lo hi v) (hg : w.grownBy w' v.ownBlock) : Btw w' lo hi r xs := by
  refine ⟨World.ownsRow.kept h.1 hg ?_, h.2⟩
  cases hq : r.ownBlock with
  | none => exact .inl rfl
  | some q => exact .inr (fun e => by have h1 := (h.1.lt q hq).1; have h2 := h.2 q hq; have h3 := hs q e.symm; omega)
theorem Btw.below {w w' : World} {lo hi : Nat} {r : Value} {xs : List Int} (h : Btw w lo hi r xs) (hb : Below w.heap.size w w') : Btw w' lo hi r xs := ⟨h.1.below hb, h.2⟩
theorem Sep.next {lo hi n : Nat} {v v' : Value} (h : Sep lo hi v) (hn : hi ≤ n) (h' : ∀ g, v'.ownBlock = some g → v.ownBlock = some g ∨ n ≤ g) : Sep lo hi v' := fun g hg => by
  rcases h' g hg with h1 | h1
  · exact h g h1
  · exact .inr (Nat.le_trans hn h1)
theorem akputE (v : Int) (w : World) (h : EpOk v) : Calls Try.prog 24 #[.int .i64 v, .int .i64 4] w fun e w' => ∃ r, e = .returned (.tuple #[r, .int .i64 0]) ∧ OwB w' w.heap.size r (lo v 4) ∧ Below w.heap.size w w' := by
  refine (put_own v 4 w ⟨h.1, by have := h.2; show v < 256 * (256 * (256 * (256 * 1))); omega⟩ (by decide) (by decide)).mono fun e w' ⟨r, h1, h2, h3⟩ => ⟨r, h1, ?_, h3⟩
  unfold OwB
  rw [lo_len]
  exact h2
theorem akputN (v : Int) (w : World) (h : 0 ≤ v ∧ v ≤ 65535) : Calls Try.prog 24 #[.int .i64 v, .int .i64 2] w fun e w' => ∃ r, e = .returned (.tuple #[r, .int .i64 0]) ∧ OwB w' w.heap.size r (lo v 2) ∧ Below w.heap.size w w' := by
  refine (put_own v 2 w ⟨h.1, by have := h.2; show v < 256 * (256 * 1); omega⟩ (by decide) (by decide)).mono fun e w' ⟨r, h1, h2, h3⟩ => ⟨r, h1, ?_, h3⟩
  unfold OwB
  rw [lo_len]
  exact h2
theorem akbytes_no (v : Value) (ys : List (Int × Int × Int × Int)) (w : World) (hy : As w v ys) (hl : ys.length ≤ 3000) (h : ¬ AksOk ys) :
    Calls Try.prog 9 #[v] w fun e w' => e = .returned (.tuple #[.slice none 0 0, .int .i64 1]) ∧ Below w.heap.size w w' := by
  have CR := Lib.hid (akcheck_fix v ys false ⟨fun hf => (by cases hf), fun h' => absurd h' h⟩ w hy hl)
  go_enter Try.func9, Try.ntmps9
  go_wp2_with fail
  refine CR.out.mono ?_
  rintro e w2 ⟨rfl, hb⟩
  have HB2 := Lib.hid hb
  clear hb
  simp only [errQ]
  go_wp2_with fail
  go_ret2
  exact ⟨rfl, HB2.out⟩
set_option maxHeartbeats 16000000 in
theorem akbytes_ok (v : Value) (ys : List (Int × Int × Int × Int)) (w : World) (hy : As w v ys) (h : AksOk ys) :
    Calls Try.prog 9 #[v] w fun e w' => (∃ r, e = .returned (.tuple #[r, .int .i64 0]) ∧ OwB w' w.heap.size r (acB ys)) ∧ Below w.heap.size w w' := by
  obtain ⟨a, c, rfl⟩ := hy.form
  have hl := h.2.2
  have HY := Lib.hid hy
  have CR := Lib.hid (akcheck_fix (.slice a ys.length c) ys true ⟨fun _ => h, fun _ => rfl⟩ w hy (by omega))
  have HO := Lib.hid h
  have hwl := u8_len hl
  clear hy h
  go_enter Try.func9, Try.ntmps9
  go_wp2_with fail
  refine CR.out.mono ?_
  rintro e w2 ⟨rfl, hb⟩
  have HR4 : Hid (OwB (w2.alloc (.cells #[.int .u8 (ys.length : Int)] 5)) w.heap.size (.slice (some ⟨w2.heap.size, 0, none⟩) 1 1) [(ys.length : Int)]) := own_lit1 w2 w.heap.size (ys.length : Int) hb.size w2.heap.size rfl
  have HC4 : Hid (Below w.heap.size w (w2.alloc (.cells #[.int .u8 (ys.length : Int)] 5))) := hb.alloc hb.size _
  clear hb CR
  simp only [errQ]
  go_wp2_with fail
  go_loopw [5, 25] (fun out i wr => ∃ (k : Nat) (v5 : Value), k ≤ ys.length ∧ i = .int .i64 k ∧ v5 = out ∧ OwB wr w.heap.size v5 ([(ys.length : Int)] ++ ((ys.take k).map akB).flatten) ∧ Below w.heap.size w wr) (fun _ i _ => ys.length - (intOf i).toNat)
  case atStart => exact ⟨0, _, Nat.zero_le _, rfl, rfl, by simpa using HR4.out, HC4.out⟩
  case round =>
    obtain ⟨k, v5, hk, rfl, rfl, hrow, hbel⟩ := hrel
    have hPl : ([(ys.length : Int)] ++ ((ys.take k).map akB).flatten).length = 1 + 9 * k := by
      simp only [List.length_append, List.length_cons, List.length_nil, akB_flat_len, List.length_take]; omega
    obtain ⟨P, hP⟩ : ∃ P, [(ys.length : Int)] ++ ((ys.take k).map akB).flatten = P := ⟨_, rfl⟩
    rw [hP] at hrow hPl
    have HPL : Hid (P.length ≤ 600) := by show _ ≤ _; omega
    have HP := Lib.hid hP
    clear hPl hP
    obtain ⟨a5, c5, rfl⟩ := hrow.form
    have HR5 := Lib.hid hrow
    have HC5 := Lib.hid hbel
    have HZ5 : Hid (w.heap.size ≤ wr.heap.size) := hbel.size
    have HY5 : Hid (As wr (.slice a ys.length c) ys) := HY.out.below hbel
    clear hrow hbel HR4 HC4
    by_cases hlt : k < ys.length
    · obtain ⟨b, off, rfl, hB, p0⟩ := HY5.out.at hlt
      have hE := HO.out.1 k hlt
      have hst := akB_step ys k hlt
      obtain ⟨⟨y1, y2, y3, y4⟩, hyk⟩ : ∃ y, ys.getD k (0, 0, 0, 0) = y := ⟨_, rfl⟩
      rw [hyk] at p0 hst
      have hE1 : AkOne (y1, y2, y3, y4) := by rw [← hyk]; exact hE.1
      have HE := Lib.hid hE1
      have HST := Lib.hid hst
      have hw1 : IntKind.u8.wrap y1 = y1 := by have h9 : 0 ≤ y1 ∧ y1 < 64 := HE.out.1; rw [IntKind.wrap_u8]; omega
      clear hE hE1 hst hyk
      obtain ⟨p0, p1, p2, p3⟩ := p0
      simp only at p0 p1 p2 p3
      go_wp2_with fail
      clear p0 p1 p2 p3
      obtain ⟨W5, hW5⟩ : ∃ W5, W5 = wr.alloc (.cells #[.int .i64 y1, .int .i64 y2, .int .i64 y3, .int .i64 y4] 30) := ⟨_, rfl⟩
      have OA : OwnA W5 wr.heap.size (y1, y2, y3, y4) := by rw [hW5]; exact owna_alloc wr y1 y2 y3 y4 30 wr.heap.size rfl
      have hb5 : Below wr.heap.size wr W5 := by rw [hW5]; exact (Below.refl _ wr).alloc (Nat.le_refl _) _
      rw [← hW5]
      clear hW5
      have HB5 := Lib.hid hb5
      have OA5 := Lib.hid OA
      obtain ⟨g, hg⟩ : ∃ g, wr.heap.size = g := ⟨_, rfl⟩
      rw [hg] at OA
      simp only [hg]
      have HG := Lib.hid hg
      clear hg hb5
      obtain ⟨⟨q0, q1, q2, q3⟩, -⟩ := OA
      simp only at q0 q1 q2 q3
      refine (akputE y2 W5 HE.out.2.1).mono ?_
      rintro e w6 ⟨r6, rfl, hr6, hb6⟩
      have HB6 : Hid (Below wr.heap.size wr w6) := HB5.out.trans (hb6.mono HB5.out.size)
      have OA6 := Lib.hid (OA5.out.below hb6)
      have R6 : Hid (Btw w6 wr.heap.size w6.heap.size r6 (lo y2 4)) := ⟨hr6.mono HB5.out.size, fun q hq => (hr6.lt q hq).2⟩
      have D6 := Lib.hid hb6
      clear hb6 hr6 q0 q1 q2 q3
      obtain ⟨⟨q0, q1, q2, q3⟩, -⟩ := OA6.out
      rw [HG.out] at q0 q1 q2 q3
      simp only at q0 q1 q2 q3
      go_wp2_with fail
      refine (akputN y3 w6 HE.out.2.2.1).mono ?_
      rintro e w7 ⟨r7, rfl, hr7, hb7⟩
      have HB7 : Hid (Below wr.heap.size wr w7) := HB6.out.trans (hb7.mono HB6.out.size)
      have OA7 := Lib.hid (OA6.out.below hb7)
      have R7 : Hid (Btw w7 wr.heap.size w7.heap.size r7 (lo y3 2)) := ⟨hr7.mono HB6.out.size, fun q hq => (hr7.lt q hq).2⟩
      have D7 := Lib.hid hb7
      clear hb7 hr7 q0 q1 q2 q3
      obtain ⟨⟨q0, q1, q2, q3⟩, -⟩ := OA7.out
      rw [HG.out] at q0 q1 q2 q3
      simp only at q0 q1 q2 q3
      go_wp2_with fail
      refine (akputN y4 w7 HE.out.2.2.2).mono ?_
      rintro e w8 ⟨r8, rfl, hr8, hb8⟩
      have HB8 : Hid (Below wr.heap.size wr w8) := HB7.out.trans (hb8.mono HB7.out.size)
      have OA8 := Lib.hid (OA7.out.below hb8)
      have R8 : Hid (Btw w8 wr.heap.size w8.heap.size r8 (lo y4 2)) := ⟨hr8.mono HB7.out.size, fun q hq => (hr8.lt q hq).2⟩
      have D8 := Lib.hid hb8
      clear hb8 hr8 q0 q1 q2 q3
      obtain ⟨⟨q0, q1, q2, q3⟩, -⟩ := OA8.out
      rw [HG.out] at q0 q1 q2 q3
      simp only at q0 q1 q2 q3
      have T6 : Hid (Btw w8 wr.heap.size w8.heap.size r6 (lo y2 4)) := ⟨(R6.out.below (D7.out.trans (D8.out.mono D7.out.size))).1, fun q hq => Nat.lt_of_lt_of_le (R6.out.2 q hq) (Nat.le_trans D7.out.size D8.out.size)⟩
      have T7 : Hid (Btw w8 wr.heap.size w8.heap.size r7 (lo y3 2)) := ⟨(R7.out.below D8.out).1, fun q hq => Nat.lt_of_lt_of_le (R7.out.2 q hq) D8.out.size⟩
      have T8 := R8
      have HR8 := Lib.hid (HR5.out.below HB8.out)
      have SP : Hid (Sep wr.heap.size w8.heap.size (.slice a5 P.length c5)) := fun q hq => .inl (HR5.out.lt q hq).2
      have HC8 : Hid (Below w.heap.size w w8) := HC5.out.trans (HB8.out.mono HZ5.out)
      have HZ8 : Hid (w.heap.size ≤ w8.heap.size) := HC8.out.size
      clear R6 R7 R8 D6 D7 D8 HB5 HB6 HB7 HB8 OA5 OA6 OA7 OA8 HC5 HR5 HY5
      go_wp2_with (first
        | (at_builtin; (skip; refine app_sep rfl (.tmp 47) (.tmp 51) rfl w.heap.size P (HR8.out.below ((Below.refl _ w8).alloc (Nat.le_refl _) _)) w8.heap.size [y1] (own_lit1 w8 w8.heap.size y1 (Nat.le_refl _) w8.heap.size rfl) (by have := HPL.out; simp; omega) (by have := HZ8.out; simp; omega) ?_; intro v9 w9 ho9 hg9 hs9; (have sz9 : (w8.alloc (.cells #[.int .u8 y1] 5)).heap.size = w8.heap.size + 1 := by simp); (have hbz : Below w8.heap.size w8 (w8.alloc (.cells #[.int .u8 y1] 5)) := (Below.refl _ w8).alloc (Nat.le_refl _) _); (have SP9 := Lib.hid (SP.out.next (by omega) hs9)); (have HC9 : Hid (Below w.heap.size w w9) := (HC8.out.trans (hbz.mono HZ8.out)).grown hg9 (by have := HZ8.out; omega) (fun k hk => (HR8.out.lt k hk).1)); (have T69 := Lib.hid ((T6.out.below hbz).grown SP.out hg9)); (have T79 := Lib.hid ((T7.out.below hbz).grown SP.out hg9)); (have T89 := Lib.hid ((T8.out.below hbz).grown SP.out hg9)); (have HR9 := Lib.hid ho9); (have HS9 : Hid (w8.heap.size ≤ w9.heap.size) := by have := hg9.size; show _ ≤ _; omega); clear ho9 hg9 hs9 sz9 hbz SP T6 T7 T8))
        | (at_builtin; (skip; refine app_sep rfl (.tmp 53) (.tmp 54) rfl w.heap.size (P ++ [y1]) HR9.out wr.heap.size (lo y2 4) T69.out.1 (by have := HPL.out; simp [lo_len]; omega) (Nat.le_trans HZ8.out HS9.out) ?_; intro v10 w10 ho hg9 hs9; (have SP10 := Lib.hid (SP9.out.next HS9.out hs9)); (have HC10 : Hid (Below w.heap.size w w10) := HC9.out.grown hg9 (Nat.le_trans HZ8.out HS9.out) (fun k hk => (HR9.out.lt k hk).1)); (have T710 := Lib.hid (T79.out.grown SP9.out hg9)); (have T810 := Lib.hid (T89.out.grown SP9.out hg9)); (have HR10 := Lib.hid ho); (have HS10 : Hid (w8.heap.size ≤ w10.heap.size) := Nat.le_trans HS9.out hg9.size); clear ho hg9 hs9))
        | (at_builtin; (skip; refine app_sep rfl (.tmp 56) (.tmp 57) rfl w.heap.size (P ++ [y1] ++ lo y2 4) HR10.out wr.heap.size (lo y3 2) T710.out.1 (by have := HPL.out; simp [lo_len]; omega) (Nat.le_trans HZ8.out HS10.out) ?_; intro v11 w11 ho hg9 hs9; (have SP11 := Lib.hid (SP10.out.next HS10.out hs9)); (have HC11 : Hid (Below w.heap.size w w11) := HC10.out.grown hg9 (Nat.le_trans HZ8.out HS10.out) (fun k hk => (HR10.out.lt k hk).1)); (have T811 := Lib.hid (T810.out.grown SP10.out hg9)); (have HR11 := Lib.hid ho); (have HS11 : Hid (w8.heap.size ≤ w11.heap.size) := Nat.le_trans HS10.out hg9.size); clear ho hg9 hs9))
        | (at_builtin; (skip; refine app_sep rfl (.tmp 59) (.tmp 60) rfl w.heap.size (P ++ [y1] ++ lo y2 4 ++ lo y3 2) HR11.out wr.heap.size (lo y4 2) T811.out.1 (by have := HPL.out; simp [lo_len]; omega) (Nat.le_trans HZ8.out HS11.out) ?_; intro v12 w12 ho hg9 hs9; (have SP12 := Lib.hid (SP11.out.next HS11.out hs9)); (have HC12 : Hid (Below w.heap.size w w12) := HC11.out.grown hg9 (Nat.le_trans HZ8.out HS11.out) (fun k hk => (HR11.out.lt k hk).1)); (have HR12 := Lib.hid ho); (have HS12 : Hid (w8.heap.size ≤ w12.heap.size) := Nat.le_trans HS11.out hg9.size); clear ho hg9 hs9)))
      go_roundw
      case rel => exact ⟨k + 1, _, by omega, by go_num, rfl, by rw [HST.out, ← List.append_assoc, HP.out]; simpa [akB] using HR12.out, HC12.out⟩
      case measure => simp [intOf]; omega
    · obtain rfl : k = ys.length := by omega
      go_wp2_with fail
      go_ret2
      exact ⟨⟨_, rfl, by have h8 := HP.out; rw [List.take_length] at h8; have h9 := HR5.out; unfold acB; rw [h8]; exact h9⟩, HC5.out⟩
#print axioms akbytes_ok
end Go.Proofs.Ytipdjfgaenoepaa
