/- One form for each answer, the program's and the document's; the document's example. No conditions but on lengths. -/
import Derived.Test.YtipdjfgaenoepaaAq3
import Derived.Test.YtipdjfgaenoepaaAq4
import Derived.Test.YtipdjfgaenoepaaAq5
import Derived.Test.YtipdjfgaenoepaaAq7
import Derived.Test.YtipdjfgaenoepaaAka
import Derived.Test.YtipdjfgaenoepaaAks
import Derived.Test.YtipdjfgaenoepaaAwake
namespace Go.Proofs.Ytipdjfgaenoepaa
set_option maxRecDepth 100000
open Go.RowKit

/-! ### Of -/
def ofE (x : Int) : Int := if 0 ≤ x ∧ x ≤ 65535 then 0 else 1
def ofX (x : Int) : Int := if 0 ≤ x ∧ x ≤ 65535 then x else 0
def ofM (x : Int) (cs : List Int) : Int := if 0 ≤ x ∧ x ≤ 65535 then mk x cs 16 else 0
def RetOf (w : World) (x : Int) (cs : List Int) (e : Ending) (w' : World) : Prop := e = .returned (.tuple #[.agg #[.int .i64 0, .int .i64 0, .int .i64 (ofX x), .int .i64 (ofM x cs)], .int .i64 (ofE x)]) ∧ Below w.heap.size w w'
theorem of_fix (x : Int) (v : Value) (cs : List Int) (w : World) (hv : Zs w v cs) (hl : cs.length ≤ 1000) : Calls Try.prog 11 #[.int .i64 x, v] w (RetOf w x cs) := by
  unfold RetOf ofX ofM ofE
  by_cases h : 0 ≤ x ∧ x ≤ 65535
  · simp only [if_pos h]; exact akof_ok x v cs w h hv hl
  · simp only [if_neg h]; exact akof_no x v w h
theorem rof_fix (x : Int) (v : Value) (cs : List Int) (w : World) (hv : Zs w v cs) (hl : cs.length ≤ 1000) : Calls Try.prog 12 #[.int .i64 x, v] w (RetOf w x cs) := by
  unfold RetOf ofX ofM ofE
  by_cases h : 0 ≤ x ∧ x ≤ 65535
  · simp only [if_pos h]; exact rof_ok x v cs w h hv hl
  · simp only [if_neg h]; exact rof_no x v w h
theorem of_one (x : Int) (cs : List Int) : AkOne (0, 0, ofX x, ofM x cs) := by
  unfold AkOne ofX ofM EpOk
  have := mk_16 x cs
  simp only
  split
  · rename_i h; exact ⟨⟨by decide, by decide⟩, ⟨by decide, by decide⟩, h, this⟩
  · exact ⟨⟨by decide, by decide⟩, ⟨by decide, by decide⟩, ⟨by decide, by decide⟩, by decide, by decide⟩

/-! ### Has -/
theorem has_fix (i p x m n : Int) (w : World) :
    Calls Try.prog 16 #[.agg #[.int .i64 i, .int .i64 p, .int .i64 x, .int .i64 m], .int .i64 n] w fun e w' => e = .returned (.bool (decide (AkOne (i, p, x, m)) && hasN x m n)) ∧ Below w.heap.size w w' :=
  akhas_fix i p x m n _ decide_eq_true_iff w
theorem rhas_dec (i p x m n : Int) (w : World) :
    Calls Try.prog 17 #[.agg #[.int .i64 i, .int .i64 p, .int .i64 x, .int .i64 m], .int .i64 n] w fun e w' => e = .returned (.bool (decide (AkOne (i, p, x, m)) && hasN x m n)) ∧ Below w.heap.size w w' :=
  rhas_fix i p x m n _ decide_eq_true_iff w

/-! ### Bytes -/
def byA (ys : List (Int × Int × Int × Int)) : List Int := if AksOk ys then acB ys else []
def byE (ys : List (Int × Int × Int × Int)) : Int := if AksOk ys then 0 else 1
def RetY (w : World) (bs : List Int) (k : Int) (e : Ending) (w' : World) : Prop := ∃ a c, e = .returned (.tuple #[.slice a bs.length c, .int .i64 k]) ∧ Bs w' (.slice a bs.length c) bs ∧ Below w.heap.size w w'
theorem byt_acB {ys : List (Int × Int × Int × Int)} (h : AksOk ys) : ∀ x ∈ acB ys, 0 ≤ x ∧ x < 256 := fun x hx => by
  unfold acB at hx
  rcases List.mem_append.1 hx with hx | hx
  · rw [List.mem_singleton.1 hx]; have := h.2.2; omega
  · obtain ⟨l, hl, hx⟩ := List.mem_flatten.1 hx
    obtain ⟨y, hy, rfl⟩ := List.mem_map.1 hl
    obtain ⟨i, hi, rfl⟩ := List.mem_iff_getElem.1 hy
    have h1 := (h.1 i hi).1
    have e : ys.getD i (0, 0, 0, 0) = ys[i] := by simp [List.getD, hi]
    rw [e] at h1
    unfold akB at hx
    rcases List.mem_cons.1 hx with hx | hx
    · rw [hx]; have := h1.1; omega
    · rcases List.mem_append.1 hx with hx | hx
      · exact lo_byt x hx
      · rcases List.mem_append.1 hx with hx | hx
        · exact lo_byt x hx
        · exact lo_byt x hx
theorem acB_len (ys : List (Int × Int × Int × Int)) : (acB ys).length = 1 + 9 * ys.length := by
  unfold acB
  rw [List.length_append, akB_flat_len]; rfl
theorem byA_len (ys : List (Int × Int × Int × Int)) : (byA ys).length ≤ 577 := by
  unfold byA
  split
  · rename_i h; rw [acB_len]; have := h.2.2; omega
  · simp
theorem rety_own {w : World} {ys : List (Int × Int × Int × Int)} {e : Ending} {w' : World} (hq : AksOk ys) (h : (∃ r, e = .returned (.tuple #[r, .int .i64 0]) ∧ w'.ownsRow w.heap.size 5 1 r (acB ys).length ((acB ys).map (Value.int .u8))) ∧ Below w.heap.size w w') : RetY w (byA ys) (byE ys) e w' := by
  unfold byA byE
  rw [if_pos hq, if_pos hq]
  obtain ⟨⟨r, h1, h2⟩, h3⟩ := h
  obtain ⟨a, c, rfl⟩ := gown_form h2
  exact ⟨a, c, h1, Bs_of_own h2 (byt_acB hq) (by rw [acB_len]; have := hq.2.2; omega), h3⟩
theorem rety_no {w : World} {ys : List (Int × Int × Int × Int)} {e : Ending} {w' : World} (hq : ¬ AksOk ys) (h : e = .returned (.tuple #[.slice none 0 0, .int .i64 1]) ∧ Below w.heap.size w w') : RetY w (byA ys) (byE ys) e w' := by
  unfold byA byE
  rw [if_neg hq, if_neg hq]
  exact ⟨none, 0, h.1, Bs_nil w', h.2⟩
theorem bytes_fix (v : Value) (ys : List (Int × Int × Int × Int)) (w : World) (hy : As w v ys) (hl : ys.length ≤ 3000) : Calls Try.prog 9 #[v] w (RetY w (byA ys) (byE ys)) := by
  by_cases hq : AksOk ys
  · exact (akbytes_ok v ys w hy hq).mono fun _ _ h => rety_own hq h
  · exact (akbytes_no v ys w hy hl hq).mono fun _ _ h => rety_no hq h
theorem rbytes_fix (v : Value) (ys : List (Int × Int × Int × Int)) (w : World) (hy : As w v ys) (hl : ys.length ≤ 3000) : Calls Try.prog 10 #[v] w (RetY w (byA ys) (byE ys)) := by
  by_cases hq : AksOk ys
  · exact (rbytes7_ok v ys w hy hq).mono fun _ _ h => rety_own hq h
  · exact (rbytes7_no v ys w hy hl hq).mono fun _ _ h => rety_no hq h

/-! ### Parse -/
def paY (r : Int ⊕ (List (Int × Int × Int × Int) × Int)) : List (Int × Int × Int × Int) := match r with
  | .inl _ => []
  | .inr (ys, _) => ys
def paT (r : Int ⊕ (List (Int × Int × Int × Int) × Int)) : Int := match r with
  | .inl _ => 0
  | .inr (_, to) => to
def paK (r : Int ⊕ (List (Int × Int × Int × Int) × Int)) : Int := match r with
  | .inl e => e
  | .inr _ => 0
def RetP (w : World) (Y : List (Int × Int × Int × Int)) (t k : Int) (e : Ending) (w' : World) : Prop := ∃ a c, e = .returned (.tuple #[.slice a Y.length c, .int .i64 t, .int .i64 k]) ∧ As w' (.slice a Y.length c) Y ∧ Below w.heap.size w w'
theorem retp_of {w : World} {r : Int ⊕ (List (Int × Int × Int × Int) × Int)} {e : Ending} {w' : World} (h : (∃ u t k, e = .returned (.tuple #[u, .int .i64 t, .int .i64 k]) ∧ PRetA w r u t k w') ∧ Below w.heap.size w w') : RetP w (paY r) (paT r) (paK r) e w' := by
  obtain ⟨⟨u, t, k, h1, h2⟩, h3⟩ := h
  match r, h2 with
  | .inl e', h2 =>
    obtain ⟨rfl, rfl, rfl⟩ := h2
    exact ⟨none, 0, h1, As_nil w', h3⟩
  | .inr (ys, to), h2 =>
    obtain ⟨rfl, rfl, h4⟩ := h2
    obtain ⟨a, c, rfl⟩ := gown_form h4
    exact ⟨a, c, h1, (As_of_own h4).1, h3⟩
theorem parse_fix (v : Value) (xs : List Int) (k : Int) (w : World) (hv : Bs w v xs) : Calls Try.prog 19 #[v, .int .i64 k] w (RetP w (paY (acPF xs k)) (paT (acPF xs k)) (paK (acPF xs k))) :=
  (akparse_any v xs k w hv).mono fun _ _ h => retp_of h
theorem rparse_fix (v : Value) (xs : List Int) (k : Int) (w : World) (hv : Bs w v xs) : Calls Try.prog 20 #[v, .int .i64 k] w (RetP w (paY (acPF xs k)) (paT (acPF xs k)) (paK (acPF xs k))) :=
  (rparse7_any v xs k w hv).mono fun _ _ h => retp_of h
theorem pa_len (xs : List Int) (k : Int) : (paY (acPF xs k)).length ≤ 64 := by
  unfold acPF
  split
  · simp [paY]
  · split
    · simp [paY]
    · split
      · rename_i h; exact h.2.2
      · simp [paY]
theorem same_true (v u : Value) (ys : List (Int × Int × Int × Int)) (w : World) (hy : As w v ys) (hz : As w u ys) (hl : ys.length ≤ 3000) :
    Calls Try.prog 21 #[v, u] w fun e w' => e = .returned (.bool true) ∧ Below w.heap.size w w' :=
  (rsameA_any v u ys ys w hy hz hl).mono fun e w' ⟨⟨b, h1, h2⟩, h3⟩ => ⟨by rw [h1, h2.2 rfl], h3⟩
theorem right_dec (v : Value) (ys : List (Int × Int × Int × Int)) (w : World) (hy : As w v ys) (hl : ys.length ≤ 3000) (q : Bool) (hq : q = true ↔ AksOk ys) :
    Calls Try.prog 15 #[v] w fun e w' => e = .returned (.bool q) ∧ Below w.heap.size w w' := raright_fix v ys q hq w hy hl

/-! ### The document's example -/
theorem mk567 : mk 5 [7, 6, 30] 16 = 3 := by decide
set_option maxHeartbeats 4000000 in
theorem awake7 (w : World) : Calls Try.prog 13 #[] w fun e w' => e = .returned (.bool true) ∧ Below w.heap.size w w' := by
  have cO := fun W v (h : Zs W v [7, 6, 30]) => akof_ok 5 v [7, 6, 30] W ⟨by decide, by decide⟩ h (by decide)
  rw [mk567] at cO
  have cH := fun n W => akhas_fix 0 0 5 3 n true ⟨fun _ => ⟨⟨by decide, by decide⟩, ⟨by decide, by decide⟩, ⟨by decide, by decide⟩, by decide, by decide⟩, fun _ => rfl⟩ W
  have c4 := Lib.hid (cH 4)
  have c5 := Lib.hid (cH 5)
  have c6 := Lib.hid (cH 6)
  have c8 := Lib.hid (cH 8)
  rw [show (true && hasN 5 3 4) = true from by decide] at c4
  rw [show (true && hasN 5 3 5) = false from by decide] at c5
  rw [show (true && hasN 5 3 6) = true from by decide] at c6
  rw [show (true && hasN 5 3 8) = false from by decide] at c8
  clear cH
  go_enter Try.func13, Try.ntmps13
  go_wp2_with fail
  refine (cO _ _ (is_lit w [7, 6, 30] 3 _ 3 rfl rfl (by simp) _ rfl)).mono ?_
  rintro e w1 ⟨rfl, hb⟩
  have HB1 : Hid (Below w.heap.size w w1) := ((Below.refl _ w).alloc (Nat.le_refl _) _).trans (hb.mono (by simp))
  clear hb cO
  have OA := Lib.hid (owna_alloc w1 0 0 5 3 30 w1.heap.size rfl)
  have HB : Hid (Below w.heap.size w (w1.alloc (.cells #[.int .i64 0, .int .i64 0, .int .i64 5, .int .i64 3] 30))) := HB1.out.alloc HB1.out.size _
  go_wp2_with fail
  refine (c4.out _).mono ?_
  rintro e w2 ⟨rfl, hb⟩
  replace OA := Lib.hid (OA.out.below hb)
  replace HB := Lib.hid (HB.out.trans (hb.mono HB.out.size))
  clear hb
  obtain ⟨⟨q0, q1, q2, q3⟩, -⟩ := OA.out
  go_wp2_with fail
  refine (c5.out _).mono ?_
  rintro e w3 ⟨rfl, hb⟩
  replace OA := Lib.hid (OA.out.below hb)
  replace HB := Lib.hid (HB.out.trans (hb.mono HB.out.size))
  clear hb
  obtain ⟨⟨q0, q1, q2, q3⟩, -⟩ := OA.out
  go_wp2_with fail
  refine (c6.out _).mono ?_
  rintro e w4 ⟨rfl, hb⟩
  replace OA := Lib.hid (OA.out.below hb)
  replace HB := Lib.hid (HB.out.trans (hb.mono HB.out.size))
  clear hb
  obtain ⟨⟨q0, q1, q2, q3⟩, -⟩ := OA.out
  go_wp2_with fail
  refine (c8.out _).mono ?_
  rintro e w5 ⟨rfl, hb⟩
  replace OA := Lib.hid (OA.out.below hb)
  replace HB := Lib.hid (HB.out.trans (hb.mono HB.out.size))
  clear hb
  go_wp2_with fail
  go_ret
  exact ⟨rfl, HB.out⟩
#print axioms awake7
#print axioms rparse_fix
end Go.Proofs.Ytipdjfgaenoepaa
