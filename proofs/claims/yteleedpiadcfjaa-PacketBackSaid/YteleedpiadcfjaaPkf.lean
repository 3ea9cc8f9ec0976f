/- One form for each answer; what the program's functions answer, as a hypothesis; the document's example. No conditions but on lengths. -/
import Derived.Test.YteleedpiadcfjaaPkp
import Derived.Test.YteleedpiadcfjaaPkc
import Derived.Test.YteleedpiadcfjaaAwake
namespace Go.Proofs.Yteleedpiadcfjaa
set_option maxRecDepth 100000
open Go.RowKit

def byP (s d t n : Int) (x : ByteArray) : List Int := if PkOk s d t n x then pkB s d t n x else []
def kP (s d t n : Int) (x : ByteArray) : Int := if PkOk s d t n x then 0 else 1
def RetK (w : World) (bs : List Int) (k : Int) (e : Ending) (w' : World) : Prop := ∃ a c, e = .returned (.tuple #[.slice a bs.length c, .int .i64 k]) ∧ Bs w' (.slice a bs.length c) bs ∧ bs.length ≤ c ∧ Below w.heap.size w w'
theorem byP_len (s d t n : Int) (x : ByteArray) : (byP s d t n x).length ≤ 263 := by
  unfold byP
  split
  · rename_i h; rw [pkB_len]; have := h.2.2.2.2; omega
  · simp
theorem retk_own {w : World} {s d t n : Int} {x : ByteArray} {e : Ending} {w' : World} (hq : PkOk s d t n x) (h : (∃ r, e = .returned (.tuple #[r, .int .i64 0]) ∧ w'.ownsRow w.heap.size 5 1 r (pkB s d t n x).length ((pkB s d t n x).map (Value.int .u8))) ∧ Below w.heap.size w w') : RetK w (byP s d t n x) (kP s d t n x) e w' := by
  unfold byP kP
  rw [if_pos hq, if_pos hq]
  obtain ⟨⟨r, h1, h2⟩, h3⟩ := h
  obtain ⟨a, c, rfl⟩ := gown_form h2
  have hc : (pkB s d t n x).length ≤ c := by
    rcases h2.2 with ⟨h9, h8⟩ | ⟨g, cap, cur, h4, _, _, h5, _⟩
    · simp only [Value.slice.injEq] at h9; omega
    · simp only [Value.slice.injEq] at h4; omega
  exact ⟨a, c, h1, Bs_of_own h2 (pkB_byt hq) (by rw [pkB_len]; have := hq.2.2.2.2; omega), hc, h3⟩
theorem retk_no {w : World} {s d t n : Int} {x : ByteArray} {e : Ending} {w' : World} (hq : ¬ PkOk s d t n x) (h : e = .returned (.tuple #[.slice none 0 0, .int .i64 1]) ∧ Below w.heap.size w w') : RetK w (byP s d t n x) (kP s d t n x) e w' := by
  unfold byP kP
  rw [if_neg hq, if_neg hq]
  exact ⟨none, 0, h.1, Bs_nil w', Nat.le_refl _, h.2⟩
theorem rpbytes_fix (s d t n : Int) (x : ByteArray) (w : World) : Calls Try.prog 9 #[.agg #[.int .i64 s, .int .i64 d, .int .i64 t, .int .i64 n, .string x]] w (RetK w (byP s d t n x) (kP s d t n x)) := by
  by_cases hq : PkOk s d t n x
  · exact (rpbytes_ok s d t n x w hq).mono fun _ _ h => retk_own hq h
  · exact (rpbytes_no s d t n x w hq).mono fun _ _ h => retk_no hq h
theorem rpright_dec (s d t n : Int) (x : ByteArray) (w : World) : Calls Try.prog 14 #[.agg #[.int .i64 s, .int .i64 d, .int .i64 t, .int .i64 n, .string x]] w fun e w' => e = .returned (.bool (decide (PkOk s d t n x))) ∧ Below w.heap.size w w' :=
  rpright_fix s d t n x _ decide_eq_true_iff w

/-- What the program's functions answer. -/
structure Pc : Prop where
  chk : ∀ (s d t n : Int) (x : ByteArray) (w : World), Calls Try.prog 13 #[.agg #[.int .i64 s, .int .i64 d, .int .i64 t, .int .i64 n, .string x]] w fun e w' => e = .returned (.int .i64 (kP s d t n x)) ∧ Below w.heap.size w w'
  byt : ∀ (s d t n : Int) (x : ByteArray) (w : World), x.size ≤ 100000 → Calls Try.prog 8 #[.agg #[.int .i64 s, .int .i64 d, .int .i64 t, .int .i64 n, .string x]] w (RetK w (byP s d t n x) (kP s d t n x))
  hop : ∀ (s d t n : Int) (x : ByteArray) (w : World), Calls Try.prog 10 #[.agg #[.int .i64 s, .int .i64 d, .int .i64 t, .int .i64 n, .string x]] w fun e w' => e = .returned (.tuple #[.agg #[.int .i64 (hopP s d t n x).1, .int .i64 (hopP s d t n x).2.1, .int .i64 (hopP s d t n x).2.2.1, .int .i64 (hopP s d t n x).2.2.2.1, .string (hopP s d t n x).2.2.2.2], .int .i64 (hopE s d t n x)]) ∧ Below w.heap.size w w'
  par : ∀ (v : Value) (xs : List Int) (q : Int) (w : World), Bs w v xs → Calls Try.prog 15 #[v, .int .i64 q] w fun e w' => e = .returned (.tuple #[.agg #[.int .i64 (pkR (pkPF xs q)).1, .int .i64 (pkR (pkPF xs q)).2.1, .int .i64 (pkR (pkPF xs q)).2.2.1, .int .i64 (pkR (pkPF xs q)).2.2.2.1, .string (pkR (pkPF xs q)).2.2.2.2], .int .i64 (pkT (pkPF xs q)), .int .i64 (pkE (pkPF xs q))]) ∧ Below w.heap.size w w'

/-! ### The document's example -/
theorem ok_hi : PkOk 1 2 9 258 ⟨#[104, 105]⟩ := by decide
theorem by_hi : byP 1 2 9 258 ⟨#[104, 105]⟩ = [1, 2, 9, 1, 2, 0, 2, 104, 105] := by unfold byP; rw [if_pos ok_hi]; decide
theorem k_hi : kP 1 2 9 258 ⟨#[104, 105]⟩ = 0 := by unfold kP; rw [if_pos ok_hi]
theorem hop_hi : hopP 1 2 9 258 ⟨#[104, 105]⟩ = (1, 2, 8, 258, ⟨#[104, 105]⟩) := by unfold hopP; rw [if_pos ⟨ok_hi, by decide⟩]; rfl
theorem hopE_hi : hopE 1 2 9 258 ⟨#[104, 105]⟩ = 0 := by unfold hopE; rw [if_pos ok_hi, if_neg (by decide)]
set_option maxHeartbeats 4000000 in
theorem awake8 (H : Pc) (w : World) : Calls Try.prog 12 #[] w fun e w' => e = .returned (.bool true) ∧ Below w.heap.size w w' := by
  have cB := fun W => H.byt 1 2 9 258 ⟨#[104, 105]⟩ W (by decide)
  have cH := fun W => H.hop 1 2 9 258 ⟨#[104, 105]⟩ W
  rw [by_hi, k_hi] at cB
  rw [hop_hi, hopE_hi] at cH
  have OA := Lib.hid (ownp_alloc w 1 2 9 258 ⟨#[104, 105]⟩ 23 w.heap.size rfl)
  have HB : Hid (Below w.heap.size w (w.alloc (.cells #[.int .i64 1, .int .i64 2, .int .i64 9, .int .i64 258, .string ⟨#[104, 105]⟩] 23))) := (Below.refl _ w).alloc (Nat.le_refl _) _
  go_enter Try.func12, Try.ntmps12
  go_wp2_with fail
  refine (cB _).mono ?_
  rintro e V1 ⟨a1, c1, rfl, hr, hc, hb⟩
  have hc1 : (convert 24 9 (.slice a1 [1, 2, 9, 1, 2, 0, 2, 104, 105].length c1)).run Try.prog V1 = .ok (.string { data := #[1, 2, 9, 1, 2, 0, 2, 104, 105] }) V1 := Bs_conv hr
  have R1 := Lib.hid hr
  replace OA := Lib.hid (OA.out.below hb)
  replace HB := Lib.hid (HB.out.trans (hb.mono HB.out.size))
  clear hr hc hb cB hc1
  simp only [List.length_cons, List.length_nil, Nat.reduceAdd] at R1 ⊢
  obtain ⟨⟨p0, p1, p2, p3, p4⟩, -⟩ := OA.out
  go_wp2_with fail
  refine (cH _).mono ?_
  rintro e V2 ⟨rfl, hb⟩
  replace HB : Hid (Below w.heap.size w (V2.alloc (.cells #[.int .i64 1, .int .i64 2, .int .i64 8, .int .i64 258, .string ⟨#[104, 105]⟩] 23))) := (HB.out.trans (hb.mono HB.out.size)).alloc (HB.out.trans (hb.mono HB.out.size)).size _
  have hal : Below V1.heap.size V1 (V2.alloc (.cells #[.int .i64 1, .int .i64 2, .int .i64 8, .int .i64 258, .string ⟨#[104, 105]⟩] 23)) := hb.alloc hb.size _
  have hc2 : (convert 24 9 (.slice a1 9 c1)).run Try.prog (V2.alloc (.cells #[.int .i64 1, .int .i64 2, .int .i64 8, .int .i64 258, .string ⟨#[104, 105]⟩] 23)) = .ok (.string { data := #[1, 2, 9, 1, 2, 0, 2, 104, 105] }) (V2.alloc (.cells #[.int .i64 1, .int .i64 2, .int .i64 8, .int .i64 258, .string ⟨#[104, 105]⟩] 23)) := Bs_conv (xs := [1, 2, 9, 1, 2, 0, 2, 104, 105]) (Bs_below R1.out hal)
  clear hb hal cH p0 p1 p2 p3 p4
  go_wp2_with fail
  go_ret
  exact ⟨rfl, HB.out⟩
#print axioms awake8
end Go.Proofs.Yteleedpiadcfjaa
