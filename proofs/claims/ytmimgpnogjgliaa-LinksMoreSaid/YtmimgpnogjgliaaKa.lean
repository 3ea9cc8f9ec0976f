/- Rows of neighbours, of levels; which way a height lies. No conditions. The program's links: isTold, Dir, compare; the reference's Dir. No conditions. The program's links: upwards. Conditions on lengths. The program's links: ids, Downs, Ups, Next. Conditions on lengths. -/
import Derived.Test.YtmimgpnogjgliaaVa
import Derived.Test.YtmimgpnogjgliaaVb
import Derived.Test.YtmimgpnogjgliaaPb
import Derived.Test.YtmimgpnogjgliaaPd
import Derived.Test.YtmimgpnogjgliaaSm7
namespace Go.Proofs.Ytmimgpnogjgliaa
set_option maxRecDepth 100000
open Go.RowKit Go.WideShapes Go.ChangeShapes

theorem underRN : Try.prog.underlying 60 = some (.slice 64) := by kernel_rfl
theorem infoRN : (Try.prog.info? 64).map (fun i => (i.zero, i.size, i.bytes)) = some (some (.agg #[.int .i64 0, .bool false, .int .i64 0, .int .i64 0, .int .i64 0, .int .i64 0, .int .i64 0]), 7, 56) := by kernel_rfl
theorem cellsRN : Try.prog.cellsOf 64 = 7 := by kernel_rfl
noncomputable def RN : RowT where
  α := Vw
  d := zVw
  cl := vwc
  K := 7
  T := 64
  SL := 60
  zero := .agg #[.int .i64 0, .bool false, .int .i64 0, .int .i64 0, .int .i64 0, .int .i64 0, .int .i64 0]
  bytes := 56
  hcl := fun _ => rfl
  hK := by decide
  hone := vwc_ones
  hSL := underRN
  hinfo := infoRN
  hz := rfl
  hb := by decide
  hc := cellsRN
/-- A slice that reads as neighbours; a row of them that one owns. -/
def Ns (w : World) (v : Value) (l : List Vw) : Prop := Gs RN w v l
def OwN (w : World) (S : Nat) (v : Value) (l : List Vw) : Prop := w.ownsRow S RN.T RN.K v l.length (gflat RN l)
theorem Ns.form {w : World} {v : Value} {l : List Vw} (h : Ns w v l) : ∃ a c, v = .slice a l.length c := Gs.form (R := RN) h
theorem Ns.below {w w' : World} {v : Value} {l : List Vw} (h : Ns w v l) (hb : Below w.heap.size w w') : Ns w' v l := Gs.below (R := RN) h hb
theorem Ns_nil (w : World) : Ns w (.slice none 0 0) [] := Gs_nil (R := RN) w
theorem OwN.gs {w : World} {S : Nat} {v : Value} {l : List Vw} (h : OwN w S v l) : Ns w v l := (Gs_of_own (R := RN) h).1
theorem OwN_nil (w : World) (S : Nat) : OwN w S (.slice none 0 0) [] := gown_nil (R := RN) w S
theorem OwN.below {w w' : World} {S : Nat} {v : Value} {l : List Vw} (h : OwN w S v l) (hb : Below w.heap.size w w') : OwN w' S v l := gown_below h hb
theorem OwN.mono {w : World} {S S' : Nat} {v : Value} {l : List Vw} (h : OwN w S v l) (hS : S' ≤ S) : OwN w S' v l := gown_mono h hS
theorem OwN.form {w : World} {S : Nat} {v : Value} {l : List Vw} (h : OwN w S v l) : ∃ a c, v = .slice a l.length c := gown_form h
theorem napp1_any {ops : Array Oper} {rest : List Oper} {o : Oper} {a : Act} {Q : Exit → Act → World → Prop} {W : World} (hgd : o.guard = none) (s x : Operand)
    (ho : o.op = .call { callee := .builtin .append, args := #[s, x], argTypes := #[60, 60] }) (w : World) (y : Vw) (hW : W = w.alloc (.cells #[.int .i64 y.1, .bool y.2.1, .int .i64 y.2.2.1, .int .i64 y.2.2.2.1, .int .i64 y.2.2.2.2.1, .int .i64 y.2.2.2.2.2.1, .int .i64 y.2.2.2.2.2.2] 64)) (S : Nat) (v : Value) (xs : List Vw)
    (hs : a.eval s = v) (hx : a.eval x = .slice (some ⟨w.heap.size, 0, none⟩) 1 1) (hown : OwN w S v xs) (hl : xs.length ≤ 3000) (hS : S ≤ w.heap.size)
    (h : ∀ g cap w', OwN w' S (.slice (some ⟨g, 0, none⟩) (xs.length + 1) cap) (xs ++ [y]) → Below S w w' → wpList Try.prog ops Q rest (a.put o.dst (.slice (some ⟨g, 0, none⟩) (xs.length + 1) cap)) w') : wpList Try.prog ops Q (o :: rest) a W :=
  gapp1_any (R := RN) hgd s x ho w y 64 hW S v xs hs hx hown hl hS h
def lvc (x : Lv) : List Value := [.int .i64 x.1, .int .i64 x.2.1, .int .i64 x.2.2]
theorem lvc_ones : ∀ y, ∀ u ∈ lvc y, u.oneCell' = true := by
  intro y u hu
  simp only [lvc, List.mem_cons, List.not_mem_nil, or_false] at hu
  rcases hu with rfl | rfl | rfl <;> rfl
theorem underRL : Try.prog.underlying 34 = some (.slice 49) := by kernel_rfl
theorem infoRL : (Try.prog.info? 49).map (fun i => (i.zero, i.size, i.bytes)) = some (some (.agg #[.int .i64 0, .int .i64 0, .int .i64 0]), 3, 24) := by kernel_rfl
theorem cellsRL : Try.prog.cellsOf 49 = 3 := by kernel_rfl
noncomputable def RL : RowT where
  α := Lv
  d := (0, 0, 0)
  cl := lvc
  K := 3
  T := 49
  SL := 34
  zero := .agg #[.int .i64 0, .int .i64 0, .int .i64 0]
  bytes := 24
  hcl := fun _ => rfl
  hK := by decide
  hone := lvc_ones
  hSL := underRL
  hinfo := infoRL
  hz := rfl
  hb := by decide
  hc := cellsRL
/-- A slice that reads as levels; a row of them that one owns. -/
def Ls (w : World) (v : Value) (l : List Lv) : Prop := Gs RL w v l
def OwL (w : World) (S : Nat) (v : Value) (l : List Lv) : Prop := w.ownsRow S RL.T RL.K v l.length (gflat RL l)
theorem Ls.form {w : World} {v : Value} {l : List Lv} (h : Ls w v l) : ∃ a c, v = .slice a l.length c := Gs.form (R := RL) h
theorem Ls.below {w w' : World} {v : Value} {l : List Lv} (h : Ls w v l) (hb : Below w.heap.size w w') : Ls w' v l := Gs.below (R := RL) h hb
theorem Ls_nil (w : World) : Ls w (.slice none 0 0) [] := Gs_nil (R := RL) w
theorem OwL.gs {w : World} {S : Nat} {v : Value} {l : List Lv} (h : OwL w S v l) : Ls w v l := (Gs_of_own (R := RL) h).1
theorem OwL_nil (w : World) (S : Nat) : OwL w S (.slice none 0 0) [] := gown_nil (R := RL) w S
theorem OwL.below {w w' : World} {S : Nat} {v : Value} {l : List Lv} (h : OwL w S v l) (hb : Below w.heap.size w w') : OwL w' S v l := gown_below h hb
theorem OwL.mono {w : World} {S S' : Nat} {v : Value} {l : List Lv} (h : OwL w S v l) (hS : S' ≤ S) : OwL w S' v l := gown_mono h hS
theorem OwL.form {w : World} {S : Nat} {v : Value} {l : List Lv} (h : OwL w S v l) : ∃ a c, v = .slice a l.length c := gown_form h
theorem lapp1_any {ops : Array Oper} {rest : List Oper} {o : Oper} {a : Act} {Q : Exit → Act → World → Prop} {W : World} (hgd : o.guard = none) (s x : Operand)
    (ho : o.op = .call { callee := .builtin .append, args := #[s, x], argTypes := #[34, 34] }) (w : World) (y : Lv) (hW : W = w.alloc (.cells #[.int .i64 y.1, .int .i64 y.2.1, .int .i64 y.2.2] 49)) (S : Nat) (v : Value) (xs : List Lv)
    (hs : a.eval s = v) (hx : a.eval x = .slice (some ⟨w.heap.size, 0, none⟩) 1 1) (hown : OwL w S v xs) (hl : xs.length ≤ 3000) (hS : S ≤ w.heap.size)
    (h : ∀ g cap w', OwL w' S (.slice (some ⟨g, 0, none⟩) (xs.length + 1) cap) (xs ++ [y]) → Below S w w' → wpList Try.prog ops Q rest (a.put o.dst (.slice (some ⟨g, 0, none⟩) (xs.length + 1) cap)) w') : wpList Try.prog ops Q (o :: rest) a W :=
  gapp1_any (R := RL) hgd s x ho w y 49 hW S v xs hs hx hown hl hS h
/-- Three cells of a level. -/
def C3 (w : World) (b o : Nat) (x : Lv) : Prop := w.cell? ⟨b, o, none⟩ = some (.int .i64 x.1) ∧ w.cell? ⟨b, o + 1, none⟩ = some (.int .i64 x.2.1) ∧ w.cell? ⟨b, o + 2, none⟩ = some (.int .i64 x.2.2)
theorem gc_three {w : World} {b o : Nat} {y : Lv} (h : GC RL w b o y) : C3 w b o y :=
  ⟨h 0 (show 0 < 3 by decide), h 1 (show 1 < 3 by decide), h 2 (show 2 < 3 by decide)⟩
theorem three_gc {w : World} {b o : Nat} {y : Lv} (h : C3 w b o y) : GC RL w b o y := by
  intro j hj
  have hj' : j < 3 := hj
  obtain ⟨h0, h1, h2⟩ := h
  match j, hj' with
  | 0, _ => exact h0
  | 1, _ => exact h1
  | 2, _ => exact h2
theorem C3.below {w w' : World} {b o : Nat} {y : Lv} {B : Nat} (h : C3 w b o y) (hb : Below B w w') (hB : b < B) : C3 w' b o y := gc_three (GC.low (three_gc h) hB hb)
theorem Ls.at {w : World} {a : Option Addr} {c : Nat} {l : List Lv} (h : Ls w (.slice a l.length c) l) {i : Nat} (hi : i < l.length) : ∃ b off, a = some ⟨b, off, none⟩ ∧ b < w.heap.size ∧ C3 w b (off + i * 3) (l.getD i (0, 0, 0)) := by
  obtain ⟨b, off, h1, h2, h3⟩ := Gs.at (R := RL) h hi
  exact ⟨b, off, h1, h2, gc_three h3⟩
theorem Ns.at {w : World} {a : Option Addr} {c : Nat} {l : List Vw} (h : Ns w (.slice a l.length c) l) {i : Nat} (hi : i < l.length) : ∃ b off, a = some ⟨b, off, none⟩ ∧ b < w.heap.size ∧ C7 w b (off + i * 7) (l.getD i zVw) := by
  obtain ⟨b, off, h1, h2, h3⟩ := Gs.at (R := RN) h hi
  refine ⟨b, off, h1, h2, gc_seven ?_⟩
  exact h3
theorem eqLv_iff' {x y : Lv} : eqL x.1 x.2.1 x.2.2 y.1 y.2.1 y.2.2 = true ↔ x = y := by
  rw [eqLv_iff]
  exact ⟨fun h => Prod.ext h.1 (Prod.ext h.2.1 h.2.2), fun h => by rw [h]; exact ⟨rfl, rfl, rfl⟩⟩
/-- Which way x lies, as own sees it. -/
def dirF (own x : Hx) : Int := if tld x = true then (if tld own = true then (if lsx x own = true then 1 else if lsx own x = true then 2 else 0) else 1) else 0
theorem dirF_cases (own x : Hx) : dirF own x = 0 ∨ dirF own x = 1 ∨ dirF own x = 2 := by
  unfold dirF
  split
  · split
    · split
      · exact .inr (.inl rfl)
      · split
        · exact .inr (.inr rfl)
        · exact .inl rfl
    · exact .inr (.inl rfl)
  · exact .inl rfl
theorem dir_tld {own x : Hx} (h : dirF own x ≠ 0) : tld x = true := by
  unfold dirF at h
  by_cases h2 : tld x = true
  · exact h2
  · rw [if_neg h2] at h; exact absurd rfl h
/-- What a neighbour's compare answers. -/
def cmpD (x y : Hx) : Int := if dirF x y = 2 then -1 else if dirF x y = 1 then 1 else 0
theorem cmpD_neg {x y : Hx} (hx : tld x = true) (hy : tld y = true) : cmpD x y < 0 ↔ lsx x y = true := by
  unfold cmpD dirF
  rw [if_pos hy, if_pos hx]
  cases h1 : lsx y x with
  | true => rw [lsx_as h1]; simp
  | false =>
    cases h2 : lsx x y with
    | true => simp
    | false => simp
end Go.Proofs.Ytmimgpnogjgliaa

namespace Go.Proofs.Ytmimgpnogjgliaa
set_option maxRecDepth 100000
open Go.RowKit

set_option maxHeartbeats 4000000 in
theorem ltold_any (m : Bool) (t o r d k : Int) (w : World) : Calls Try.prog 33 #[.agg #[.bool m, .int .i64 t, .int .i64 o, .int .i64 r, .int .i64 d, .int .i64 k]] w fun e w' => e = .returned (.bool (told m t o r d k)) ∧ Below w.heap.size w w' := by
  have hb0 : Below w.heap.size w (w.alloc (.cells #[.bool m, .int .i64 t, .int .i64 o, .int .i64 r, .int .i64 d, .int .i64 k] 24)) := (Below.refl _ w).alloc (Nat.le_refl _) _
  have HB := Lib.hid hb0
  clear hb0
  cases m with
  | true =>
    go_enter Try.func33, Try.ntmps33
    go_wp2_with fail
    go_ret
    exact ⟨rfl, HB.out⟩
  | false =>
    by_cases h : HtOk false t o r d k
    · have C := Lib.hid (fun W => check_any false t o r d k W)
      rw [chk_ok h] at C
      have ht : told false t o r d k = true := by unfold told; rw [decide_eq_true h]; rfl
      rw [ht]
      clear h ht
      go_enter Try.func33, Try.ntmps33
      go_wp2_with fail
      refine (C.out _).mono ?_
      rintro e w1 ⟨rfl, hb⟩
      have HB1 := Lib.hid (HB.out.trans (hb.mono HB.out.size))
      clear hb HB
      go_wp2_with fail
      go_ret
      exact ⟨rfl, HB1.out⟩
    · have C := Lib.hid (fun W => check_any false t o r d k W)
      rw [chk_no h] at C
      have ht : told false t o r d k = false := by unfold told; rw [decide_eq_false h]; rfl
      rw [ht]
      clear h ht
      go_enter Try.func33, Try.ntmps33
      go_wp2_with fail
      refine (C.out _).mono ?_
      rintro e w1 ⟨rfl, hb⟩
      have HB1 := Lib.hid (HB.out.trans (hb.mono HB.out.size))
      clear hb HB
      go_wp2_with fail
      go_ret
      exact ⟨rfl, HB1.out⟩
set_option maxHeartbeats 4000000 in
theorem dir_any (own x : Hx) (w : World) : Calls Try.prog 11 #[hxV own, hxV x] w fun e w' => e = .returned (.int .i64 (dirF own x)) ∧ Below w.heap.size w w' := by
  obtain ⟨V, hV⟩ : ∃ V, (w.alloc (.cells #[.bool own.1, .int .i64 own.2.1, .int .i64 own.2.2.1, .int .i64 own.2.2.2.1, .int .i64 own.2.2.2.2.1, .int .i64 own.2.2.2.2.2] 24)).alloc (.cells #[.bool x.1, .int .i64 x.2.1, .int .i64 x.2.2.1, .int .i64 x.2.2.2.1, .int .i64 x.2.2.2.2.1, .int .i64 x.2.2.2.2.2] 24) = V := ⟨_, rfl⟩
  have hq : Own6 (w.alloc (.cells #[.bool own.1, .int .i64 own.2.1, .int .i64 own.2.2.1, .int .i64 own.2.2.2.1, .int .i64 own.2.2.2.2.1, .int .i64 own.2.2.2.2.2] 24)) w.heap.size own.1 own.2.1 own.2.2.1 own.2.2.2.1 own.2.2.2.2.1 own.2.2.2.2.2 := own6_alloc w own.1 own.2.1 own.2.2.1 own.2.2.2.1 own.2.2.2.2.1 own.2.2.2.2.2 24 w.heap.size rfl
  have hb1 : Below w.heap.size w (w.alloc (.cells #[.bool own.1, .int .i64 own.2.1, .int .i64 own.2.2.1, .int .i64 own.2.2.2.1, .int .i64 own.2.2.2.2.1, .int .i64 own.2.2.2.2.2] 24)) := (Below.refl _ w).alloc (Nat.le_refl _) _
  have O10 := Lib.hid (hV ▸ hq.below ((Below.refl _ _).alloc (Nat.le_refl _) _) : Own6 V w.heap.size own.1 own.2.1 own.2.2.1 own.2.2.2.1 own.2.2.2.2.1 own.2.2.2.2.2)
  have O20 := Lib.hid (hV ▸ own6_alloc (w.alloc (.cells #[.bool own.1, .int .i64 own.2.1, .int .i64 own.2.2.1, .int .i64 own.2.2.2.1, .int .i64 own.2.2.2.2.1, .int .i64 own.2.2.2.2.2] 24)) x.1 x.2.1 x.2.2.1 x.2.2.2.1 x.2.2.2.2.1 x.2.2.2.2.2 24 (w.heap.size + 1) (by simp) : Own6 V (w.heap.size + 1) x.1 x.2.1 x.2.2.1 x.2.2.2.1 x.2.2.2.2.1 x.2.2.2.2.2)
  have HB0 := Lib.hid (hV ▸ hb1.alloc hb1.size _ : Below w.heap.size w V)
  have HV := Lib.hid hV
  have CX := Lib.hid (fun W => ltold_any x.1 x.2.1 x.2.2.1 x.2.2.2.1 x.2.2.2.2.1 x.2.2.2.2.2 W)
  have CO := Lib.hid (fun W => ltold_any own.1 own.2.1 own.2.2.1 own.2.2.2.1 own.2.2.2.2.1 own.2.2.2.2.2 W)
  have L1 := Lib.hid (fun W => less_any x.1 x.2.1 x.2.2.1 x.2.2.2.1 x.2.2.2.2.1 x.2.2.2.2.2 own.1 own.2.1 own.2.2.1 own.2.2.2.1 own.2.2.2.2.1 own.2.2.2.2.2 W)
  have L2 := Lib.hid (fun W => less_any own.1 own.2.1 own.2.2.1 own.2.2.2.1 own.2.2.2.2.1 own.2.2.2.2.2 x.1 x.2.1 x.2.2.1 x.2.2.2.1 x.2.2.2.2.1 x.2.2.2.2.2 W)
  clear hV hq hb1
  cases g1 : tld x with
  | false =>
    rw [show dirF own x = 0 by unfold dirF; simp [g1]]
    rw [show told x.1 x.2.1 x.2.2.1 x.2.2.2.1 x.2.2.2.2.1 x.2.2.2.2.2 = false from g1] at CX
    go_enter Try.func11, Try.ntmps11
    go_upto_region 2 with (fail)
    rw [HV.out]
    obtain ⟨⟨a0, a1, a2, a3, a4, a5⟩, _⟩ := O10.out
    obtain ⟨⟨d0, d1, d2, d3, d4, d5⟩, _⟩ := O20.out
    clear g1
    go_wp2_with fail
    refine (CX.out _).mono ?_
    rintro e W1 ⟨rfl, hb⟩
    have HB1 := Lib.hid (HB0.out.trans (hb.mono HB0.out.size))
    have O11 := Lib.hid (O10.out.below hb)
    have O21 := Lib.hid (O20.out.below hb)
    clear hb HB0 O10 O20 a0 a1 a2 a3 a4 a5 d0 d1 d2 d3 d4 d5
    obtain ⟨⟨a0, a1, a2, a3, a4, a5⟩, _⟩ := O11.out
    obtain ⟨⟨d0, d1, d2, d3, d4, d5⟩, _⟩ := O21.out
    go_wp2_with fail
    go_ret
    exact ⟨rfl, HB1.out⟩
  | true =>
    rw [show told x.1 x.2.1 x.2.2.1 x.2.2.2.1 x.2.2.2.2.1 x.2.2.2.2.2 = true from g1] at CX
    cases g2 : tld own with
    | false =>
      rw [show dirF own x = 1 by unfold dirF; simp [g1, g2]]
      rw [show told own.1 own.2.1 own.2.2.1 own.2.2.2.1 own.2.2.2.2.1 own.2.2.2.2.2 = false from g2] at CO
      clear g1 g2
      go_enter Try.func11, Try.ntmps11
      go_upto_region 2 with (fail)
      rw [HV.out]
      obtain ⟨⟨a0, a1, a2, a3, a4, a5⟩, _⟩ := O10.out
      obtain ⟨⟨d0, d1, d2, d3, d4, d5⟩, _⟩ := O20.out
      go_wp2_with fail
      refine (CX.out _).mono ?_
      rintro e W1 ⟨rfl, hb⟩
      have HB1 := Lib.hid (HB0.out.trans (hb.mono HB0.out.size))
      have O11 := Lib.hid (O10.out.below hb)
      have O21 := Lib.hid (O20.out.below hb)
      clear hb HB0 O10 O20 a0 a1 a2 a3 a4 a5 d0 d1 d2 d3 d4 d5
      obtain ⟨⟨a0, a1, a2, a3, a4, a5⟩, _⟩ := O11.out
      obtain ⟨⟨d0, d1, d2, d3, d4, d5⟩, _⟩ := O21.out
      go_wp2_with fail
      refine (CO.out _).mono ?_
      rintro e W2 ⟨rfl, hb⟩
      have HB2 := Lib.hid (HB1.out.trans (hb.mono HB1.out.size))
      have O12 := Lib.hid (O11.out.below hb)
      have O22 := Lib.hid (O21.out.below hb)
      clear hb HB1 O11 O21 a0 a1 a2 a3 a4 a5 d0 d1 d2 d3 d4 d5
      obtain ⟨⟨a0, a1, a2, a3, a4, a5⟩, _⟩ := O12.out
      obtain ⟨⟨d0, d1, d2, d3, d4, d5⟩, _⟩ := O22.out
      go_wp2_with fail
      go_ret
      exact ⟨rfl, HB2.out⟩
    | true =>
      rw [show told own.1 own.2.1 own.2.2.1 own.2.2.2.1 own.2.2.2.2.1 own.2.2.2.2.2 = true from g2] at CO
      cases g3 : lsx x own with
      | true =>
        rw [show dirF own x = 1 by unfold dirF; simp [g1, g2, g3]]
        rw [show lessB x.1 x.2.1 x.2.2.1 x.2.2.2.1 x.2.2.2.2.1 x.2.2.2.2.2 own.1 own.2.1 own.2.2.1 own.2.2.2.1 own.2.2.2.2.1 own.2.2.2.2.2 = true from g3] at L1
        clear g1 g2 g3
        go_enter Try.func11, Try.ntmps11
        go_upto_region 2 with (fail)
        rw [HV.out]
        obtain ⟨⟨a0, a1, a2, a3, a4, a5⟩, _⟩ := O10.out
        obtain ⟨⟨d0, d1, d2, d3, d4, d5⟩, _⟩ := O20.out
        go_wp2_with fail
        refine (CX.out _).mono ?_
        rintro e W1 ⟨rfl, hb⟩
        have HB1 := Lib.hid (HB0.out.trans (hb.mono HB0.out.size))
        have O11 := Lib.hid (O10.out.below hb)
        have O21 := Lib.hid (O20.out.below hb)
        clear hb HB0 O10 O20 a0 a1 a2 a3 a4 a5 d0 d1 d2 d3 d4 d5
        obtain ⟨⟨a0, a1, a2, a3, a4, a5⟩, _⟩ := O11.out
        obtain ⟨⟨d0, d1, d2, d3, d4, d5⟩, _⟩ := O21.out
        go_wp2_with fail
        refine (CO.out _).mono ?_
        rintro e W2 ⟨rfl, hb⟩
        have HB2 := Lib.hid (HB1.out.trans (hb.mono HB1.out.size))
        have O12 := Lib.hid (O11.out.below hb)
        have O22 := Lib.hid (O21.out.below hb)
        clear hb HB1 O11 O21 a0 a1 a2 a3 a4 a5 d0 d1 d2 d3 d4 d5
        obtain ⟨⟨a0, a1, a2, a3, a4, a5⟩, _⟩ := O12.out
        obtain ⟨⟨d0, d1, d2, d3, d4, d5⟩, _⟩ := O22.out
        go_wp2_with fail
        refine (L1.out _).mono ?_
        rintro e W3 ⟨rfl, hb⟩
        have HB3 := Lib.hid (HB2.out.trans (hb.mono HB2.out.size))
        have O13 := Lib.hid (O12.out.below hb)
        have O23 := Lib.hid (O22.out.below hb)
        clear hb HB2 O12 O22 a0 a1 a2 a3 a4 a5 d0 d1 d2 d3 d4 d5
        obtain ⟨⟨a0, a1, a2, a3, a4, a5⟩, _⟩ := O13.out
        obtain ⟨⟨d0, d1, d2, d3, d4, d5⟩, _⟩ := O23.out
        go_wp2_with fail
        go_ret
        exact ⟨rfl, HB3.out⟩
      | false =>
        rw [show lessB x.1 x.2.1 x.2.2.1 x.2.2.2.1 x.2.2.2.2.1 x.2.2.2.2.2 own.1 own.2.1 own.2.2.1 own.2.2.2.1 own.2.2.2.2.1 own.2.2.2.2.2 = false from g3] at L1
        cases g4 : lsx own x with
        | true =>
          rw [show dirF own x = 2 by unfold dirF; simp [g1, g2, g3, g4]]
          rw [show lessB own.1 own.2.1 own.2.2.1 own.2.2.2.1 own.2.2.2.2.1 own.2.2.2.2.2 x.1 x.2.1 x.2.2.1 x.2.2.2.1 x.2.2.2.2.1 x.2.2.2.2.2 = true from g4] at L2
          clear g1 g2 g3 g4
          go_enter Try.func11, Try.ntmps11
          go_upto_region 2 with (fail)
          rw [HV.out]
          obtain ⟨⟨a0, a1, a2, a3, a4, a5⟩, _⟩ := O10.out
          obtain ⟨⟨d0, d1, d2, d3, d4, d5⟩, _⟩ := O20.out
          go_wp2_with fail
          refine (CX.out _).mono ?_
          rintro e W1 ⟨rfl, hb⟩
          have HB1 := Lib.hid (HB0.out.trans (hb.mono HB0.out.size))
          have O11 := Lib.hid (O10.out.below hb)
          have O21 := Lib.hid (O20.out.below hb)
          clear hb HB0 O10 O20 a0 a1 a2 a3 a4 a5 d0 d1 d2 d3 d4 d5
          obtain ⟨⟨a0, a1, a2, a3, a4, a5⟩, _⟩ := O11.out
          obtain ⟨⟨d0, d1, d2, d3, d4, d5⟩, _⟩ := O21.out
          go_wp2_with fail
          refine (CO.out _).mono ?_
          rintro e W2 ⟨rfl, hb⟩
          have HB2 := Lib.hid (HB1.out.trans (hb.mono HB1.out.size))
          have O12 := Lib.hid (O11.out.below hb)
          have O22 := Lib.hid (O21.out.below hb)
          clear hb HB1 O11 O21 a0 a1 a2 a3 a4 a5 d0 d1 d2 d3 d4 d5
          obtain ⟨⟨a0, a1, a2, a3, a4, a5⟩, _⟩ := O12.out
          obtain ⟨⟨d0, d1, d2, d3, d4, d5⟩, _⟩ := O22.out
          go_wp2_with fail
          refine (L1.out _).mono ?_
          rintro e W3 ⟨rfl, hb⟩
          have HB3 := Lib.hid (HB2.out.trans (hb.mono HB2.out.size))
          have O13 := Lib.hid (O12.out.below hb)
          have O23 := Lib.hid (O22.out.below hb)
          clear hb HB2 O12 O22 a0 a1 a2 a3 a4 a5 d0 d1 d2 d3 d4 d5
          obtain ⟨⟨a0, a1, a2, a3, a4, a5⟩, _⟩ := O13.out
          obtain ⟨⟨d0, d1, d2, d3, d4, d5⟩, _⟩ := O23.out
          go_wp2_with fail
          refine (L2.out _).mono ?_
          rintro e W4 ⟨rfl, hb⟩
          have HB4 := Lib.hid (HB3.out.trans (hb.mono HB3.out.size))
          have O14 := Lib.hid (O13.out.below hb)
          have O24 := Lib.hid (O23.out.below hb)
          clear hb HB3 O13 O23 a0 a1 a2 a3 a4 a5 d0 d1 d2 d3 d4 d5
          obtain ⟨⟨a0, a1, a2, a3, a4, a5⟩, _⟩ := O14.out
          obtain ⟨⟨d0, d1, d2, d3, d4, d5⟩, _⟩ := O24.out
          go_wp2_with fail
          go_ret
          exact ⟨rfl, HB4.out⟩
        | false =>
          rw [show dirF own x = 0 by unfold dirF; simp [g1, g2, g3, g4]]
          rw [show lessB own.1 own.2.1 own.2.2.1 own.2.2.2.1 own.2.2.2.2.1 own.2.2.2.2.2 x.1 x.2.1 x.2.2.1 x.2.2.2.1 x.2.2.2.2.1 x.2.2.2.2.2 = false from g4] at L2
          clear g1 g2 g3 g4
          go_enter Try.func11, Try.ntmps11
          go_upto_region 2 with (fail)
          rw [HV.out]
          obtain ⟨⟨a0, a1, a2, a3, a4, a5⟩, _⟩ := O10.out
          obtain ⟨⟨d0, d1, d2, d3, d4, d5⟩, _⟩ := O20.out
          go_wp2_with fail
          refine (CX.out _).mono ?_
          rintro e W1 ⟨rfl, hb⟩
          have HB1 := Lib.hid (HB0.out.trans (hb.mono HB0.out.size))
          have O11 := Lib.hid (O10.out.below hb)
          have O21 := Lib.hid (O20.out.below hb)
          clear hb HB0 O10 O20 a0 a1 a2 a3 a4 a5 d0 d1 d2 d3 d4 d5
          obtain ⟨⟨a0, a1, a2, a3, a4, a5⟩, _⟩ := O11.out
          obtain ⟨⟨d0, d1, d2, d3, d4, d5⟩, _⟩ := O21.out
          go_wp2_with fail
          refine (CO.out _).mono ?_
          rintro e W2 ⟨rfl, hb⟩
          have HB2 := Lib.hid (HB1.out.trans (hb.mono HB1.out.size))
          have O12 := Lib.hid (O11.out.below hb)
          have O22 := Lib.hid (O21.out.below hb)
          clear hb HB1 O11 O21 a0 a1 a2 a3 a4 a5 d0 d1 d2 d3 d4 d5
          obtain ⟨⟨a0, a1, a2, a3, a4, a5⟩, _⟩ := O12.out
          obtain ⟨⟨d0, d1, d2, d3, d4, d5⟩, _⟩ := O22.out
          go_wp2_with fail
          refine (L1.out _).mono ?_
          rintro e W3 ⟨rfl, hb⟩
          have HB3 := Lib.hid (HB2.out.trans (hb.mono HB2.out.size))
          have O13 := Lib.hid (O12.out.below hb)
          have O23 := Lib.hid (O22.out.below hb)
          clear hb HB2 O12 O22 a0 a1 a2 a3 a4 a5 d0 d1 d2 d3 d4 d5
          obtain ⟨⟨a0, a1, a2, a3, a4, a5⟩, _⟩ := O13.out
          obtain ⟨⟨d0, d1, d2, d3, d4, d5⟩, _⟩ := O23.out
          go_wp2_with fail
          refine (L2.out _).mono ?_
          rintro e W4 ⟨rfl, hb⟩
          have HB4 := Lib.hid (HB3.out.trans (hb.mono HB3.out.size))
          have O14 := Lib.hid (O13.out.below hb)
          have O24 := Lib.hid (O23.out.below hb)
          clear hb HB3 O13 O23 a0 a1 a2 a3 a4 a5 d0 d1 d2 d3 d4 d5
          obtain ⟨⟨a0, a1, a2, a3, a4, a5⟩, _⟩ := O14.out
          obtain ⟨⟨d0, d1, d2, d3, d4, d5⟩, _⟩ := O24.out
          go_wp2_with fail
          go_ret
          exact ⟨rfl, HB4.out⟩
set_option maxHeartbeats 4000000 in
theorem ncmp_any (n m : Vw) (w : World) : Calls Try.prog 58 #[vwV n, vwV m] w fun e w' => e = .returned (.int .i64 (cmpD n.2 m.2)) ∧ Below w.heap.size w w' := by
  obtain ⟨V, hV⟩ : ∃ V, (w.alloc (.cells #[.int .i64 n.1, .bool n.2.1, .int .i64 n.2.2.1, .int .i64 n.2.2.2.1, .int .i64 n.2.2.2.2.1, .int .i64 n.2.2.2.2.2.1, .int .i64 n.2.2.2.2.2.2] 64)).alloc (.cells #[.int .i64 m.1, .bool m.2.1, .int .i64 m.2.2.1, .int .i64 m.2.2.2.1, .int .i64 m.2.2.2.2.1, .int .i64 m.2.2.2.2.2.1, .int .i64 m.2.2.2.2.2.2] 64) = V := ⟨_, rfl⟩
  have hq : OwnV (w.alloc (.cells #[.int .i64 n.1, .bool n.2.1, .int .i64 n.2.2.1, .int .i64 n.2.2.2.1, .int .i64 n.2.2.2.2.1, .int .i64 n.2.2.2.2.2.1, .int .i64 n.2.2.2.2.2.2] 64)) w.heap.size n := ownV_alloc w n w.heap.size rfl 64
  have hb1 : Below w.heap.size w (w.alloc (.cells #[.int .i64 n.1, .bool n.2.1, .int .i64 n.2.2.1, .int .i64 n.2.2.2.1, .int .i64 n.2.2.2.2.1, .int .i64 n.2.2.2.2.2.1, .int .i64 n.2.2.2.2.2.2] 64)) := (Below.refl _ w).alloc (Nat.le_refl _) _
  have O1 := Lib.hid (hV ▸ hq.below ((Below.refl _ _).alloc (Nat.le_refl _) _) : OwnV V w.heap.size n)
  have O2 := Lib.hid (hV ▸ ownV_alloc (w.alloc (.cells #[.int .i64 n.1, .bool n.2.1, .int .i64 n.2.2.1, .int .i64 n.2.2.2.1, .int .i64 n.2.2.2.2.1, .int .i64 n.2.2.2.2.2.1, .int .i64 n.2.2.2.2.2.2] 64)) m (w.heap.size + 1) (by simp) 64 : OwnV V (w.heap.size + 1) m)
  have HB0 := Lib.hid (hV ▸ hb1.alloc hb1.size _ : Below w.heap.size w V)
  have HV := Lib.hid hV
  obtain ⟨z, hz⟩ : ∃ z, dirF n.2 m.2 = z := ⟨_, rfl⟩
  have C := Lib.hid (fun W => dir_any n.2 m.2 W)
  rw [hz] at C
  have hc := dirF_cases n.2 m.2
  rw [hz] at hc
  have hr : cmpD n.2 m.2 = if z = 2 then -1 else if z = 1 then 1 else 0 := by unfold cmpD; rw [hz]
  rw [hr]
  clear hV hq hb1 hz hr
  rcases hc with rfl | rfl | rfl
  · go_enter Try.func58, Try.ntmps58
    go_upto_region 1 with (fail)
    rw [HV.out]
    obtain ⟨⟨a0, a1, a2, a3, a4, a5, a6⟩, _⟩ := O1.out
    obtain ⟨⟨d0, d1, d2, d3, d4, d5, d6⟩, _⟩ := O2.out
    simp only [Nat.zero_add] at a1 a2 a3 a4 a5 a6 d1 d2 d3 d4 d5 d6
    go_wp2_with fail
    refine (C.out _).mono ?_
    rintro e w1 ⟨rfl, hb⟩
    have HB1 := Lib.hid (HB0.out.trans (hb.mono HB0.out.size))
    clear hb HB0 O1 O2 a0 a1 a2 a3 a4 a5 a6 d0 d1 d2 d3 d4 d5 d6
    go_wp2_with fail
    go_ret
    exact ⟨rfl, HB1.out⟩
  · go_enter Try.func58, Try.ntmps58
    go_upto_region 1 with (fail)
    rw [HV.out]
    obtain ⟨⟨a0, a1, a2, a3, a4, a5, a6⟩, _⟩ := O1.out
    obtain ⟨⟨d0, d1, d2, d3, d4, d5, d6⟩, _⟩ := O2.out
    simp only [Nat.zero_add] at a1 a2 a3 a4 a5 a6 d1 d2 d3 d4 d5 d6
    go_wp2_with fail
    refine (C.out _).mono ?_
    rintro e w1 ⟨rfl, hb⟩
    have HB1 := Lib.hid (HB0.out.trans (hb.mono HB0.out.size))
    clear hb HB0 O1 O2 a0 a1 a2 a3 a4 a5 a6 d0 d1 d2 d3 d4 d5 d6
    go_wp2_with fail
    go_ret
    exact ⟨rfl, HB1.out⟩
  · go_enter Try.func58, Try.ntmps58
    go_upto_region 1 with (fail)
    rw [HV.out]
    obtain ⟨⟨a0, a1, a2, a3, a4, a5, a6⟩, _⟩ := O1.out
    obtain ⟨⟨d0, d1, d2, d3, d4, d5, d6⟩, _⟩ := O2.out
    simp only [Nat.zero_add] at a1 a2 a3 a4 a5 a6 d1 d2 d3 d4 d5 d6
    go_wp2_with fail
    refine (C.out _).mono ?_
    rintro e w1 ⟨rfl, hb⟩
    have HB1 := Lib.hid (HB0.out.trans (hb.mono HB0.out.size))
    clear hb HB0 O1 O2 a0 a1 a2 a3 a4 a5 a6 d0 d1 d2 d3 d4 d5 d6
    go_wp2_with fail
    go_ret
    exact ⟨rfl, HB1.out⟩
set_option maxHeartbeats 4000000 in
theorem rdir_any (own x : Hx) (w : World) : Calls Try.prog 12 #[hxV own, hxV x] w fun e w' => e = .returned (.int .i64 (dirF own x)) ∧ Below w.heap.size w w' := by
  obtain ⟨V, hV⟩ : ∃ V, (w.alloc (.cells #[.bool own.1, .int .i64 own.2.1, .int .i64 own.2.2.1, .int .i64 own.2.2.2.1, .int .i64 own.2.2.2.2.1, .int .i64 own.2.2.2.2.2] 24)).alloc (.cells #[.bool x.1, .int .i64 x.2.1, .int .i64 x.2.2.1, .int .i64 x.2.2.2.1, .int .i64 x.2.2.2.2.1, .int .i64 x.2.2.2.2.2] 24) = V := ⟨_, rfl⟩
  have hq : Own6 (w.alloc (.cells #[.bool own.1, .int .i64 own.2.1, .int .i64 own.2.2.1, .int .i64 own.2.2.2.1, .int .i64 own.2.2.2.2.1, .int .i64 own.2.2.2.2.2] 24)) w.heap.size own.1 own.2.1 own.2.2.1 own.2.2.2.1 own.2.2.2.2.1 own.2.2.2.2.2 := own6_alloc w own.1 own.2.1 own.2.2.1 own.2.2.2.1 own.2.2.2.2.1 own.2.2.2.2.2 24 w.heap.size rfl
  have hb1 : Below w.heap.size w (w.alloc (.cells #[.bool own.1, .int .i64 own.2.1, .int .i64 own.2.2.1, .int .i64 own.2.2.2.1, .int .i64 own.2.2.2.2.1, .int .i64 own.2.2.2.2.2] 24)) := (Below.refl _ w).alloc (Nat.le_refl _) _
  have O10 := Lib.hid (hV ▸ hq.below ((Below.refl _ _).alloc (Nat.le_refl _) _) : Own6 V w.heap.size own.1 own.2.1 own.2.2.1 own.2.2.2.1 own.2.2.2.2.1 own.2.2.2.2.2)
  have O20 := Lib.hid (hV ▸ own6_alloc (w.alloc (.cells #[.bool own.1, .int .i64 own.2.1, .int .i64 own.2.2.1, .int .i64 own.2.2.2.1, .int .i64 own.2.2.2.2.1, .int .i64 own.2.2.2.2.2] 24)) x.1 x.2.1 x.2.2.1 x.2.2.2.1 x.2.2.2.2.1 x.2.2.2.2.2 24 (w.heap.size + 1) (by simp) : Own6 V (w.heap.size + 1) x.1 x.2.1 x.2.2.1 x.2.2.2.1 x.2.2.2.2.1 x.2.2.2.2.2)
  have HB0 := Lib.hid (hV ▸ hb1.alloc hb1.size _ : Below w.heap.size w V)
  have HV := Lib.hid hV
  have CX := Lib.hid (fun W => rtold_any x.1 x.2.1 x.2.2.1 x.2.2.2.1 x.2.2.2.2.1 x.2.2.2.2.2 W)
  have CO := Lib.hid (fun W => rtold_any own.1 own.2.1 own.2.2.1 own.2.2.2.1 own.2.2.2.2.1 own.2.2.2.2.2 W)
  have L1 := Lib.hid (fun W => rless_any x.1 x.2.1 x.2.2.1 x.2.2.2.1 x.2.2.2.2.1 x.2.2.2.2.2 own.1 own.2.1 own.2.2.1 own.2.2.2.1 own.2.2.2.2.1 own.2.2.2.2.2 W)
  have L2 := Lib.hid (fun W => rless_any own.1 own.2.1 own.2.2.1 own.2.2.2.1 own.2.2.2.2.1 own.2.2.2.2.2 x.1 x.2.1 x.2.2.1 x.2.2.2.1 x.2.2.2.2.1 x.2.2.2.2.2 W)
  clear hV hq hb1
  cases g1 : tld x with
  | false =>
    rw [show dirF own x = 0 by unfold dirF; simp [g1]]
    rw [show told x.1 x.2.1 x.2.2.1 x.2.2.2.1 x.2.2.2.2.1 x.2.2.2.2.2 = false from g1] at CX
    go_enter Try.func12, Try.ntmps12
    go_upto_region 1 with (fail)
    rw [HV.out]
    obtain ⟨⟨a0, a1, a2, a3, a4, a5⟩, _⟩ := O10.out
    obtain ⟨⟨d0, d1, d2, d3, d4, d5⟩, _⟩ := O20.out
    clear g1
    go_wp2_with fail
    refine (CX.out _).mono ?_
    rintro e W1 ⟨rfl, hb⟩
    have HB1 := Lib.hid (HB0.out.trans (hb.mono HB0.out.size))
    have O11 := Lib.hid (O10.out.below hb)
    have O21 := Lib.hid (O20.out.below hb)
    clear hb HB0 O10 O20 a0 a1 a2 a3 a4 a5 d0 d1 d2 d3 d4 d5
    obtain ⟨⟨a0, a1, a2, a3, a4, a5⟩, _⟩ := O11.out
    obtain ⟨⟨d0, d1, d2, d3, d4, d5⟩, _⟩ := O21.out
    go_wp2_with fail
    go_ret
    exact ⟨rfl, HB1.out⟩
  | true =>
    rw [show told x.1 x.2.1 x.2.2.1 x.2.2.2.1 x.2.2.2.2.1 x.2.2.2.2.2 = true from g1] at CX
    cases g2 : tld own with
    | false =>
      rw [show dirF own x = 1 by unfold dirF; simp [g1, g2]]
      rw [show told own.1 own.2.1 own.2.2.1 own.2.2.2.1 own.2.2.2.2.1 own.2.2.2.2.2 = false from g2] at CO
      clear g1 g2
      go_enter Try.func12, Try.ntmps12
      go_upto_region 1 with (fail)
      rw [HV.out]
      obtain ⟨⟨a0, a1, a2, a3, a4, a5⟩, _⟩ := O10.out
      obtain ⟨⟨d0, d1, d2, d3, d4, d5⟩, _⟩ := O20.out
      go_wp2_with fail
      refine (CX.out _).mono ?_
      rintro e W1 ⟨rfl, hb⟩
      have HB1 := Lib.hid (HB0.out.trans (hb.mono HB0.out.size))
      have O11 := Lib.hid (O10.out.below hb)
      have O21 := Lib.hid (O20.out.below hb)
      clear hb HB0 O10 O20 a0 a1 a2 a3 a4 a5 d0 d1 d2 d3 d4 d5
      obtain ⟨⟨a0, a1, a2, a3, a4, a5⟩, _⟩ := O11.out
      obtain ⟨⟨d0, d1, d2, d3, d4, d5⟩, _⟩ := O21.out
      go_wp2_with fail
      refine (CO.out _).mono ?_
      rintro e W2 ⟨rfl, hb⟩
      have HB2 := Lib.hid (HB1.out.trans (hb.mono HB1.out.size))
      have O12 := Lib.hid (O11.out.below hb)
      have O22 := Lib.hid (O21.out.below hb)
      clear hb HB1 O11 O21 a0 a1 a2 a3 a4 a5 d0 d1 d2 d3 d4 d5
      obtain ⟨⟨a0, a1, a2, a3, a4, a5⟩, _⟩ := O12.out
      obtain ⟨⟨d0, d1, d2, d3, d4, d5⟩, _⟩ := O22.out
      go_wp2_with fail
      go_ret
      exact ⟨rfl, HB2.out⟩
    | true =>
      rw [show told own.1 own.2.1 own.2.2.1 own.2.2.2.1 own.2.2.2.2.1 own.2.2.2.2.2 = true from g2] at CO
      cases g3 : lsx x own with
      | true =>
        rw [show dirF own x = 1 by unfold dirF; simp [g1, g2, g3]]
        rw [show lessB x.1 x.2.1 x.2.2.1 x.2.2.2.1 x.2.2.2.2.1 x.2.2.2.2.2 own.1 own.2.1 own.2.2.1 own.2.2.2.1 own.2.2.2.2.1 own.2.2.2.2.2 = true from g3] at L1
        clear g1 g2 g3
        go_enter Try.func12, Try.ntmps12
        go_upto_region 1 with (fail)
        rw [HV.out]
        obtain ⟨⟨a0, a1, a2, a3, a4, a5⟩, _⟩ := O10.out
        obtain ⟨⟨d0, d1, d2, d3, d4, d5⟩, _⟩ := O20.out
        go_wp2_with fail
        refine (CX.out _).mono ?_
        rintro e W1 ⟨rfl, hb⟩
        have HB1 := Lib.hid (HB0.out.trans (hb.mono HB0.out.size))
        have O11 := Lib.hid (O10.out.below hb)
        have O21 := Lib.hid (O20.out.below hb)
        clear hb HB0 O10 O20 a0 a1 a2 a3 a4 a5 d0 d1 d2 d3 d4 d5
        obtain ⟨⟨a0, a1, a2, a3, a4, a5⟩, _⟩ := O11.out
        obtain ⟨⟨d0, d1, d2, d3, d4, d5⟩, _⟩ := O21.out
        go_wp2_with fail
        refine (CO.out _).mono ?_
        rintro e W2 ⟨rfl, hb⟩
        have HB2 := Lib.hid (HB1.out.trans (hb.mono HB1.out.size))
        have O12 := Lib.hid (O11.out.below hb)
        have O22 := Lib.hid (O21.out.below hb)
        clear hb HB1 O11 O21 a0 a1 a2 a3 a4 a5 d0 d1 d2 d3 d4 d5
        obtain ⟨⟨a0, a1, a2, a3, a4, a5⟩, _⟩ := O12.out
        obtain ⟨⟨d0, d1, d2, d3, d4, d5⟩, _⟩ := O22.out
        go_wp2_with fail
        refine (L1.out _).mono ?_
        rintro e W3 ⟨rfl, hb⟩
        have HB3 := Lib.hid (HB2.out.trans (hb.mono HB2.out.size))
        have O13 := Lib.hid (O12.out.below hb)
        have O23 := Lib.hid (O22.out.below hb)
        clear hb HB2 O12 O22 a0 a1 a2 a3 a4 a5 d0 d1 d2 d3 d4 d5
        obtain ⟨⟨a0, a1, a2, a3, a4, a5⟩, _⟩ := O13.out
        obtain ⟨⟨d0, d1, d2, d3, d4, d5⟩, _⟩ := O23.out
        go_wp2_with fail
        go_ret
        exact ⟨rfl, HB3.out⟩
      | false =>
        rw [show lessB x.1 x.2.1 x.2.2.1 x.2.2.2.1 x.2.2.2.2.1 x.2.2.2.2.2 own.1 own.2.1 own.2.2.1 own.2.2.2.1 own.2.2.2.2.1 own.2.2.2.2.2 = false from g3] at L1
        cases g4 : lsx own x with
        | true =>
          rw [show dirF own x = 2 by unfold dirF; simp [g1, g2, g3, g4]]
          rw [show lessB own.1 own.2.1 own.2.2.1 own.2.2.2.1 own.2.2.2.2.1 own.2.2.2.2.2 x.1 x.2.1 x.2.2.1 x.2.2.2.1 x.2.2.2.2.1 x.2.2.2.2.2 = true from g4] at L2
          clear g1 g2 g3 g4
          go_enter Try.func12, Try.ntmps12
          go_upto_region 1 with (fail)
          rw [HV.out]
          obtain ⟨⟨a0, a1, a2, a3, a4, a5⟩, _⟩ := O10.out
          obtain ⟨⟨d0, d1, d2, d3, d4, d5⟩, _⟩ := O20.out
          go_wp2_with fail
          refine (CX.out _).mono ?_
          rintro e W1 ⟨rfl, hb⟩
          have HB1 := Lib.hid (HB0.out.trans (hb.mono HB0.out.size))
          have O11 := Lib.hid (O10.out.below hb)
          have O21 := Lib.hid (O20.out.below hb)
          clear hb HB0 O10 O20 a0 a1 a2 a3 a4 a5 d0 d1 d2 d3 d4 d5
          obtain ⟨⟨a0, a1, a2, a3, a4, a5⟩, _⟩ := O11.out
          obtain ⟨⟨d0, d1, d2, d3, d4, d5⟩, _⟩ := O21.out
          go_wp2_with fail
          refine (CO.out _).mono ?_
          rintro e W2 ⟨rfl, hb⟩
          have HB2 := Lib.hid (HB1.out.trans (hb.mono HB1.out.size))
          have O12 := Lib.hid (O11.out.below hb)
          have O22 := Lib.hid (O21.out.below hb)
          clear hb HB1 O11 O21 a0 a1 a2 a3 a4 a5 d0 d1 d2 d3 d4 d5
          obtain ⟨⟨a0, a1, a2, a3, a4, a5⟩, _⟩ := O12.out
          obtain ⟨⟨d0, d1, d2, d3, d4, d5⟩, _⟩ := O22.out
          go_wp2_with fail
          refine (L1.out _).mono ?_
          rintro e W3 ⟨rfl, hb⟩
          have HB3 := Lib.hid (HB2.out.trans (hb.mono HB2.out.size))
          have O13 := Lib.hid (O12.out.below hb)
          have O23 := Lib.hid (O22.out.below hb)
          clear hb HB2 O12 O22 a0 a1 a2 a3 a4 a5 d0 d1 d2 d3 d4 d5
          obtain ⟨⟨a0, a1, a2, a3, a4, a5⟩, _⟩ := O13.out
          obtain ⟨⟨d0, d1, d2, d3, d4, d5⟩, _⟩ := O23.out
          go_wp2_with fail
          refine (L2.out _).mono ?_
          rintro e W4 ⟨rfl, hb⟩
          have HB4 := Lib.hid (HB3.out.trans (hb.mono HB3.out.size))
          have O14 := Lib.hid (O13.out.below hb)
          have O24 := Lib.hid (O23.out.below hb)
          clear hb HB3 O13 O23 a0 a1 a2 a3 a4 a5 d0 d1 d2 d3 d4 d5
          obtain ⟨⟨a0, a1, a2, a3, a4, a5⟩, _⟩ := O14.out
          obtain ⟨⟨d0, d1, d2, d3, d4, d5⟩, _⟩ := O24.out
          go_wp2_with fail
          go_ret
          exact ⟨rfl, HB4.out⟩
        | false =>
          rw [show dirF own x = 0 by unfold dirF; simp [g1, g2, g3, g4]]
          rw [show lessB own.1 own.2.1 own.2.2.1 own.2.2.2.1 own.2.2.2.2.1 own.2.2.2.2.2 x.1 x.2.1 x.2.2.1 x.2.2.2.1 x.2.2.2.2.1 x.2.2.2.2.2 = false from g4] at L2
          clear g1 g2 g3 g4
          go_enter Try.func12, Try.ntmps12
          go_upto_region 1 with (fail)
          rw [HV.out]
          obtain ⟨⟨a0, a1, a2, a3, a4, a5⟩, _⟩ := O10.out
          obtain ⟨⟨d0, d1, d2, d3, d4, d5⟩, _⟩ := O20.out
          go_wp2_with fail
          refine (CX.out _).mono ?_
          rintro e W1 ⟨rfl, hb⟩
          have HB1 := Lib.hid (HB0.out.trans (hb.mono HB0.out.size))
          have O11 := Lib.hid (O10.out.below hb)
          have O21 := Lib.hid (O20.out.below hb)
          clear hb HB0 O10 O20 a0 a1 a2 a3 a4 a5 d0 d1 d2 d3 d4 d5
          obtain ⟨⟨a0, a1, a2, a3, a4, a5⟩, _⟩ := O11.out
          obtain ⟨⟨d0, d1, d2, d3, d4, d5⟩, _⟩ := O21.out
          go_wp2_with fail
          refine (CO.out _).mono ?_
          rintro e W2 ⟨rfl, hb⟩
          have HB2 := Lib.hid (HB1.out.trans (hb.mono HB1.out.size))
          have O12 := Lib.hid (O11.out.below hb)
          have O22 := Lib.hid (O21.out.below hb)
          clear hb HB1 O11 O21 a0 a1 a2 a3 a4 a5 d0 d1 d2 d3 d4 d5
          obtain ⟨⟨a0, a1, a2, a3, a4, a5⟩, _⟩ := O12.out
          obtain ⟨⟨d0, d1, d2, d3, d4, d5⟩, _⟩ := O22.out
          go_wp2_with fail
          refine (L1.out _).mono ?_
          rintro e W3 ⟨rfl, hb⟩
          have HB3 := Lib.hid (HB2.out.trans (hb.mono HB2.out.size))
          have O13 := Lib.hid (O12.out.below hb)
          have O23 := Lib.hid (O22.out.below hb)
          clear hb HB2 O12 O22 a0 a1 a2 a3 a4 a5 d0 d1 d2 d3 d4 d5
          obtain ⟨⟨a0, a1, a2, a3, a4, a5⟩, _⟩ := O13.out
          obtain ⟨⟨d0, d1, d2, d3, d4, d5⟩, _⟩ := O23.out
          go_wp2_with fail
          refine (L2.out _).mono ?_
          rintro e W4 ⟨rfl, hb⟩
          have HB4 := Lib.hid (HB3.out.trans (hb.mono HB3.out.size))
          have O14 := Lib.hid (O13.out.below hb)
          have O24 := Lib.hid (O23.out.below hb)
          clear hb HB3 O13 O23 a0 a1 a2 a3 a4 a5 d0 d1 d2 d3 d4 d5
          obtain ⟨⟨a0, a1, a2, a3, a4, a5⟩, _⟩ := O14.out
          obtain ⟨⟨d0, d1, d2, d3, d4, d5⟩, _⟩ := O24.out
          go_wp2_with fail
          go_ret
          exact ⟨rfl, HB4.out⟩
end Go.Proofs.Ytmimgpnogjgliaa

namespace Go.Proofs.Ytmimgpnogjgliaa
set_option maxRecDepth 100000
open Go.RowKit

/-- Whether a height lies that way; the views that do. -/
def dirB (own : Hx) (way : Int) (x : Hx) : Bool := dirF own x == way
def dirL (l : List Vw) (own : Hx) (way : Int) : List Vw := l.filter (fun y => dirB own way y.2)
theorem dirB_tld {own : Hx} {way : Int} (hw : way = 1 ∨ way = 2) (h : Hx) (hb : dirB own way h = true) : tld h = true := by
  unfold dirB at hb
  have := eq_of_beq hb
  exact dir_tld (own := own) (by omega)
theorem dir_step (l : List Vw) (own : Hx) (way : Int) (k : Nat) (h : k < l.length) : dirL (l.take (k + 1)) own way = dirL (l.take k) own way ++ if dirB own way (l.getD k zVw).2 = true then [l.getD k zVw] else [] := by
  unfold dirL
  rw [vtake_succ l k h, List.filter_append]
  congr 1
  cases hd : dirB own way (l.getD k zVw).2 with
  | true => rw [if_pos rfl, List.filter_cons_of_pos (p := fun y : Vw => dirB own way y.2) hd]; rfl
  | false => rw [if_neg (by simp), List.filter_cons_of_neg (p := fun y : Vw => dirB own way y.2) (by rw [hd]; simp)]; rfl
theorem dirL_le (l : List Vw) (own : Hx) (way : Int) : (dirL l own way).length ≤ l.length := List.length_filter_le _ _
/-- What stands at a place. -/
def atI (l : List Vw) (i : Int) : Vw := l.getD i.toNat zVw
theorem sordD (l : List Vw) (f : Hx → Bool) (hf : ∀ h, f h = true → tld h = true) : SOrd (okI l f) (fun x y => cmpD (hgt l x) (hgt l y)) (ltI l f) where
  tr := (sordI l f hf).tr
  yes := fun x y ox oy _ h => ⟨oy, ox, .inl ((cmpD_neg (hf _ oy.2.2) (hf _ ox.2.2)).1 h)⟩
  no := fun x y ox oy hxy h => ⟨ox, oy, .inr ⟨by
    cases e : lsx (hgt l y) (hgt l x) with
    | true => exact absurd ((cmpD_neg (hf _ oy.2.2) (hf _ ox.2.2)).2 e) h
    | false => rfl, hxy⟩⟩
theorem srt_vordV {l : List Vw} {f : Hx → Bool} (hf : ∀ h, f h = true → tld h = true) {S : List Int} (h : Srt (ltI l f) (wantI l f l.length) S) : S.map (atI l) = vordL (l.filter (fun y => f y.2)) := by
  have hD := want_rise l f l.length
  have hv := want_vw l f (Nat.le_refl l.length)
  rw [List.take_length] at hv
  have h1 := vord_stb (l := l.filter (fun y => f y.2)) (fun y hy => hf _ (List.mem_filter.1 hy).2) (zs := S.map (fun i => (l.getD i.toNat zVw, (wantI l f l.length).idxOf i)))
    (by rw [← hv, zip_idx hD]; exact h.1.map _)
    (by
      rw [List.pairwise_map]
      refine List.Pairwise.imp_of_mem (fun {a b} ha hb hab => ?_) h.2
      obtain ⟨_, _, hab⟩ := hab
      rcases hab with hab | ⟨hab, hlt⟩
      · exact .inl hab
      · exact .inr ⟨hab, idx_lt hD (h.1.mem_iff.1 ha) (h.1.mem_iff.1 hb) hlt⟩)
  rw [← h1, List.map_map]
  rfl
theorem map_at {D : Int → Vw} {ds : List Int} {i : Nat} (hi : i < ds.length) : (ds.map D).getD i zVw = D (ds.getD i 0) := by simp [List.getD, hi]
theorem sy_ns {D : Int → Vw} {B : Nat} {w0 w : World} {b off cap : Nat} {ds : List Int} (h : SY D B w0 b off w ds) (hc : ds.length ≤ cap) : Ns w (.slice (some ⟨b, off, none⟩) ds.length cap) (ds.map D) := by
  refine .inr ⟨b, off, cap, ?_, ?_, h.lt, fun i hi j hj => ?_⟩
  · show _ = Value.slice _ (ds.map D).length cap
    rw [List.length_map]
  · show (ds.map D).length ≤ cap
    rw [List.length_map]; exact hc
  · have hi' : i < ds.length := by
      have : i < (ds.map D).length := hi
      rwa [List.length_map] at this
    show w.cell? ⟨b, off + i * 7 + j, none⟩ = (vwc ((ds.map D).getD i zVw))[j]?
    rw [map_at hi']
    exact h.row i hi' j hj
theorem sy_of_own {D : Int → Vw} {w : World} {S : Nat} {a : Option Addr} {n c : Nat} {ds : List Int} (h : OwN w S (.slice a n c) (ds.map D)) (hn : n = ds.length) (h0 : ds ≠ []) : ∃ g, a = some ⟨g, 0, none⟩ ∧ SY D S w g 0 w ds ∧ ds.length ≤ c := by
  have hp : 0 < ds.length := List.length_pos_iff.2 h0
  have hln : (ds.map D).length = n := by rw [List.length_map, hn]
  have h1 : w.ownsRow S RN.T RN.K (.slice a n c) n (gflat RN (ds.map D)) := by
    have h2 : w.ownsRow S RN.T RN.K (.slice a n c) (ds.map D).length (gflat RN (ds.map D)) := h
    rwa [hln] at h2
  rcases h1.2 with ⟨_, h2⟩ | ⟨g, cap, cur, h7, h8, h9, h10, _⟩
  · omega
  · simp only [Value.slice.injEq] at h7
    obtain ⟨rfl, _, rfl⟩ := h7
    have hz := Gs_of_own (R := RN) h1
    have hg : g < w.heap.size := (h1.lt g rfl).2
    refine ⟨g, rfl, ⟨Below.refl _ _, fun i hi j hj => ?_, fun k => World.ownsRow.frozenAt h1 k, h8, hg⟩, by omega⟩
    have h2 : Gs RN w (.slice (some ⟨g, 0, none⟩) (ds.map D).length c) (ds.map D) := by rw [hln]; exact hz.1
    have h9 : i < (ds.map D).length := by rw [List.length_map]; exact hi
    have h3 : w.cell? ⟨g, 0 + i * 7 + j, none⟩ = (vwc ((ds.map D).getD i zVw))[j]? := (Gs.all (R := RN) h2 h9).2 j hj
    rw [map_at hi] at h3
    exact h3
set_option maxHeartbeats 16000000 in
theorem lupw_any (v : Value) (l : List Vw) (own : Hx) (way : Int) (hway : way = 1 ∨ way = 2) (w : World) (hv : Vs w v l) (hl : l.length ≤ 1000) :
    Calls Try.prog 37 #[v, hxV own, .int .i64 way] w fun e w' => ∃ r, e = .returned r ∧ Ns w' r (vordL (dirL l own way)) ∧ Below w.heap.size w w' := by
  obtain ⟨R, hR⟩ : ∃ R, vordL (dirL l own way) = R := ⟨_, rfl⟩
  rw [hR]
  obtain ⟨a, c, rfl⟩ := hv.form
  obtain ⟨w1, hw1⟩ : ∃ w1, w.alloc (.cells #[.bool own.1, .int .i64 own.2.1, .int .i64 own.2.2.1, .int .i64 own.2.2.2.1, .int .i64 own.2.2.2.2.1, .int .i64 own.2.2.2.2.2] 24) = w1 := ⟨_, rfl⟩
  have hb0 : Below w.heap.size w w1 := hw1 ▸ (Below.refl _ w).alloc (Nat.le_refl _) _
  have ov : Own6 w1 w.heap.size own.1 own.2.1 own.2.2.1 own.2.2.2.1 own.2.2.2.2.1 own.2.2.2.2.2 := hw1 ▸ own6_alloc w own.1 own.2.1 own.2.2.1 own.2.2.2.1 own.2.2.2.2.1 own.2.2.2.2.2 24 w.heap.size rfl
  have hlt : w.heap.size < w1.heap.size := World.block_lt_of_cell? w1 _ ov.1.1
  have HR := Lib.hid hR
  have HV := Lib.hid (hv.below hb0)
  have HB0 := Lib.hid hb0
  have HO0 := Lib.hid ov
  have HS1 := Lib.hid hlt
  have HW1 := Lib.hid hw1
  have HFF := Lib.hid (fun h hb => dirB_tld (own := own) hway h hb)
  clear hv hb0 hw1 hR ov hlt hway
  go_enter Try.func37, Try.ntmps37
  go_upto_region 2 with (fail)
  rw [HW1.out]
  go_wp2_with fail
  go_loopw [7, 12] (fun ov i wr => ∃ (k : Nat) (ax : Option Addr) (cx : Nat) (xs : List Vw), k ≤ l.length ∧ i = .int .i64 k ∧ ov = .slice ax xs.length cx ∧ Hid (dirL (l.take k) own way = xs) ∧ Hid (OwN wr w1.heap.size (.slice ax xs.length cx) xs) ∧ Hid (xs = [] → ax = none ∧ cx = 0) ∧ Hid (Below w1.heap.size w1 wr)) (fun _ i _ => l.length - (intOf i).toNat)
  case atStart => exact ⟨0, none, 0, [], Nat.zero_le _, rfl, rfl, rfl, OwN_nil w1 _, fun _ => ⟨rfl, rfl⟩, Below.refl _ _⟩
  case round =>
    obtain ⟨k, ax, cx, xs, hk, rfl, rfl, HF, HO, HN, HB⟩ := hrel
    have hxl : xs.length ≤ k := by
      have h1 := dirL_le (l.take k) own way
      rw [HF.out, List.length_take] at h1
      omega
    by_cases hlt : k < l.length
    · have hst := dir_step l own way k hlt
      rw [HF.out] at hst
      obtain ⟨b2, off, rfl, hB, p0, p1, p2, p3, p4, p5, p6⟩ := (HV.out.below HB.out).at hlt
      obtain ⟨y, hy⟩ : ∃ y, l.getD k zVw = y := ⟨_, rfl⟩
      rw [hy] at p0 p1 p2 p3 p4 p5 p6 hst
      clear hy
      obtain ⟨V, hV⟩ : ∃ V, wr.alloc (.cells #[.int .i64 y.1, .bool y.2.1, .int .i64 y.2.2.1, .int .i64 y.2.2.2.1, .int .i64 y.2.2.2.2.1, .int .i64 y.2.2.2.2.2.1, .int .i64 y.2.2.2.2.2.2] 43) = V := ⟨_, rfl⟩
      have hbv : Below wr.heap.size wr V := hV ▸ (Below.refl _ wr).alloc (Nat.le_refl _) _
      have OY := Lib.hid (hV ▸ ownV_alloc wr y wr.heap.size rfl 43 : OwnV V wr.heap.size y)
      have HBV := Lib.hid (HB.out.trans (hbv.mono HB.out.size))
      have HOV := Lib.hid (HO.out.below hbv)
      have hov : Own6 V w.heap.size own.1 own.2.1 own.2.2.1 own.2.2.2.1 own.2.2.2.2.1 own.2.2.2.2.2 := by
        refine ⟨?_, fun k => (HBV.out.frozen (p := ⟨w.heap.size, k, none⟩) HS1.out).trans (HO0.out.2 k)⟩
        obtain ⟨h0, h1, h2, h3, h4, h5⟩ := HO0.out.1
        exact ⟨(HBV.out.cell (p := ⟨w.heap.size, 0, none⟩) HS1.out).trans h0, (HBV.out.cell (p := ⟨w.heap.size, 1, none⟩) HS1.out).trans h1, (HBV.out.cell (p := ⟨w.heap.size, 2, none⟩) HS1.out).trans h2, (HBV.out.cell (p := ⟨w.heap.size, 3, none⟩) HS1.out).trans h3, (HBV.out.cell (p := ⟨w.heap.size, 4, none⟩) HS1.out).trans h4, (HBV.out.cell (p := ⟨w.heap.size, 5, none⟩) HS1.out).trans h5⟩
      have HOW := Lib.hid hov
      obtain ⟨z, hz⟩ : ∃ z, dirF own y.2 = z := ⟨_, rfl⟩
      have CW := Lib.hid (dir_any own y.2 V)
      rw [hz] at CW
      have hdb : dirB own way y.2 = (z == way) := by unfold dirB; rw [hz]
      rw [hdb] at hst
      clear hz hdb hov
      obtain ⟨⟨d0, d1, d2, d3, d4, d5, d6⟩, df⟩ := OY.out
      simp only [Nat.zero_add] at d1 d2 d3 d4 d5 d6
      go_upto_region 5 with (fail)
      clear p0 p1 p2 p3 p4 p5 p6 hV hbv hB HO
      obtain ⟨⟨q0, q1, q2, q3, q4, q5⟩, _⟩ := HOW.out
      have HLE1 : Hid (xs.length ≤ 3000) := by show _ ≤ _; omega
      cases g3 : (z == way) with
      | true =>
        rw [g3, if_pos rfl] at hst
        have HST := Lib.hid hst
        clear hst
        go_wp2_with fail
        refine CW.out.mono ?_
        rintro e V2 ⟨rfl, hb2⟩
        have HB5 := Lib.hid (HBV.out.trans (hb2.mono HBV.out.size))
        have HO5 := Lib.hid (HOV.out.below hb2)
        have HY5 := Lib.hid (OY.out.below hb2)
        have HSW : Hid (w1.heap.size ≤ V2.heap.size) := HB5.out.size
        clear hb2 d0 d1 d2 d3 d4 d5 d6 df q0 q1 q2 q3 q4 q5
        obtain ⟨⟨d0, d1, d2, d3, d4, d5, d6⟩, df⟩ := HY5.out
        simp only [Nat.zero_add] at d1 d2 d3 d4 d5 d6
        go_wp2_with (at_builtin; refine napp1_any rfl (.tmp 22) (.tmp 24) rfl V2 y rfl w1.heap.size (.slice ax xs.length cx) xs rfl rfl HO5.out HLE1.out HSW.out ?_; intro g1 cap1 wa ho9 hb9; have HO1 := Lib.hid ho9; have HA1 := Lib.hid hb9; clear ho9 hb9)
        go_roundw
        case rel => exact ⟨k + 1, some ⟨g1, 0, none⟩, cap1, xs ++ [y], by omega, by go_num, by rw [List.length_append]; rfl, HST.out, by have h9 := HO1.out; rw [List.length_append]; exact h9, fun h => absurd h (by simp), HB5.out.trans HA1.out⟩
        case measure => simp [intOf]; omega
      | false =>
        rw [g3, if_neg (by simp), List.append_nil] at hst
        have HST := Lib.hid hst
        clear hst
        go_wp2_with fail
        refine CW.out.mono ?_
        rintro e V2 ⟨rfl, hb2⟩
        have HB5 := Lib.hid (HBV.out.trans (hb2.mono HBV.out.size))
        have HO5 := Lib.hid (HOV.out.below hb2)
        clear hb2 d0 d1 d2 d3 d4 d5 d6 df q0 q1 q2 q3 q4 q5
        go_wp2_with fail
        go_roundw
        case rel => exact ⟨k + 1, ax, cx, xs, by omega, by go_num, rfl, HST.out, HO5.out, HN.out, HB5.out⟩
        case measure => simp [intOf]; omega
    · obtain rfl : k = l.length := by omega
      obtain ⟨wo, hwo⟩ : ∃ wo, wo = wr := ⟨_, rfl⟩
      subst hwo
      by_cases hx0 : xs = []
      · obtain ⟨rfl, rfl⟩ := HN.out hx0
        subst hx0
        have hrn : R = [] := by
          have h1 := HF.out
          rw [List.take_length] at h1
          rw [← HR.out, h1]
          rfl
        have HRN := Lib.hid hrn
        have HBX := Lib.hid (HB0.out.trans (HB.out.mono HB0.out.size))
        have C := Lib.hid (ssfN_nil wo)
        clear hrn
        show Code.wp _ _ _ _ _
        simp only [List.length_nil]
        go_wp2_with fail
        refine C.out.mono ?_
        rintro e w2 ⟨rfl, rfl⟩
        go_wp2_with fail
        go_ret
        exact ⟨_, rfl, by rw [HRN.out]; exact Ns_nil _, HBX.out⟩
      · have hvw := want_vw l (dirB own way) (Nat.le_refl l.length)
        obtain ⟨ds, hds⟩ : ∃ ds, wantI l (dirB own way) l.length = ds := ⟨_, rfl⟩
        have hxd : xs = ds.map (atI l) := by
          rw [← hds, ← HF.out]
          exact hvw.symm
        obtain ⟨n, hn⟩ : ∃ n, xs.length = n := ⟨_, rfl⟩
        have hnd : n = ds.length := by rw [← hn, hxd, List.length_map]
        have hnb : n ≤ 1000 := by omega
        have hd0 : ds ≠ [] := fun h => hx0 (by rw [hxd, h]; rfl)
        have ho := HO.out
        rw [hn, hxd] at ho
        obtain ⟨g, rfl, hsy, hcap⟩ := sy_of_own ho hnd hd0
        have hCC : CmpY (atI l) w1.heap.size wo (okI l (dirB own way)) (fun x y => cmpD (hgt l x) (hgt l y)) := fun W x y _ _ _ => ncmp_any (atI l x) (atI l y) W
        have hri := want_rise l (dirB own way) l.length
        have hok := want_ok l (dirB own way) (Nat.le_refl l.length)
        rw [hds] at hri hok
        have C := Lib.hid (ssfN_any (cap := cx) (sordD l (dirB own way) HFF.out) hCC ds hri hok wo hsy hnd (by omega))
        have HDS := Lib.hid hds
        have HND := Lib.hid hnd
        have HCP := Lib.hid hcap
        rw [hn]
        clear hCC hri hok hn hsy hcap hx0 hds hnd hxd hd0 ho hvw
        go_wp2_with fail
        refine C.out.mono ?_
        rintro e w2 ⟨rfl, S, hs, hsrt⟩
        have hsl : S.length = n := by rw [hsrt.1.length_eq, HND.out]
        have hro : S.map (atI l) = R := by
          rw [← HR.out]
          exact srt_vordV HFF.out (by rw [HDS.out]; exact hsrt)
        have hns := sy_ns hs (cap := cx) (by rw [hsl, HND.out]; exact HCP.out)
        rw [hro, hsl] at hns
        have HNS := Lib.hid hns
        have HBX := Lib.hid (HB0.out.trans ((HB.out.trans hs.bel).mono HB0.out.size))
        clear hs hsl hro hsrt C hns
        go_wp2_with fail
        go_ret
        exact ⟨_, rfl, HNS.out, HBX.out⟩
end Go.Proofs.Ytmimgpnogjgliaa

namespace Go.Proofs.Ytmimgpnogjgliaa
set_option maxRecDepth 100000
open Go.RowKit

/-- Whose views lie that way, the lowest one first. -/
def dirI (l : List Vw) (own : Hx) (way : Int) : List Int := (vordL (dirL l own way)).map (·.1)
def nxtF (l : List Vw) (own : Hx) : Int × Bool := ((dirI l own 1).headD 0, !(dirI l own 1).isEmpty)
theorem vordD_le (l : List Vw) (own : Hx) (way : Int) : (vordL (dirL l own way)).length ≤ l.length := by
  rw [(vord_perm _).length_eq]
  exact dirL_le l own way
theorem itake_succ (l : List Vw) (k : Nat) (h : k < l.length) : (l.take (k + 1)).map (·.1) = (l.take k).map (·.1) ++ [(l.getD k zVw).1] := by
  rw [vtake_succ l k h, List.map_append]
  rfl
set_option maxHeartbeats 8000000 in
theorem lids_any (v : Value) (l : List Vw) (w : World) (hv : Ns w v l) (hl : l.length ≤ 1000) :
    Calls Try.prog 36 #[v] w fun e w' => ∃ r, e = .returned r ∧ Zs w' r (l.map (·.1)) ∧ Below w.heap.size w w' := by
  obtain ⟨a, c, rfl⟩ := hv.form
  have HV := Lib.hid hv
  clear hv
  go_enter Try.func36, Try.ntmps36
  go_wp2_with fail
  go_loopw [3, 8] (fun ov i wr => ∃ (k : Nat) (ax : Option Addr) (cx : Nat) (xs : List Int), k ≤ l.length ∧ i = .int .i64 k ∧ ov = .slice ax xs.length cx ∧ Hid ((l.take k).map (·.1) = xs) ∧ Hid (OwI wr w.heap.size (.slice ax xs.length cx) xs) ∧ Hid (Below w.heap.size w wr)) (fun _ i _ => l.length - (intOf i).toNat)
  case atStart => exact ⟨0, none, 0, [], Nat.zero_le _, rfl, rfl, rfl, OwI_nil w _, Below.refl _ _⟩
  case round =>
    obtain ⟨k, ax, cx, xs, hk, rfl, rfl, HF, HO, HB⟩ := hrel
    have hxl : xs.length ≤ k := by
      have h1 := congrArg List.length HF.out
      rw [List.length_map, List.length_take] at h1
      omega
    by_cases hlt : k < l.length
    · have hst := itake_succ l k hlt
      rw [HF.out] at hst
      obtain ⟨b2, off, rfl, hB, p0, p1, p2, p3, p4, p5, p6⟩ := (HV.out.below HB.out).at hlt
      obtain ⟨y, hy⟩ : ∃ y, l.getD k zVw = y := ⟨_, rfl⟩
      rw [hy] at p0 p1 p2 p3 p4 p5 p6 hst
      clear hy
      have HST := Lib.hid hst
      obtain ⟨V, hV⟩ : ∃ V, wr.alloc (.cells #[.int .i64 y.1, .bool y.2.1, .int .i64 y.2.2.1, .int .i64 y.2.2.2.1, .int .i64 y.2.2.2.2.1, .int .i64 y.2.2.2.2.2.1, .int .i64 y.2.2.2.2.2.2] 64) = V := ⟨_, rfl⟩
      have hbv : Below wr.heap.size wr V := hV ▸ (Below.refl _ wr).alloc (Nat.le_refl _) _
      have OY := Lib.hid (hV ▸ ownV_alloc wr y wr.heap.size rfl 64 : OwnV V wr.heap.size y)
      have HBV := Lib.hid (HB.out.trans (hbv.mono HB.out.size))
      have HOV := Lib.hid (HO.out.below hbv)
      have HSW : Hid (w.heap.size ≤ V.heap.size) := HBV.out.size
      have HLE1 : Hid (xs.length ≤ 3000) := by show _ ≤ _; omega
      obtain ⟨⟨d0, d1, d2, d3, d4, d5, d6⟩, df⟩ := OY.out
      simp only [Nat.zero_add] at d1 d2 d3 d4 d5 d6
      go_upto_region 5 with (fail)
      clear p0 p1 p2 p3 p4 p5 p6 hV hbv hB HO hst
      go_wp2_with (at_builtin; refine iapp1_any rfl (.tmp 12) (.tmp 15) rfl V y.1 rfl w.heap.size (.slice ax xs.length cx) xs rfl rfl HOV.out HLE1.out HSW.out ?_; intro g1 cap1 wa ho9 hb9; have HO1 := Lib.hid ho9; have HA1 := Lib.hid hb9; clear ho9 hb9)
      go_roundw
      case rel => exact ⟨k + 1, some ⟨g1, 0, none⟩, cap1, xs ++ [y.1], by omega, by go_num, by rw [List.length_append]; rfl, HST.out, by have h9 := HO1.out; rw [List.length_append]; exact h9, HBV.out.trans HA1.out⟩
      case measure => simp [intOf]; omega
    · obtain rfl : k = l.length := by omega
      have h1 := HF.out
      rw [List.take_length] at h1
      have hz : Zs wr (.slice ax xs.length cx) (l.map (·.1)) := by rw [h1]; exact HO.out.zs (by omega)
      have HZ := Lib.hid hz
      clear hz h1
      go_wp2_with fail
      go_ret
      exact ⟨_, rfl, HZ.out, HB.out⟩
set_option maxHeartbeats 4000000 in
theorem ldown_any (v : Value) (l : List Vw) (own : Hx) (w : World) (hv : Vs w v l) (hl : l.length ≤ 1000) :
    Calls Try.prog 14 #[v, hxV own] w fun e w' => ∃ r, e = .returned r ∧ Zs w' r (dirI l own 1) ∧ Below w.heap.size w w' := by
  obtain ⟨w1, hw1⟩ : ∃ w1, w.alloc (.cells #[.bool own.1, .int .i64 own.2.1, .int .i64 own.2.2.1, .int .i64 own.2.2.2.1, .int .i64 own.2.2.2.2.1, .int .i64 own.2.2.2.2.2] 24) = w1 := ⟨_, rfl⟩
  have hb0 : Below w.heap.size w w1 := hw1 ▸ (Below.refl _ w).alloc (Nat.le_refl _) _
  have ov : Own6 w1 w.heap.size own.1 own.2.1 own.2.2.1 own.2.2.2.1 own.2.2.2.2.1 own.2.2.2.2.2 := hw1 ▸ own6_alloc w own.1 own.2.1 own.2.2.1 own.2.2.2.1 own.2.2.2.2.1 own.2.2.2.2.2 24 w.heap.size rfl
  have C := Lib.hid (lupw_any v l own 1 (by decide) w1 (hv.below hb0) hl)
  have hln : (vordL (dirL l own 1)).length ≤ 1000 := Nat.le_trans (vordD_le l own 1) hl
  have HLN := Lib.hid hln
  have HB0 := Lib.hid hb0
  have HW1 := Lib.hid hw1
  have HO := Lib.hid ov
  obtain ⟨a, c, rfl⟩ := hv.form
  clear hv hb0 hw1 ov hln
  go_enter Try.func14, Try.ntmps14
  go_upto_region 1 with (fail)
  rw [HW1.out]
  obtain ⟨⟨q0, q1, q2, q3, q4, q5⟩, _⟩ := HO.out
  go_wp2_with fail
  refine C.out.mono ?_
  rintro e w2 ⟨r, rfl, hz, hb⟩
  have HZ := Lib.hid hz
  have HB := Lib.hid (HB0.out.trans (hb.mono HB0.out.size))
  clear hz hb q0 q1 q2 q3 q4 q5
  go_wp2_with fail
  refine (lids_any _ _ _ HZ.out HLN.out).mono ?_
  rintro e w3 ⟨r3, rfl, hz, hb⟩
  have HZ3 := Lib.hid hz
  have HB3 := Lib.hid (HB.out.trans (hb.mono HB.out.size))
  clear hz hb
  go_wp2_with fail
  go_ret
  exact ⟨_, rfl, HZ3.out, HB3.out⟩
set_option maxHeartbeats 4000000 in
theorem lups_any (v : Value) (l : List Vw) (own : Hx) (w : World) (hv : Vs w v l) (hl : l.length ≤ 1000) :
    Calls Try.prog 16 #[v, hxV own] w fun e w' => ∃ r, e = .returned r ∧ Zs w' r (dirI l own 2) ∧ Below w.heap.size w w' := by
  obtain ⟨w1, hw1⟩ : ∃ w1, w.alloc (.cells #[.bool own.1, .int .i64 own.2.1, .int .i64 own.2.2.1, .int .i64 own.2.2.2.1, .int .i64 own.2.2.2.2.1, .int .i64 own.2.2.2.2.2] 24) = w1 := ⟨_, rfl⟩
  have hb0 : Below w.heap.size w w1 := hw1 ▸ (Below.refl _ w).alloc (Nat.le_refl _) _
  have ov : Own6 w1 w.heap.size own.1 own.2.1 own.2.2.1 own.2.2.2.1 own.2.2.2.2.1 own.2.2.2.2.2 := hw1 ▸ own6_alloc w own.1 own.2.1 own.2.2.1 own.2.2.2.1 own.2.2.2.2.1 own.2.2.2.2.2 24 w.heap.size rfl
  have C := Lib.hid (lupw_any v l own 2 (by decide) w1 (hv.below hb0) hl)
  have hln : (vordL (dirL l own 2)).length ≤ 1000 := Nat.le_trans (vordD_le l own 2) hl
  have HLN := Lib.hid hln
  have HB0 := Lib.hid hb0
  have HW1 := Lib.hid hw1
  have HO := Lib.hid ov
  obtain ⟨a, c, rfl⟩ := hv.form
  clear hv hb0 hw1 ov hln
  go_enter Try.func16, Try.ntmps16
  go_upto_region 1 with (fail)
  rw [HW1.out]
  obtain ⟨⟨q0, q1, q2, q3, q4, q5⟩, _⟩ := HO.out
  go_wp2_with fail
  refine C.out.mono ?_
  rintro e w2 ⟨r, rfl, hz, hb⟩
  have HZ := Lib.hid hz
  have HB := Lib.hid (HB0.out.trans (hb.mono HB0.out.size))
  clear hz hb q0 q1 q2 q3 q4 q5
  go_wp2_with fail
  refine (lids_any _ _ _ HZ.out HLN.out).mono ?_
  rintro e w3 ⟨r3, rfl, hz, hb⟩
  have HZ3 := Lib.hid hz
  have HB3 := Lib.hid (HB.out.trans (hb.mono HB.out.size))
  clear hz hb
  go_wp2_with fail
  go_ret
  exact ⟨_, rfl, HZ3.out, HB3.out⟩
set_option maxHeartbeats 4000000 in
theorem lnext_any (v : Value) (l : List Vw) (own : Hx) (w : World) (hv : Vs w v l) (hl : l.length ≤ 1000) :
    Calls Try.prog 9 #[v, hxV own] w fun e w' => e = .returned (.tuple #[.int .i64 (nxtF l own).1, .bool (nxtF l own).2]) ∧ Below w.heap.size w w' := by
  obtain ⟨w1, hw1⟩ : ∃ w1, w.alloc (.cells #[.bool own.1, .int .i64 own.2.1, .int .i64 own.2.2.1, .int .i64 own.2.2.2.1, .int .i64 own.2.2.2.2.1, .int .i64 own.2.2.2.2.2] 24) = w1 := ⟨_, rfl⟩
  have hb0 : Below w.heap.size w w1 := hw1 ▸ (Below.refl _ w).alloc (Nat.le_refl _) _
  have ov : Own6 w1 w.heap.size own.1 own.2.1 own.2.2.1 own.2.2.2.1 own.2.2.2.2.1 own.2.2.2.2.2 := hw1 ▸ own6_alloc w own.1 own.2.1 own.2.2.1 own.2.2.2.1 own.2.2.2.2.1 own.2.2.2.2.2 24 w.heap.size rfl
  have C := Lib.hid (ldown_any v l own w1 (hv.below hb0) hl)
  obtain ⟨R, hR⟩ : ∃ R, dirI l own 1 = R := ⟨_, rfl⟩
  have hx : nxtF l own = (R.headD 0, !R.isEmpty) := by unfold nxtF; rw [hR]
  rw [hx]
  rw [hR] at C
  have HB0 := Lib.hid hb0
  have HW1 := Lib.hid hw1
  have HO := Lib.hid ov
  obtain ⟨a, c, rfl⟩ := hv.form
  clear hv hb0 hw1 ov hR hx
  go_enter Try.func9, Try.ntmps9
  go_upto_region 1 with (fail)
  rw [HW1.out]
  obtain ⟨⟨q0, q1, q2, q3, q4, q5⟩, _⟩ := HO.out
  go_wp2_with fail
  refine C.out.mono ?_
  rintro e w2 ⟨r, rfl, hz, hb⟩
  have HB := Lib.hid (HB0.out.trans (hb.mono HB0.out.size))
  clear hb q0 q1 q2 q3 q4 q5
  obtain ⟨a3, c3, h3, _, _, h4⟩ := Zs_open hz
  subst h3
  cases R with
  | nil =>
    clear h4 hz
    simp only [List.length_nil]
    go_wp2_with fail
    exact bodyPost_ret (v := .tuple #[.int .i64 0, .bool false]) (by simp [results, Try.results9, go_sem]) rfl ⟨rfl, HB.out⟩
  | cons x R =>
    obtain ⟨b4, off4, rfl, h5⟩ := h4 0 (by simp)
    have h6 : w2.cell? ⟨b4, off4, none⟩ = some (.int .i64 x) := h5
    obtain ⟨n, hn⟩ : ∃ n, (x :: R).length = n := ⟨_, rfl⟩
    have hn0 : (0 : Int) < (n : Int) := by rw [← hn]; simp
    have hn1 : ¬ (n : Int) = 0 := by omega
    rw [hn]
    clear h5 h4 hz hn
    go_wp2_with fail
    exact bodyPost_ret (v := .tuple #[.int .i64 x, .bool true]) (by simp [results, Try.results9, go_sem]) rfl ⟨rfl, HB.out⟩
end Go.Proofs.Ytmimgpnogjgliaa
