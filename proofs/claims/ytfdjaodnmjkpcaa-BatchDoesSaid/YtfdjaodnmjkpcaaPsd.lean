/- What parsing a height answers, and how a height lies in memory while it is parsed. No conditions. -/
import Derived.Test.YtfdjaodnmjkpcaaDon
namespace Go.Proofs.Ytfdjaodnmjkpcaa
open Go.RowKit Go.Sort

/-- A height, a place, an error. -/
structure PR where
  n : Bool
  t : Int
  o : Int
  r : Int
  d : Int
  i : Int
  to : Int
  e : Int
def PR.v (p : PR) : Value := .tuple #[.agg #[.bool p.n, .int .i64 p.t, .int .i64 p.o, .int .i64 p.r, .int .i64 p.d, .int .i64 p.i], .int .i64 p.to, .int .i64 p.e]
def PR.no (e : Int) : PR := ⟨false, 0, 0, 0, 0, 0, 0, e⟩
def parseF (n : Bool) (t o r d : Int) (s : Int × Int × Int) : PR := if s.2.2 = 0 then (if HtOk n t o r d s.1 then ⟨n, t, o, r, d, s.1, s.2.1, 0⟩ else .no 4) else .no s.2.2
def parseS (xs : List Int) (k : Int) : PR :=
  if (shortS xs (k, 0)).1 = 0 then parseF true 0 0 0 0 (shortS xs (shortS xs (k, 0)).2)
  else if (shortS xs (k, 0)).1 = 1 then
    parseF false (longS xs (shortS xs (k, 0)).2).1 (shortS xs (longS xs (shortS xs (k, 0)).2).2).1 (shortS xs (shortS xs (longS xs (shortS xs (k, 0)).2).2).2).1
      (longS xs (shortS xs (shortS xs (longS xs (shortS xs (k, 0)).2).2).2).2).1 (shortS xs (longS xs (shortS xs (shortS xs (longS xs (shortS xs (k, 0)).2).2).2).2).2)
  else .no 4


theorem Own6.setn {w : World} {g : Nat} {n : Bool} {t o r d i : Int} (h : Own6 w g n t o r d i) (m : Bool) : Own6 (w.setCell ⟨g, 0, none⟩ (.bool m)) g m t o r d i := by
  obtain ⟨⟨h0, h1, h2, h3, h4, h5⟩, hf⟩ := h
  refine ⟨⟨?_, ?_, ?_, ?_, ?_, ?_⟩, fun k => ?_⟩ <;> simp [go_sem, h0, h1, h2, h3, h4, h5, hf]
theorem Own6.seti {w : World} {g : Nat} {n : Bool} {t o r d i : Int} (h : Own6 w g n t o r d i) (m : Int) : Own6 (w.setCell ⟨g, 5, none⟩ (.int .i64 m)) g n t o r d m := by
  obtain ⟨⟨h0, h1, h2, h3, h4, h5⟩, hf⟩ := h
  refine ⟨⟨?_, ?_, ?_, ?_, ?_, ?_⟩, fun k => ?_⟩ <;> simp [go_sem, h0, h1, h2, h3, h4, h5, hf]
theorem Own6.set {w : World} {g : Nat} {m : Bool} {x1 x2 x3 x4 x5 : Int} (h : Own6 w g m x1 x2 x3 x4 x5) (n : Bool) (t o r d i : Int) : Own6 ((((((w.setCell ⟨g, 0, none⟩ (.bool n)).setCell ⟨g, 1, none⟩ (.int .i64 t)).setCell ⟨g, 2, none⟩ (.int .i64 o)).setCell ⟨g, 3, none⟩ (.int .i64 r)).setCell ⟨g, 4, none⟩ (.int .i64 d)).setCell ⟨g, 5, none⟩ (.int .i64 i)) g n t o r d i :=
  ⟨set6 h.1 n t o r d i, fun k => by simp [go_sem, h.2]⟩

/-- What the reader answers at its end. -/
def doneP (e0 : Int) (ok : Bool) (n : Bool) (t o r d i k : Int) : PR := if needE e0 ok = 0 then ⟨n, t, o, r, d, i, k, 0⟩ else .no (needE e0 ok)
theorem done_any (b : Nat) (n : Bool) (t o r d i : Int) (ok : Bool) (k e0 : Int) (w : World) (h : Rd w b k e0) :
    Calls Try.prog 67 #[.pointer (some ⟨b, 0, none⟩), .agg #[.bool n, .int .i64 t, .int .i64 o, .int .i64 r, .int .i64 d, .int .i64 i], .bool ok] w fun e w' => e = .returned (doneP e0 ok n t o r d i k).v ∧ Onl b w w' := by
  unfold doneP
  by_cases he : needE e0 ok = 0
  · rw [if_pos he]
    have h0 : e0 = 0 := by unfold needE at he; split at he <;> omega
    subst h0
    have h1 : ok = true := by cases ok with
      | true => rfl
      | false => simp [needE] at he
    subst h1
    exact done_ok b n t o r d i k w h
  · rw [if_neg he]
    exact done_err b n t o r d i ok k e0 _ w h rfl he
#print axioms done_any
end Go.Proofs.Ytfdjaodnmjkpcaa
