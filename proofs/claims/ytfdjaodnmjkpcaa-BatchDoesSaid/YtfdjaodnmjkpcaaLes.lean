/- Which height is less. No conditions. -/
import Derived.Test.YtfdjaodnmjkpcaaRht
namespace Go.Proofs.Ytfdjaodnmjkpcaa
open Go.RowKit Go.Sort

/-- The order of two rows of five. -/
def cmp5 (t o r d i t' o' r' d' i' : Int) : Int := cmpL [t, o, r, d, i] [t', o', r', d', i']
theorem cmpL_app : ∀ (xs ys us vs : List Int), xs.length = ys.length → cmpL (xs ++ us) (ys ++ vs) = if cmpL xs ys = 0 then cmpL us vs else cmpL xs ys
  | [], [], us, vs, _ => by simp [cmpL]
  | x :: xs, y :: ys, us, vs, h => by
    have ih := cmpL_app xs ys us vs (by simpa using h)
    simp only [List.cons_append, cmpL]
    by_cases h1 : x < y
    · simp [h1]
    · by_cases h2 : y < x
      · simp [h1, h2]
      · simp only [h1, h2, if_false]; exact ih
  | [], _ :: _, _, _, h => by cases h
  | _ :: _, [], _, _, h => by cases h
theorem cmpL_one (x y : Int) : cmpL [x] [y] = cmpI x y := rfl
theorem or_cmp5 (t o r d i t' o' r' d' i' : Int) : orL [ordL t o r t' o' r', cmpI d d', cmpI i i'] = cmp5 t o r d i t' o' r' d' i' := by
  have e1 : cmp5 t o r d i t' o' r' d' i' = cmpL ([t, o, r] ++ ([d] ++ [i])) ([t', o', r'] ++ ([d'] ++ [i'])) := rfl
  rw [e1, cmpL_app [t, o, r] [t', o', r'] _ _ rfl, cmpL_app [d] [d'] _ _ rfl, cmpL_one, cmpL_one]
  simp only [orL, ordL]
  by_cases h : cmpI i i' = 0
  · rw [if_pos h, h]
    rfl
  · rw [if_neg h]
    rfl
def lessB (n : Bool) (t o r d i : Int) (n' : Bool) (t' o' r' d' i' : Int) : Bool := told n t o r d i && (told n' t' o' r' d' i' && decide (cmp5 t o r d i t' o' r' d' i' < 0))

end Go.Proofs.Ytfdjaodnmjkpcaa
