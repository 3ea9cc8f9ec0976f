/- An object as bytes, and how many these are. No conditions. -/
import Derived.Test.YtgcjmnjepnmaeaaObk
import Derived.Test.YtgcjmnjepnmaeaaByt
namespace Go.Proofs.Ytgcjmnjepnmaeaa
set_option maxRecDepth 100000
open Go.RowKit Go.Sort

/-- The bytes of an object. -/
def obB (k x : Int) (n : Bool) (t o r d i p q s m : Int) : List Int :=
  if k = 1 then [1, x] else if k = 2 then [2, x] ++ htB n t o r d i else if k = 3 then [3, x] ++ i8 p ++ [q, s] else [4, x] ++ htB n t o r d i ++ [m / 256, m % 256]
def obBs (k x : Int) (n : Bool) (t o r d i p q s m : Int) : List Int := if ObOk k x n t o r d i p q s m then obB k x n t o r d i p q s m else []
end Go.Proofs.Ytgcjmnjepnmaeaa

