/- Next, Far, Less, Within: the program's and the reference's. No conditions. -/
import Derived.Test.YteleedpiadcfjaaZba
namespace Go.Proofs.Yteleedpiadcfjaa
set_option maxRecDepth 100000
open Go.RowKit

def far (a b : Int) : Int := (b - a) % 65536
def z_nxt (a : Int) : Int := (a + 1) % 65536
def z_lessB (a b : Int) : Bool := decide (0 < far a b) && decide (far a b < 32768)
def withB (a f s : Int) : Bool := decide (far f a < s)
theorem far_bd (a b : Int) : 0 ≤ far a b ∧ far a b < 65536 := by unfold far; omega
theorem nxt_bd (a : Int) : 0 ≤ z_nxt a ∧ z_nxt a < 65536 := by unfold z_nxt; omega

def left (a : Int) : Int := a % 65536
theorem left_bd (a : Int) : 0 ≤ left a ∧ left a < 65536 := by unfold left; omega
theorem left_far (a b : Int) : left (left b - left a) = far a b := by unfold left far; omega
end Go.Proofs.Yteleedpiadcfjaa
