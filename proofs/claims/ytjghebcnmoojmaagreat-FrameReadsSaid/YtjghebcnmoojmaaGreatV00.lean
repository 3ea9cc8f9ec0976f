/- Short names for values, rows and chains of stores; no conditions. -/
import Derived.Orders
import Derived.Calls
import Derived.Below
import Derived.Lib.Hide
namespace Go.Proofs.YtjghebcnmoojmaaGreat
open Go.RowKit
theorem xh {p:Prop} (h:p):Hid p:=h
theorem xl {n:Nat}:n≤n:=Nat.le_refl n
theorem xr {n:Nat} {w:World}:Below n w w:=Below.refl n w
inductive MX where
 | xI (x:Int)
 | xJ (x:Int)
 | xQ (b i:Nat)
 | xP (g:Nat)
 | xW (n g:Nat)
 | xS
 | xT
 | xO (k x:Int) (n:Bool) (t o r d i p q s m:Int)
 | xZ
 | xB (n:Bool) (t o r d i:Int)
 | xE
 | xA (a b c d:Int) (v:Value)
 | xF
 | xH
 | xL
 | xN (k:Int)
 | xC (V:World) (g:Nat) (a:Array Value)
open MX
instance (x:Int):CoeDep MX (xI x) Value:=⟨.int .i64 x⟩
instance (x:Int):CoeDep MX (xJ x) (Option Value):=⟨some (.int .i64 x)⟩
instance (b i:Nat):CoeDep MX (xQ b i) Addr:=⟨⟨b,i,none⟩⟩
instance (g:Nat):CoeDep MX (xP g) Value:=⟨.pointer (some ⟨g,0,none⟩)⟩
instance (n g:Nat):CoeDep MX (xW n g) Value:=⟨.func (Fn.func n) #[] #[.pointer (some ⟨g,0,none⟩)]⟩
instance:CoeDep MX xS Value:=⟨.slice none 0 0⟩
instance:CoeDep MX xT Value:=⟨.string ⟨#[]⟩⟩
instance (b i:Nat):CoeDep (Nat×Nat) (b,i) Addr:=⟨⟨b,i,none⟩⟩
instance (k x:Int) (n:Bool) (t o r d i p q s m:Int):CoeDep MX (xO k x n t o r d i p q s m) (Array Value):=⟨#[.int .i64 k,.int .i64 x,.bool n,.int .i64 t,.int .i64 o,.int .i64 r,.int .i64 d,.int .i64 i,.int .i64 p,.int .i64 q,.int .i64 s,.int .i64 m]⟩
instance:CoeDep MX xZ (Array Value):=⟨#[.int .i64 0,.int .i64 0,.bool false,.int .i64 0,.int .i64 0,.int .i64 0,.int .i64 0,.int .i64 0,.int .i64 0,.int .i64 0,.int .i64 0,.int .i64 0]⟩
instance (n:Bool) (t o r d i:Int):CoeDep MX (xB n t o r d i) (Array Value):=⟨#[.bool n,.int .i64 t,.int .i64 o,.int .i64 r,.int .i64 d,.int .i64 i]⟩
instance:CoeDep MX xE (Array Value):=⟨#[.bool false,.int .i64 0,.int .i64 0,.int .i64 0,.int .i64 0,.int .i64 0]⟩
instance (a b c d:Int) (v:Value):CoeDep MX (xA a b c d v) (Array Value):=⟨#[.int .i64 a,.int .i64 b,.int .i64 c,.int .i64 d,v]⟩
instance:CoeDep MX xF (Array Value):=⟨#[.int .i64 0,.int .i64 0,.int .i64 0,.int .i64 0,.slice none 0 0]⟩
instance:CoeDep MX xH (Array Value):=⟨#[.int .i64 0,.int .i64 0,.int .i64 0,.int .i64 0,.string ⟨#[]⟩]⟩
instance:CoeDep MX xL (Array Value):=⟨#[.int .i64 0,.int .i64 0,.slice none 0 0,.int .i64 0,.slice none 0 0,.slice none 0 0,.int .i64 0,.int .i64 0,.int .i64 0,.int .i64 0,.string ⟨#[]⟩]⟩
instance (k:Int):CoeDep MX (xN k) (Array Value):=⟨#[.int .i64 k,.int .i64 0,.slice none 0 0,.int .i64 0,.slice none 0 0,.slice none 0 0,.int .i64 0,.int .i64 0,.int .i64 0,.int .i64 0,.string ⟨#[]⟩]⟩
instance (V:World) (g:Nat) (a0 a1:Value):CoeDep MX (xC V g #[a0,a1]) World:=⟨(V.setCell ⟨g,0,none⟩ a0).setCell ⟨g,1,none⟩ a1⟩
theorem xC2 {B g:Nat} {u V:World} {a0 a1:Value} (h:Below B u V) (hg:B≤g):Below B u ((V.setCell ⟨g,0,none⟩ a0).setCell ⟨g,1,none⟩ a1):=(h.setCell (p:=⟨g,0,none⟩) hg _).setCell (p:=⟨g,1,none⟩) hg _
instance (V:World) (g:Nat) (a0 a1 a2:Value):CoeDep MX (xC V g #[a0,a1,a2]) World:=⟨((V.setCell ⟨g,0,none⟩ a0).setCell ⟨g,1,none⟩ a1).setCell ⟨g,2,none⟩ a2⟩
theorem xC3 {B g:Nat} {u V:World} {a0 a1 a2:Value} (h:Below B u V) (hg:B≤g):Below B u (((V.setCell ⟨g,0,none⟩ a0).setCell ⟨g,1,none⟩ a1).setCell ⟨g,2,none⟩ a2):=((h.setCell (p:=⟨g,0,none⟩) hg _).setCell (p:=⟨g,1,none⟩) hg _).setCell (p:=⟨g,2,none⟩) hg _
instance (V:World) (g:Nat) (a0 a1 a2 a3:Value):CoeDep MX (xC V g #[a0,a1,a2,a3]) World:=⟨(((V.setCell ⟨g,0,none⟩ a0).setCell ⟨g,1,none⟩ a1).setCell ⟨g,2,none⟩ a2).setCell ⟨g,3,none⟩ a3⟩
theorem xC4 {B g:Nat} {u V:World} {a0 a1 a2 a3:Value} (h:Below B u V) (hg:B≤g):Below B u ((((V.setCell ⟨g,0,none⟩ a0).setCell ⟨g,1,none⟩ a1).setCell ⟨g,2,none⟩ a2).setCell ⟨g,3,none⟩ a3):=(((h.setCell (p:=⟨g,0,none⟩) hg _).setCell (p:=⟨g,1,none⟩) hg _).setCell (p:=⟨g,2,none⟩) hg _).setCell (p:=⟨g,3,none⟩) hg _
instance (V:World) (g:Nat) (a0 a1 a2 a3 a4:Value):CoeDep MX (xC V g #[a0,a1,a2,a3,a4]) World:=⟨((((V.setCell ⟨g,0,none⟩ a0).setCell ⟨g,1,none⟩ a1).setCell ⟨g,2,none⟩ a2).setCell ⟨g,3,none⟩ a3).setCell ⟨g,4,none⟩ a4⟩
theorem xC5 {B g:Nat} {u V:World} {a0 a1 a2 a3 a4:Value} (h:Below B u V) (hg:B≤g):Below B u (((((V.setCell ⟨g,0,none⟩ a0).setCell ⟨g,1,none⟩ a1).setCell ⟨g,2,none⟩ a2).setCell ⟨g,3,none⟩ a3).setCell ⟨g,4,none⟩ a4):=((((h.setCell (p:=⟨g,0,none⟩) hg _).setCell (p:=⟨g,1,none⟩) hg _).setCell (p:=⟨g,2,none⟩) hg _).setCell (p:=⟨g,3,none⟩) hg _).setCell (p:=⟨g,4,none⟩) hg _
instance (V:World) (g:Nat) (a0 a1 a2 a3 a4 a5:Value):CoeDep MX (xC V g #[a0,a1,a2,a3,a4,a5]) World:=⟨(((((V.setCell ⟨g,0,none⟩ a0).setCell ⟨g,1,none⟩ a1).setCell ⟨g,2,none⟩ a2).setCell ⟨g,3,none⟩ a3).setCell ⟨g,4,none⟩ a4).setCell ⟨g,5,none⟩ a5⟩
theorem xC6 {B g:Nat} {u V:World} {a0 a1 a2 a3 a4 a5:Value} (h:Below B u V) (hg:B≤g):Below B u ((((((V.setCell ⟨g,0,none⟩ a0).setCell ⟨g,1,none⟩ a1).setCell ⟨g,2,none⟩ a2).setCell ⟨g,3,none⟩ a3).setCell ⟨g,4,none⟩ a4).setCell ⟨g,5,none⟩ a5):=(((((h.setCell (p:=⟨g,0,none⟩) hg _).setCell (p:=⟨g,1,none⟩) hg _).setCell (p:=⟨g,2,none⟩) hg _).setCell (p:=⟨g,3,none⟩) hg _).setCell (p:=⟨g,4,none⟩) hg _).setCell (p:=⟨g,5,none⟩) hg _
instance (V:World) (g:Nat) (a0 a1 a2 a3 a4 a5 a6:Value):CoeDep MX (xC V g #[a0,a1,a2,a3,a4,a5,a6]) World:=⟨((((((V.setCell ⟨g,0,none⟩ a0).setCell ⟨g,1,none⟩ a1).setCell ⟨g,2,none⟩ a2).setCell ⟨g,3,none⟩ a3).setCell ⟨g,4,none⟩ a4).setCell ⟨g,5,none⟩ a5).setCell ⟨g,6,none⟩ a6⟩
theorem xC7 {B g:Nat} {u V:World} {a0 a1 a2 a3 a4 a5 a6:Value} (h:Below B u V) (hg:B≤g):Below B u (((((((V.setCell ⟨g,0,none⟩ a0).setCell ⟨g,1,none⟩ a1).setCell ⟨g,2,none⟩ a2).setCell ⟨g,3,none⟩ a3).setCell ⟨g,4,none⟩ a4).setCell ⟨g,5,none⟩ a5).setCell ⟨g,6,none⟩ a6):=((((((h.setCell (p:=⟨g,0,none⟩) hg _).setCell (p:=⟨g,1,none⟩) hg _).setCell (p:=⟨g,2,none⟩) hg _).setCell (p:=⟨g,3,none⟩) hg _).setCell (p:=⟨g,4,none⟩) hg _).setCell (p:=⟨g,5,none⟩) hg _).setCell (p:=⟨g,6,none⟩) hg _
instance (V:World) (g:Nat) (a0 a1 a2 a3 a4 a5 a6 a7:Value):CoeDep MX (xC V g #[a0,a1,a2,a3,a4,a5,a6,a7]) World:=⟨(((((((V.setCell ⟨g,0,none⟩ a0).setCell ⟨g,1,none⟩ a1).setCell ⟨g,2,none⟩ a2).setCell ⟨g,3,none⟩ a3).setCell ⟨g,4,none⟩ a4).setCell ⟨g,5,none⟩ a5).setCell ⟨g,6,none⟩ a6).setCell ⟨g,7,none⟩ a7⟩
theorem xC8 {B g:Nat} {u V:World} {a0 a1 a2 a3 a4 a5 a6 a7:Value} (h:Below B u V) (hg:B≤g):Below B u ((((((((V.setCell ⟨g,0,none⟩ a0).setCell ⟨g,1,none⟩ a1).setCell ⟨g,2,none⟩ a2).setCell ⟨g,3,none⟩ a3).setCell ⟨g,4,none⟩ a4).setCell ⟨g,5,none⟩ a5).setCell ⟨g,6,none⟩ a6).setCell ⟨g,7,none⟩ a7):=(((((((h.setCell (p:=⟨g,0,none⟩) hg _).setCell (p:=⟨g,1,none⟩) hg _).setCell (p:=⟨g,2,none⟩) hg _).setCell (p:=⟨g,3,none⟩) hg _).setCell (p:=⟨g,4,none⟩) hg _).setCell (p:=⟨g,5,none⟩) hg _).setCell (p:=⟨g,6,none⟩) hg _).setCell (p:=⟨g,7,none⟩) hg _
instance (V:World) (g:Nat) (a0 a1 a2 a3 a4 a5 a6 a7 a8:Value):CoeDep MX (xC V g #[a0,a1,a2,a3,a4,a5,a6,a7,a8]) World:=⟨((((((((V.setCell ⟨g,0,none⟩ a0).setCell ⟨g,1,none⟩ a1).setCell ⟨g,2,none⟩ a2).setCell ⟨g,3,none⟩ a3).setCell ⟨g,4,none⟩ a4).setCell ⟨g,5,none⟩ a5).setCell ⟨g,6,none⟩ a6).setCell ⟨g,7,none⟩ a7).setCell ⟨g,8,none⟩ a8⟩
theorem xC9 {B g:Nat} {u V:World} {a0 a1 a2 a3 a4 a5 a6 a7 a8:Value} (h:Below B u V) (hg:B≤g):Below B u (((((((((V.setCell ⟨g,0,none⟩ a0).setCell ⟨g,1,none⟩ a1).setCell ⟨g,2,none⟩ a2).setCell ⟨g,3,none⟩ a3).setCell ⟨g,4,none⟩ a4).setCell ⟨g,5,none⟩ a5).setCell ⟨g,6,none⟩ a6).setCell ⟨g,7,none⟩ a7).setCell ⟨g,8,none⟩ a8):=((((((((h.setCell (p:=⟨g,0,none⟩) hg _).setCell (p:=⟨g,1,none⟩) hg _).setCell (p:=⟨g,2,none⟩) hg _).setCell (p:=⟨g,3,none⟩) hg _).setCell (p:=⟨g,4,none⟩) hg _).setCell (p:=⟨g,5,none⟩) hg _).setCell (p:=⟨g,6,none⟩) hg _).setCell (p:=⟨g,7,none⟩) hg _).setCell (p:=⟨g,8,none⟩) hg _
instance (V:World) (g:Nat) (a0 a1 a2 a3 a4 a5 a6 a7 a8 a9:Value):CoeDep MX (xC V g #[a0,a1,a2,a3,a4,a5,a6,a7,a8,a9]) World:=⟨(((((((((V.setCell ⟨g,0,none⟩ a0).setCell ⟨g,1,none⟩ a1).setCell ⟨g,2,none⟩ a2).setCell ⟨g,3,none⟩ a3).setCell ⟨g,4,none⟩ a4).setCell ⟨g,5,none⟩ a5).setCell ⟨g,6,none⟩ a6).setCell ⟨g,7,none⟩ a7).setCell ⟨g,8,none⟩ a8).setCell ⟨g,9,none⟩ a9⟩
theorem xC10 {B g:Nat} {u V:World} {a0 a1 a2 a3 a4 a5 a6 a7 a8 a9:Value} (h:Below B u V) (hg:B≤g):Below B u ((((((((((V.setCell ⟨g,0,none⟩ a0).setCell ⟨g,1,none⟩ a1).setCell ⟨g,2,none⟩ a2).setCell ⟨g,3,none⟩ a3).setCell ⟨g,4,none⟩ a4).setCell ⟨g,5,none⟩ a5).setCell ⟨g,6,none⟩ a6).setCell ⟨g,7,none⟩ a7).setCell ⟨g,8,none⟩ a8).setCell ⟨g,9,none⟩ a9):=(((((((((h.setCell (p:=⟨g,0,none⟩) hg _).setCell (p:=⟨g,1,none⟩) hg _).setCell (p:=⟨g,2,none⟩) hg _).setCell (p:=⟨g,3,none⟩) hg _).setCell (p:=⟨g,4,none⟩) hg _).setCell (p:=⟨g,5,none⟩) hg _).setCell (p:=⟨g,6,none⟩) hg _).setCell (p:=⟨g,7,none⟩) hg _).setCell (p:=⟨g,8,none⟩) hg _).setCell (p:=⟨g,9,none⟩) hg _
instance (V:World) (g:Nat) (a0 a1 a2 a3 a4 a5 a6 a7 a8 a9 a10:Value):CoeDep MX (xC V g #[a0,a1,a2,a3,a4,a5,a6,a7,a8,a9,a10]) World:=⟨((((((((((V.setCell ⟨g,0,none⟩ a0).setCell ⟨g,1,none⟩ a1).setCell ⟨g,2,none⟩ a2).setCell ⟨g,3,none⟩ a3).setCell ⟨g,4,none⟩ a4).setCell ⟨g,5,none⟩ a5).setCell ⟨g,6,none⟩ a6).setCell ⟨g,7,none⟩ a7).setCell ⟨g,8,none⟩ a8).setCell ⟨g,9,none⟩ a9).setCell ⟨g,10,none⟩ a10⟩
theorem xC11 {B g:Nat} {u V:World} {a0 a1 a2 a3 a4 a5 a6 a7 a8 a9 a10:Value} (h:Below B u V) (hg:B≤g):Below B u (((((((((((V.setCell ⟨g,0,none⟩ a0).setCell ⟨g,1,none⟩ a1).setCell ⟨g,2,none⟩ a2).setCell ⟨g,3,none⟩ a3).setCell ⟨g,4,none⟩ a4).setCell ⟨g,5,none⟩ a5).setCell ⟨g,6,none⟩ a6).setCell ⟨g,7,none⟩ a7).setCell ⟨g,8,none⟩ a8).setCell ⟨g,9,none⟩ a9).setCell ⟨g,10,none⟩ a10):=((((((((((h.setCell (p:=⟨g,0,none⟩) hg _).setCell (p:=⟨g,1,none⟩) hg _).setCell (p:=⟨g,2,none⟩) hg _).setCell (p:=⟨g,3,none⟩) hg _).setCell (p:=⟨g,4,none⟩) hg _).setCell (p:=⟨g,5,none⟩) hg _).setCell (p:=⟨g,6,none⟩) hg _).setCell (p:=⟨g,7,none⟩) hg _).setCell (p:=⟨g,8,none⟩) hg _).setCell (p:=⟨g,9,none⟩) hg _).setCell (p:=⟨g,10,none⟩) hg _
instance (V:World) (g:Nat) (a0 a1 a2 a3 a4 a5 a6 a7 a8 a9 a10 a11:Value):CoeDep MX (xC V g #[a0,a1,a2,a3,a4,a5,a6,a7,a8,a9,a10,a11]) World:=⟨(((((((((((V.setCell ⟨g,0,none⟩ a0).setCell ⟨g,1,none⟩ a1).setCell ⟨g,2,none⟩ a2).setCell ⟨g,3,none⟩ a3).setCell ⟨g,4,none⟩ a4).setCell ⟨g,5,none⟩ a5).setCell ⟨g,6,none⟩ a6).setCell ⟨g,7,none⟩ a7).setCell ⟨g,8,none⟩ a8).setCell ⟨g,9,none⟩ a9).setCell ⟨g,10,none⟩ a10).setCell ⟨g,11,none⟩ a11⟩
theorem xC12 {B g:Nat} {u V:World} {a0 a1 a2 a3 a4 a5 a6 a7 a8 a9 a10 a11:Value} (h:Below B u V) (hg:B≤g):Below B u ((((((((((((V.setCell ⟨g,0,none⟩ a0).setCell ⟨g,1,none⟩ a1).setCell ⟨g,2,none⟩ a2).setCell ⟨g,3,none⟩ a3).setCell ⟨g,4,none⟩ a4).setCell ⟨g,5,none⟩ a5).setCell ⟨g,6,none⟩ a6).setCell ⟨g,7,none⟩ a7).setCell ⟨g,8,none⟩ a8).setCell ⟨g,9,none⟩ a9).setCell ⟨g,10,none⟩ a10).setCell ⟨g,11,none⟩ a11):=(((((((((((h.setCell (p:=⟨g,0,none⟩) hg _).setCell (p:=⟨g,1,none⟩) hg _).setCell (p:=⟨g,2,none⟩) hg _).setCell (p:=⟨g,3,none⟩) hg _).setCell (p:=⟨g,4,none⟩) hg _).setCell (p:=⟨g,5,none⟩) hg _).setCell (p:=⟨g,6,none⟩) hg _).setCell (p:=⟨g,7,none⟩) hg _).setCell (p:=⟨g,8,none⟩) hg _).setCell (p:=⟨g,9,none⟩) hg _).setCell (p:=⟨g,10,none⟩) hg _).setCell (p:=⟨g,11,none⟩) hg _
instance (V:World) (g:Nat) (a0 a1 a2 a3 a4 a5 a6 a7 a8 a9 a10 a11 a12:Value):CoeDep MX (xC V g #[a0,a1,a2,a3,a4,a5,a6,a7,a8,a9,a10,a11,a12]) World:=⟨((((((((((((V.setCell ⟨g,0,none⟩ a0).setCell ⟨g,1,none⟩ a1).setCell ⟨g,2,none⟩ a2).setCell ⟨g,3,none⟩ a3).setCell ⟨g,4,none⟩ a4).setCell ⟨g,5,none⟩ a5).setCell ⟨g,6,none⟩ a6).setCell ⟨g,7,none⟩ a7).setCell ⟨g,8,none⟩ a8).setCell ⟨g,9,none⟩ a9).setCell ⟨g,10,none⟩ a10).setCell ⟨g,11,none⟩ a11).setCell ⟨g,12,none⟩ a12⟩
theorem xC13 {B g:Nat} {u V:World} {a0 a1 a2 a3 a4 a5 a6 a7 a8 a9 a10 a11 a12:Value} (h:Below B u V) (hg:B≤g):Below B u (((((((((((((V.setCell ⟨g,0,none⟩ a0).setCell ⟨g,1,none⟩ a1).setCell ⟨g,2,none⟩ a2).setCell ⟨g,3,none⟩ a3).setCell ⟨g,4,none⟩ a4).setCell ⟨g,5,none⟩ a5).setCell ⟨g,6,none⟩ a6).setCell ⟨g,7,none⟩ a7).setCell ⟨g,8,none⟩ a8).setCell ⟨g,9,none⟩ a9).setCell ⟨g,10,none⟩ a10).setCell ⟨g,11,none⟩ a11).setCell ⟨g,12,none⟩ a12):=((((((((((((h.setCell (p:=⟨g,0,none⟩) hg _).setCell (p:=⟨g,1,none⟩) hg _).setCell (p:=⟨g,2,none⟩) hg _).setCell (p:=⟨g,3,none⟩) hg _).setCell (p:=⟨g,4,none⟩) hg _).setCell (p:=⟨g,5,none⟩) hg _).setCell (p:=⟨g,6,none⟩) hg _).setCell (p:=⟨g,7,none⟩) hg _).setCell (p:=⟨g,8,none⟩) hg _).setCell (p:=⟨g,9,none⟩) hg _).setCell (p:=⟨g,10,none⟩) hg _).setCell (p:=⟨g,11,none⟩) hg _).setCell (p:=⟨g,12,none⟩) hg _
instance (V:World) (g:Nat) (a0 a1 a2 a3 a4 a5 a6 a7 a8 a9 a10 a11 a12 a13:Value):CoeDep MX (xC V g #[a0,a1,a2,a3,a4,a5,a6,a7,a8,a9,a10,a11,a12,a13]) World:=⟨(((((((((((((V.setCell ⟨g,0,none⟩ a0).setCell ⟨g,1,none⟩ a1).setCell ⟨g,2,none⟩ a2).setCell ⟨g,3,none⟩ a3).setCell ⟨g,4,none⟩ a4).setCell ⟨g,5,none⟩ a5).setCell ⟨g,6,none⟩ a6).setCell ⟨g,7,none⟩ a7).setCell ⟨g,8,none⟩ a8).setCell ⟨g,9,none⟩ a9).setCell ⟨g,10,none⟩ a10).setCell ⟨g,11,none⟩ a11).setCell ⟨g,12,none⟩ a12).setCell ⟨g,13,none⟩ a13⟩
theorem xC14 {B g:Nat} {u V:World} {a0 a1 a2 a3 a4 a5 a6 a7 a8 a9 a10 a11 a12 a13:Value} (h:Below B u V) (hg:B≤g):Below B u ((((((((((((((V.setCell ⟨g,0,none⟩ a0).setCell ⟨g,1,none⟩ a1).setCell ⟨g,2,none⟩ a2).setCell ⟨g,3,none⟩ a3).setCell ⟨g,4,none⟩ a4).setCell ⟨g,5,none⟩ a5).setCell ⟨g,6,none⟩ a6).setCell ⟨g,7,none⟩ a7).setCell ⟨g,8,none⟩ a8).setCell ⟨g,9,none⟩ a9).setCell ⟨g,10,none⟩ a10).setCell ⟨g,11,none⟩ a11).setCell ⟨g,12,none⟩ a12).setCell ⟨g,13,none⟩ a13):=(((((((((((((h.setCell (p:=⟨g,0,none⟩) hg _).setCell (p:=⟨g,1,none⟩) hg _).setCell (p:=⟨g,2,none⟩) hg _).setCell (p:=⟨g,3,none⟩) hg _).setCell (p:=⟨g,4,none⟩) hg _).setCell (p:=⟨g,5,none⟩) hg _).setCell (p:=⟨g,6,none⟩) hg _).setCell (p:=⟨g,7,none⟩) hg _).setCell (p:=⟨g,8,none⟩) hg _).setCell (p:=⟨g,9,none⟩) hg _).setCell (p:=⟨g,10,none⟩) hg _).setCell (p:=⟨g,11,none⟩) hg _).setCell (p:=⟨g,12,none⟩) hg _).setCell (p:=⟨g,13,none⟩) hg _
theorem yA {A:Act} {t:Tmp} {b c:Value} (h:A.eval (.tmp t)=b) (g:b=c:=by conv=>lhs;simp[go_sem]):A.eval (.tmp t)=c:=h.trans g
theorem yB {A:Act} {t:Tmp} {b:Value} (h:A.eval (.tmp t)=b):A.eval (.tmp t)=b:=h
end Go.Proofs.YtjghebcnmoojmaaGreat
