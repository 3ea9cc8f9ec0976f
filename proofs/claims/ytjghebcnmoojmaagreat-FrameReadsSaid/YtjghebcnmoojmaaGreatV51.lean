/- Which frames are right, as the document says it. What Parse answers of a frame. -/
import Derived.Test.YtjghebcnmoojmaaGreatV37
import Derived.Test.YtjghebcnmoojmaaGreatV50
set_option maxRecDepth 100000
set_option maxHeartbeats 32000000
namespace Go.Proofs.YtjghebcnmoojmaaGreat
open Go.RowKit MX
theorem zgT (fr ep to pe:Int)(a:Option Addr)(c:Nat)(ps:List Pt)(w:World)(h:Ps w (.slice a ps.length c) ps)(hf:∀i,i<ps.length→zaR (ps.getD i zPt))(hl:ps.length≤1000):Calls Tryz.prog 14 #[.agg (xA fr ep to pe (.slice a ps.length c))] w fun e w'=>e=.returned (.bool (decide (FrOk fr ep to pe ps)))∧Below w.heap.size w w':=by
 have OF:=xh (zav w fr ep to pe (.slice a ps.length c) 24 w.heap.size rfl)
 have HB:Hid (Below w.heap.size w (w.alloc (.cells (xA fr ep to pe (.slice a ps.length c)) 24))):=xr.alloc xl _
 have cB:=xh (zg9 fr ep to pe a c ps _ (h.below HB.out) hf hl)
 by_cases hok:FrOk fr ep to pe ps
 ·rw[decide_eq_true hok]
  have hK:frK fr ep to pe ps=0:=if_pos hok
  clear h hf hl hok
  obtain⟨⟨u0,u1,u2,u3,u4⟩,-⟩:=OF.out
  go_enter Tryz.func14,Tryz.ntmps14
  go_wp2_with fail
  refine cB.out.mono ?_
  rintro e V1 ⟨⟨a9,c9,rfl,-,-,-⟩,hb⟩
  rw[hK]
  have HB2:=xh (HB.out.trans (hb.mono HB.out.size))
  clear hb u0 u1 u2 u3 u4
  go_wp2_with fail
  go_ret
  exact⟨rfl,HB2.out⟩
 ·rw[decide_eq_false hok]
  have hK:frK fr ep to pe ps=1:=if_neg hok
  clear h hf hl hok
  obtain⟨⟨u0,u1,u2,u3,u4⟩,-⟩:=OF.out
  go_enter Tryz.func14,Tryz.ntmps14
  go_wp2_with fail
  refine cB.out.mono ?_
  rintro e V1 ⟨⟨a9,c9,rfl,-,-,-⟩,hb⟩
  rw[hK]
  have HB2:=xh (HB.out.trans (hb.mono HB.out.size))
  clear hb u0 u1 u2 u3 u4
  go_wp2_with fail
  go_ret
  exact⟨rfl,HB2.out⟩
def FrOw (w:World)(S:Nat)(v:Value)(f:Fr):Prop:=∃a c,v=.agg (xA f.fr f.ep f.to f.pe (.slice a f.ps.length c))∧PsOw w S (.slice a f.ps.length c) f.ps
def zoR (w:World)(xs:List Int)(e:Ending)(w':World):Prop:=(∃v q,e=.returned (.tuple #[v,xI q])∧((frPF xs=.inl q∧FrOw w' w.heap.size v zFr)∨∃f,frPF xs=.inr f∧q=0∧FrOw w' w.heap.size v f))∧Below w.heap.size w w'
theorem zfl {xs:List Int}{k n:Nat}(h1:1≤n)(h7:n≤7)(h:k+n≤xs.length):getS xs k n=(segN xs k n,(k:Int)+n,0):=by
 unfold getS
 rw[if_neg (by omega),if_neg (by omega)]
 rfl
end Go.Proofs.YtjghebcnmoojmaaGreat
