/- Whether a part has something of other kinds than its own: -/
import Derived.Test.YtjghebcnmoojmaaGreatV36
set_option maxRecDepth 100000
set_option maxHeartbeats 32000000
namespace Go.Proofs.YtjghebcnmoojmaaGreat
open Go.RowKit MX MR
theorem zoV (r:RPt)(y1 b3 b4 Q:Bool)(h1:(r.be !=0)=false)(h2:((r.l1:Int) !=0)=y1)(h3:(r.bn !=0)=true)(h5:((r.l3:Int) !=0)=b3)(h6:(!eqK r.s r.d r.t r.n r.x 0 0 0 0 ⟨#[]⟩)=b4)
  (hQ:Q=true↔Imp9 y1 (r.k=1)∧Imp9 true (r.k=2)∧Imp9 b3 (r.k=3)∧Imp9 b4 (r.k=4)) (w:World):
  Calls Tryz.prog 64 #[.agg (xR r)] w fun e w'=>e=.returned (.bool Q)∧Below w.heap.size w w':=by
 have OA:=xh (zac w r 50 w.heap.size rfl)
 have HB:Hid (Below w.heap.size w (w.alloc (.cells (xR r) 50))):=xr.alloc xl _
 have hNe:∀w',(binOp .neq 48 (.agg (xA r.s r.d r.t r.n (.string r.x))) (.agg xH)).run Tryz.prog w'=.ok (.bool b4) w':=fun w'=>by rw[zlD,h6]
 have hG:=fun op x y xs ys w'=>zb5 op x y xs ys w'
 have HQ:=xh hQ
 clear h6 hQ
 obtain⟨⟨u0,u1,u2,u3,u4,u5,u6,u7,u8,u9,u10⟩,-⟩:=OA.out
 go_enter Tryz.func64,Tryz.ntmps64
 go_wp2_with fail
 go_region
 go_wp2_with fail
 have HB2:Hid (Below w.heap.size w (((w.alloc (.cells (xR r) 50)).alloc (.cells #[.bool false,.bool y1,.bool true,.bool b3,.bool b4] 129)).drew)):=(HB.out.alloc HB.out.size _).drew
 have OV:Hid (OwnT (((w.alloc (.cells (xR r) 50)).alloc (.cells #[.bool false,.bool y1,.bool true,.bool b3,.bool b4] 129)).drew) w.heap.size r):=(show OwnT ((w.alloc (.cells (xR r) 50)).alloc (.cells #[.bool false,.bool y1,.bool true,.bool b3,.bool b4] 129)) w.heap.size r from OA.out.below (xr.alloc xl _))
 generalize ((w.alloc (.cells (xR r) 50)).alloc (.cells #[.bool false,.bool y1,.bool true,.bool b3,.bool b4] 129)).drew=V at*
 clear hNe hG u0 u1 u2 u3 u4 u5 u6 u7 u8 u9 u10
 obtain⟨⟨v0,v1,v2,v3,v4,v5,v6,v7,v8,v9,v10⟩,-⟩:=OV.out
 clear v1 v2 v3 v4 v5 v6 v7 v8 v9 v10
 go_loopw [38] (fun i wr=>∃k:Int,0≤k∧k≤5∧i=xI k∧wr=V∧(1<k→Imp9 y1 (r.k=1))∧(2<k→Imp9 true (r.k=2))∧(3<k→Imp9 b3 (r.k=3))∧(4<k→Imp9 b4 (r.k=4))) (fun i _=>5-(intOf i).toNat)
 case atStart=>exact⟨0,by omega,by omega,rfl,rfl,fun h=>absurd h (by omega),fun h=>absurd h (by omega),fun h=>absurd h (by omega),fun h=>absurd h (by omega)⟩
 case round=>
  obtain⟨k,hk0,hk5,rfl,rfl,a1,a2,a3,a4⟩:=hrel
  have HA:Hid ((1<k→Imp9 y1 (r.k=1))∧(2<k→Imp9 true (r.k=2))∧(3<k→Imp9 b3 (r.k=3))∧(4<k→Imp9 b4 (r.k=4))):=⟨a1,a2,a3,a4⟩
  clear a1 a2 a3 a4
  have I0:=zhW y1 true b3 b4
  have I1:=zhi y1 true b3 b4
  have I2:=zhx y1 true b3 b4
  have I3:=zhf y1 true b3 b4
  have I4:=zh2 y1 true b3 b4
  rcases (by omega:k=0∨k=1∨k=2∨k=3∨k=4∨k=5)with rfl|rfl|rfl|rfl|rfl|rfl
  ·skip
   go_wp2_with fail
   go_roundw
   case rel=>exact⟨1,by omega,by omega,by go_num,by trivial,fun h=>HA.out.1 (by omega),fun h=>HA.out.2.1 (by omega),fun h=>HA.out.2.2.1 (by omega),fun h=>HA.out.2.2.2 (by omega)⟩
   case measure=>simp[intOf]
  ·skip
   cases y1 with
   | false=>
    go_wp2_with fail
    go_roundw
    case rel=>exact⟨2,by omega,by omega,by go_num,by trivial,fun _ h=>(by cases (show false=true from h)),fun h=>HA.out.2.1 (by omega),fun h=>HA.out.2.2.1 (by omega),fun h=>HA.out.2.2.2 (by omega)⟩
    case measure=>simp[intOf]
   | true=>
    by_cases hk:r.k=1
    ·have hk9:((1:Int) !=r.k)=false:=by simp[hk]
     have HK:Hid (r.k=1):=hk
     clear hk
     go_wp2_with fail
     go_roundw
     case rel=>exact⟨2,by omega,by omega,by go_num,by trivial,fun _ _=>HK.out,fun h=>HA.out.2.1 (by omega),fun h=>HA.out.2.2.1 (by omega),fun h=>HA.out.2.2.2 (by omega)⟩
     case measure=>simp[intOf]
    ·have hk9:((1:Int) !=r.k)=true:=by simp;omega
     have HK:Hid (¬r.k=1):=hk
     clear hk
     go_wp2_with fail
     go_ret
     obtain rfl:Q=false:=by
      cases Q with
      | false=>rfl
      | true=>exact absurd ((HQ.out.1 rfl).1 rfl) HK.out
     exact⟨rfl,HB2.out⟩
  ·skip
   by_cases hk:r.k=2
   ·have hk9:((2:Int) !=r.k)=false:=by simp[hk]
    have HK:Hid (r.k=2):=hk
    clear hk
    go_wp2_with fail
    go_roundw
    case rel=>exact⟨3,by omega,by omega,by go_num,by trivial,fun h=>HA.out.1 (by omega),fun _ _=>HK.out,fun h=>HA.out.2.2.1 (by omega),fun h=>HA.out.2.2.2 (by omega)⟩
    case measure=>simp[intOf]
   ·have hk9:((2:Int) !=r.k)=true:=by simp;omega
    have HK:Hid (¬r.k=2):=hk
    clear hk
    go_wp2_with fail
    go_ret
    obtain rfl:Q=false:=by
     cases Q with
     | false=>rfl
     | true=>exact absurd ((HQ.out.1 rfl).2.1 rfl) HK.out
    exact⟨rfl,HB2.out⟩
  ·skip
   cases b3 with
   | false=>
    go_wp2_with fail
    go_roundw
    case rel=>exact⟨4,by omega,by omega,by go_num,by trivial,fun h=>HA.out.1 (by omega),fun h=>HA.out.2.1 (by omega),fun _ h=>(by cases (show false=true from h)),fun h=>HA.out.2.2.2 (by omega)⟩
    case measure=>simp[intOf]
   | true=>
    by_cases hk:r.k=3
    ·have hk9:((3:Int) !=r.k)=false:=by simp[hk]
     have HK:Hid (r.k=3):=hk
     clear hk
     go_wp2_with fail
     go_roundw
     case rel=>exact⟨4,by omega,by omega,by go_num,by trivial,fun h=>HA.out.1 (by omega),fun h=>HA.out.2.1 (by omega),fun _ _=>HK.out,fun h=>HA.out.2.2.2 (by omega)⟩
     case measure=>simp[intOf]
    ·have hk9:((3:Int) !=r.k)=true:=by simp;omega
     have HK:Hid (¬r.k=3):=hk
     clear hk
     go_wp2_with fail
     go_ret
     obtain rfl:Q=false:=by
      cases Q with
      | false=>rfl
      | true=>exact absurd ((HQ.out.1 rfl).2.2.1 rfl) HK.out
     exact⟨rfl,HB2.out⟩
  ·skip
   cases b4 with
   | false=>
    go_wp2_with fail
    go_roundw
    case rel=>exact⟨5,by omega,by omega,by go_num,by trivial,fun h=>HA.out.1 (by omega),fun h=>HA.out.2.1 (by omega),fun h=>HA.out.2.2.1 (by omega),fun _ h=>(by cases (show false=true from h))⟩
    case measure=>simp[intOf]
   | true=>
    by_cases hk:r.k=4
    ·have hk9:((4:Int) !=r.k)=false:=by simp[hk]
     have HK:Hid (r.k=4):=hk
     clear hk
     go_wp2_with fail
     go_roundw
     case rel=>exact⟨5,by omega,by omega,by go_num,by trivial,fun h=>HA.out.1 (by omega),fun h=>HA.out.2.1 (by omega),fun h=>HA.out.2.2.1 (by omega),fun _ _=>HK.out⟩
     case measure=>simp[intOf]
    ·have hk9:((4:Int) !=r.k)=true:=by simp;omega
     have HK:Hid (¬r.k=4):=hk
     clear hk
     go_wp2_with fail
     go_ret
     obtain rfl:Q=false:=by
      cases Q with
      | false=>rfl
      | true=>exact absurd ((HQ.out.1 rfl).2.2.2 rfl) HK.out
     exact⟨rfl,HB2.out⟩
  ·skip
   go_wp2_with fail
   go_ret
   obtain rfl:Q=true:=HQ.out.2 ⟨fun h=>HA.out.1 (by omega) h,fun h=>HA.out.2.1 (by omega) h,fun h=>HA.out.2.2.1 (by omega) h,fun h=>HA.out.2.2.2 (by omega) h⟩
   exact⟨rfl,HB2.out⟩
end Go.Proofs.YtjghebcnmoojmaaGreat
