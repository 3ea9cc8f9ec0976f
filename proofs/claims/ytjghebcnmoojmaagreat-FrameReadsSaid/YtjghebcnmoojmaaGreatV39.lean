/- What the program's four functions answer: -/
import Derived.Test.YtjghebcnmoojmaaGreatV38
set_option maxRecDepth 100000
set_option maxHeartbeats 32000000
namespace Go.Proofs.YtjghebcnmoojmaaGreat
open Go.RowKit MX
def nuS (xs:List Int)(q:Int):Nat→Int×Int
 | 0=>(q,0)
 | j+1=>(numS xs (szP j) (nuS xs q j)).2
def nuV (xs:List Int)(q:Int)(j:Nat):Int:=(numS xs (szP j) (nuS xs q j)).1
theorem zhh {xs:List Int}{q:Int}:∀{j:Nat},(∀i,i<j→pE xs q i=0)→nuS xs q j=(pP xs q j,0)
 | 0,_=>rfl
 | j+1,h=>by
  have ih:=zhh (j:=j) (fun i hi=>h i (Nat.lt_succ_of_lt hi))
  have h2:=h j (Nat.lt_succ_self j)
  show(numS xs (szP j) (nuS xs q j)).2=_
  rw[ih,numS,if_pos rfl]
  exact Prod.ext rfl h2
theorem zdZ {xs:List Int}{q:Int}{j:Nat}(h:∀i,i<j→pE xs q i=0):(nuS xs q (j+1)).2=pE xs q j∧nuV xs q j=pV xs q j:=by
 have ih:=zhh h
 refine⟨?_,?_⟩
 ·show(numS xs (szP j) (nuS xs q j)).2.2=_
  rw[ih,numS,if_pos rfl];rfl
 ·show(numS xs (szP j) (nuS xs q j)).1=_
  rw[ih,numS,if_pos rfl];rfl
theorem zg7 {xs:List Int}{q:Int}{j:Nat}(h:(nuS xs q j).2≠0):∀k,nuS xs q (j+k)=nuS xs q j
 | 0=>rfl
 | k+1=>by
  have ih:=zg7 h k
  show(numS xs (szP (j+k)) (nuS xs q (j+k))).2=_
  rw[ih,numS,if_neg h]
theorem zmE (f:Nat→Int):(∀i,i<5→f i=0)∨∃j,j<5∧(∀i,i<j→f i=0)∧f j≠0:=by
 by_cases h0:f 0=0
 ·by_cases h1:f 1=0
  ·by_cases h2:f 2=0
   ·by_cases h3:f 3=0
    ·by_cases h4:f 4=0
     ·exact .inl fun i hi=>by
       have:i=0∨i=1∨i=2∨i=3∨i=4:=by omega
       rcases this with rfl|rfl|rfl|rfl|rfl<;>assumption
     ·exact .inr ⟨4,by decide,fun i hi=>by
       have:i=0∨i=1∨i=2∨i=3:=by omega
       rcases this with rfl|rfl|rfl|rfl<;>assumption,h4⟩
    ·exact .inr ⟨3,by decide,fun i hi=>by
      have:i=0∨i=1∨i=2:=by omega
      rcases this with rfl|rfl|rfl<;>assumption,h3⟩
   ·exact .inr ⟨2,by decide,fun i hi=>by
     have:i=0∨i=1:=by omega
     rcases this with rfl|rfl<;>assumption,h2⟩
  ·exact .inr ⟨1,by decide,fun i hi=>by
    obtain rfl:i=0:=by omega
    assumption,h1⟩
 ·exact .inr ⟨0,by decide,fun i hi=>absurd hi (by omega),h0⟩
def e6S (xs:List Int)(q:Int):Int:=zai (nuS xs q 5).2 (decide (nuV xs q 4≤256))
def txS (xs:List Int)(q:Int):ByteArray×Int×Int:=zd4 xs (nuV xs q 4) ((nuS xs q 5).1,e6S xs q)
def finS (xs:List Int)(q:Int):Int ⊕ (Pk×Int):=
 if(txS xs q).2.2≠0 then .inl (txS xs q).2.2
 else if PkOk (nuV xs q 0) (nuV xs q 1) (nuV xs q 2) (nuV xs q 3) (txS xs q).1 then .inr ((nuV xs q 0,nuV xs q 1,nuV xs q 2,nuV xs q 3,(txS xs q).1),(txS xs q).2.1)else .inl 4
theorem zlp (xs:List Int)(q:Int):pkPF xs q=finS xs q:=by
 rcases zmE (pE xs q)with h|⟨j,hj,h,he⟩
 ·have a5:=zhh h
  have v0:nuV xs q 0=pV xs q 0:=(zdZ (fun i hi=>h i (by omega))).2
  have v1:nuV xs q 1=pV xs q 1:=(zdZ (fun i hi=>h i (by omega))).2
  have v2:nuV xs q 2=pV xs q 2:=(zdZ (fun i hi=>h i (by omega))).2
  have v3:nuV xs q 3=pV xs q 3:=(zdZ (fun i hi=>h i (by omega))).2
  have v4:nuV xs q 4=pV xs q 4:=(zdZ (fun i hi=>h i (by omega))).2
  rw[zfk h]
  unfold endP finS txS e6S
  rw[a5,v0,v1,v2,v3,v4]
  simp only
  by_cases k1:pV xs q 4>256
  ·rw[if_pos k1,decide_eq_false (by omega),show zai 0 false=4 from rfl,zd4,if_neg (show ¬(4:Int)=0 by decide)]
   rfl
  ·rw[if_neg k1,decide_eq_true (by omega),show zai 0 true=0 from rfl,zd4,if_pos rfl]
   simp only[zdT]
   by_cases k2:(xs.length:Int)-pP xs q 5<pV xs q 4
   ·rw[if_pos k2,if_pos k2];rfl
   ·rw[if_neg k2,if_neg k2,if_neg (not_not_intro rfl)]
 ·have h5:(nuS xs q 5).2=pE xs q j:=by
   have h1:=(zdZ h).1
   obtain⟨k,hk⟩:∃k,5=j+1+k:=⟨4-j,by omega⟩
   rw[hk,zg7 (by rw[h1];exact he),h1]
  have h6:e6S xs q=pE xs q j:=by unfold e6S zai;rw[h5,if_neg (fun h=>he h.1)]
  have h7:(txS xs q).2.2=pE xs q j:=by unfold txS zd4;rw[h6,if_neg he]
  rw[zfb hj h he,finS,h7,if_pos he]
theorem zmv {xs:List Int}{q:Int}(hx:∀x∈xs,0≤x∧x<256)(h:e6S xs q=0):(1≤(nuS xs q 5).1∧(nuS xs q 5).1≤xs.length)∧0≤nuV xs q 4∧nuV xs q 4≤65535:=by
 rcases zmE (pE xs q)with h0|⟨j,hj,h0,he⟩
 ·have a5:=zhh h0
  have v4:nuV xs q 4=pV xs q 4:=(zdZ (fun i hi=>h0 i (by omega))).2
  have:=zne h0
  have:=zlK hx q (j:=4) (by decide)
  rw[a5,v4]
  exact⟨by simp only;omega,this⟩
 ·have h5:(nuS xs q 5).2=pE xs q j:=by
   have h1:=(zdZ h0).1
   obtain⟨k,hk⟩:∃k,5=j+1+k:=⟨4-j,by omega⟩
   rw[hk,zg7 (by rw[h1];exact he),h1]
  unfold e6S zai at h
  rw[h5,if_neg (fun h=>he h.1)]at h
  exact absurd h he
theorem zf1 (xs:List Int)(q:Int)(b:Nat)(Q:Bool)(hQ:Q=true↔PkOk (nuV xs q 0) (nuV xs q 1) (nuV xs q 2) (nuV xs q 3) (txS xs q).1)(w:World)(h:Rd w b (txS xs q).2.1 (txS xs q).2.2):
  Calls Tryz.prog 120 #[xP b,.agg #[xI (nuV xs q 0),xI (nuV xs q 1),xI (nuV xs q 2),xI (nuV xs q 3),.string (txS xs q).1],.bool Q] w fun e w'=>e=.returned (.tuple #[.agg #[xI (pkR (finS xs q)).1,xI (pkR (finS xs q)).2.1,xI (pkR (finS xs q)).2.2.1,xI (pkR (finS xs q)).2.2.2.1,.string (pkR (finS xs q)).2.2.2.2],xI (pkT (finS xs q)),xI (pkE (finS xs q))])∧Onl b w w':=by
 unfold finS
 generalize txS xs q=T at*
 obtain⟨X,p,e⟩:=T
 simp only at*
 by_cases he:e=0
 ·subst he
  rw[if_neg (not_not_intro rfl)]
  cases Q with
  | true=>rw[if_pos (hQ.1 rfl)];exact zlh b _ _ _ _ X p w h
  | false=>rw[if_neg (fun h=>by cases hQ.2 h)];exact zge b _ _ _ _ X false p 0 4 w h rfl (by decide)
 ·rw[if_pos he]
  exact zge b _ _ _ _ X Q p e e w h (by simp[zai,he]) he
theorem ziQ (v:Value)(xs:List Int)(q:Int)(w:World)(hv:Bs w v xs):
  Calls Tryz.prog 97 #[v,xI q] w fun e w'=>e=.returned (.tuple #[.agg #[xI (pkR (pkPF xs q)).1,xI (pkR (pkPF xs q)).2.1,xI (pkR (pkPF xs q)).2.2.1,xI (pkR (pkPF xs q)).2.2.2.1,.string (pkR (pkPF xs q)).2.2.2.2],xI (pkT (pkPF xs q)),xI (pkE (pkPF xs q))])∧Below w.heap.size w w':=by
 obtain⟨a,l,c,rfl⟩:=zal hv
 rw[zlp]
 by_cases hq:PkOk (nuV xs q 0) (nuV xs q 1) (nuV xs q 2) (nuV xs q 3) (txS xs q).1
 ·exact znv a l c q xs w hv _ _ _ _ _ _ _ _ _ _ _ _ _ _ _ (e6S xs q) _ _ _ _ _ _ _ _ _ _ rfl rfl rfl rfl rfl _ rfl rfl rfl (zmv hv.1) (fun W=>by have h:=zcU (nuV xs q 0) (nuV xs q 1) (nuV xs q 2) (nuV xs q 3) (txS xs q).1 W;rw[show kP _ _ _ _ _=0 from if_pos hq]at h;exact h) (fun W hR=>zf1 xs q (w.heap.size+1) true ⟨fun _=>hq,fun _=>rfl⟩ W hR)
 ·exact zns a l c q xs w hv _ _ _ _ _ _ _ _ _ _ _ _ _ _ _ (e6S xs q) _ _ _ _ _ _ _ _ _ _ rfl rfl rfl rfl rfl _ rfl rfl rfl (zmv hv.1) (fun W=>by have h:=zcU (nuV xs q 0) (nuV xs q 1) (nuV xs q 2) (nuV xs q 3) (txS xs q).1 W;rw[show kP _ _ _ _ _=1 from if_neg hq]at h;exact h) (fun W hR=>zf1 xs q (w.heap.size+1) false ⟨fun h=>(by cases h),fun h=>absurd h hq⟩ W hR)
end Go.Proofs.YtjghebcnmoojmaaGreat
