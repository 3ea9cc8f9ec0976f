/- Steps of a region that draws its order: What is parsed of a batch has the same bytes, what has bytes is parsed: Objects and batches out of bytes, as the documen -/
import Derived.Test.YtjghebcnmoojmaaGreatV11
import Derived.Test.YtjghebcnmoojmaaGreatV27
import Derived.Test.YtjghebcnmoojmaaGreatV28
import Derived.Test.YtjghebcnmoojmaaGreatV29
set_option maxRecDepth 100000
set_option maxHeartbeats 32000000
namespace Go.Proofs.YtjghebcnmoojmaaGreat
open Go.RowKit MX
section
open Go.Sort
theorem zcN {P:Program}{ops:Array Oper}{o:Oper}{a:Act}{w:World}{K:Act→World→Prop}{Q:Exit→Act→World→Prop}{E:Prop}(hg:o.guard=none)(f:FuncId)(args:Array Value)(R:Value→World→Prop)
  (hrun:(execOp a.eval o).run P w=.ok (.enter f args) w) (hc:Calls P f args w fun e w'=>∃v,e=.returned v∧R v w') (hK:∀v w',R v w'→K (a.put o.dst v) w'):
  if Region.wanted o (yielded ops a.tmps)=true then Oper.wp P o a w K Q else E:=by
 have hw:Region.wanted o (yielded ops a.tmps)=true:=by simp[Region.wanted,hg]
 rw[if_pos hw]
 unfold Oper.wp
 rw[hrun]
 exact hc.mono fun e w' ⟨v,he,hr⟩=>by subst he;exact hK v w' hr
theorem zcV {P:Program}{ρ:Operand→Value}{o:Oper}{f:FuncId}{s1 s2 s3:Operand}{T:Array TypeId}{v1 v2 v3:Value}{w:World}(ho:o.op=.call {callee:=.value (.func f),args:=#[s1,s2,s3],argTypes:=T})(hfn:ρ (.func f)=.func (.func f) #[] #[])(h1:ρ s1=v1)(h2:ρ s2=v2)(h3:ρ s3=v3)
  (hcall:(callFunc f #[v1,v2,v3]).run P w=.ok (.enter f #[v1,v2,v3]) w):
  (execOp ρ o).run P w=.ok (.enter f #[v1,v2,v3]) w:=by
 unfold execOp
 simp[ho,resolve,invoke,hfn,h1,h2,h3,go_sem,hcall]
theorem zpy (args:Array Value)(w:World):(callFunc 113 args).run Tryz.prog w=.ok (.enter 113 args) w:=by simp[go_sem]
theorem zjm {ops:Array Oper}{o:Oper}{a:Act}{W:World}{K:Act→World→Prop}{Q:Exit→Act→World→Prop}{E:Prop}(hg:o.guard=none)(s x:Operand)
  (ho:o.op=.call {callee:=.builtin .append,args:=#[s,x],argTypes:=#[43,43]}) (w1:World) (y:Ob) (hW:W=w1.alloc (.cells (xO y.k y.x y.n y.t y.o y.r y.d y.i y.p y.q y.s y.m) 63)) (S:Nat) (v:Value) (xs:List Ob)
  (hs:a.eval s=v) (hx:a.eval x=.slice (some (w1.heap.size,0)) 1 1) (hown:w1.ownsRow S 63 12 v xs.length (flat xs)) (hl:xs.length≤3000) (hS:S≤w1.heap.size)
  (hK:∀g cap w',w'.ownsRow S 63 12 (.slice (some (xQ g 0)) (xs.length+1) cap) (xs++[y]).length (flat (xs++[y]))→Below S w1 w'→K (a.put o.dst (.slice (some (xQ g 0)) (xs.length+1) cap)) w'):
  if Region.wanted o (yielded ops a.tmps)=true then Oper.wp Tryz.prog o a W K Q else E:=by
 have hw:Region.wanted o (yielded ops a.tmps)=true:=by simp[Region.wanted,hg]
 rw[if_pos hw]
 subst hW
 have hb:Below S w1 (w1.alloc (.cells (xO y.k y.x y.n y.t y.o y.r y.d y.i y.p y.q y.s y.m) 63)):=(Below.refl S w1).alloc hS _
 obtain⟨g,cap,w',hr,h2,h3,_⟩:=zkT (w1.alloc (.cells (xO y.k y.x y.n y.t y.o y.r y.d y.i y.p y.q y.s y.m) 63)) o.type S v xs (hown.alloc _) w1.heap.size y (zja w1 y _ rfl) hl (by simp;omega)
 unfold Oper.wp
 rw[zgL ho hs hx hr]
 exact hK g cap w' h2 (hb.grown h3 (by simp;omega) (fun k hk=>(hown.lt k hk).1))
def OP.ob (O:OP):Ob:=⟨O.k,O.x,O.n,O.t,O.o,O.r,O.d,O.i,O.p,O.q,O.s,O.m⟩
def zax (xs:List Int):Nat→(Int×Int)→List Ob×(Int×Int)
 | 0,u=>([],u)
 | n+1,u=>((zax xs n u).1++[(zby xs (zax xs n u).2).ob],((zby xs (zax xs n u).2).to,(zby xs (zax xs n u).2).e))
theorem zdF (xs:List Int)(u:Int×Int):∀n,(zax xs n u).1.length=n
 | 0=>rfl
 | n+1=>by rw[zax];simp[zdF xs u n]
structure BP where
 M:Int
 ys:List Ob
 to:Int
 e:Int
def BP.no (e:Int):BP:=⟨0,[],0,e⟩
def zbN (M:Int)(r:List Ob×(Int×Int)):BP:=if r.2.2=0 then(if BtOk M r.1 then⟨M,r.1,r.2.1,0⟩else .no 4)else .no r.2.2
def zcD (c:Int):Bool:=decide (1≤c∧c≤32)
def zaz (xs:List Int)(k:Int):BP:=
 zbN (numS xs 2 (k,0)).1 (zax xs (numS xs 1 (numS xs 2 (k,0)).2).1.toNat ((numS xs 1 (numS xs 2 (k,0)).2).2.1,zai (numS xs 1 (numS xs 2 (k,0)).2).2.2 (zcD (numS xs 1 (numS xs 2 (k,0)).2).1)))
theorem zem {xs:List Int}(hx:∀x∈xs,0≤x∧x<256)(u:Int×Int):0≤(numS xs 1 u).1∧(numS xs 1 u).1≤255:=by
 unfold numS
 split
 ·unfold getS
  split
  ·simp
  ·split
   ·simp
   ·have h1:=zjY _ (zbw hx u.1.toNat 1)
    have h2:zao ((xs.drop u.1.toNat).take 1).length≤256:=by
     have:((xs.drop u.1.toNat).take 1).length≤1:=by simp;omega
     have h3:((xs.drop u.1.toNat).take 1).length=0∨((xs.drop u.1.toNat).take 1).length=1:=by omega
     rcases h3 with h3|h3<;>rw[h3]<;>decide
    show 0≤segN xs u.1.toNat (1:Int).toNat∧segN xs u.1.toNat (1:Int).toNat≤255
    unfold segN
    show 0≤be ((xs.drop u.1.toNat).take 1)∧be ((xs.drop u.1.toNat).take 1)≤255
    omega
 ·simp
end
section
open Go.Sort
theorem zfm (xs:List Int)(hx:∀x∈xs,0≤x∧x<256)(K:Nat)(O:OP)(hO:zaV xs (K:Int)=O)(he:O.e=0):
  ObOk O.k O.x O.n O.t O.o O.r O.d O.i O.p O.q O.s O.m∧∃T:Nat,O.to=((K+T:Nat):Int)∧2≤T∧K+T≤xs.length∧(xs.drop K).take T=obB O.k O.x O.n O.t O.o O.r O.d O.i O.p O.q O.s O.m:=by
 obtain⟨k1,s1,e1,h1⟩:∃x y z,zab xs ((K:Int),0)=(x,y,z):=⟨_,_,_,rfl⟩
 obtain⟨x,s2,e2,h2⟩:∃x y z,zab xs (s1,e1)=(x,y,z):=⟨_,_,_,rfl⟩
 by_cases hk:kn k1=true
 ·have e:O=zbv xs k1 (x,s2,e2):=by rw[←hO];unfold zaV;simp only[h1];rw[if_pos hk,h2]
  have pos:e2=0→e1=0∧K+1<xs.length∧k1=xs.getD K 0∧x=xs.getD (K+1) 0∧s2=((K+2:Nat):Int):=by
   intro z2
   subst z2
   have z1:=zbG h2
   simp only[]at z1
   subst z1
   obtain⟨-,l1,v1,rfl⟩:=zbj h1
   rw[show((K:Int)+1)=((K+1:Nat):Int)by omega]at h2
   obtain⟨-,l2,v2,rfl⟩:=zbj h2
   exact⟨rfl,l2,v1,v2,by omega⟩
  have two:K+1<xs.length→(xs.drop K).take 2=[xs.getD K 0,xs.getD (K+1) 0]:=fun h=>zef xs K h
  have hk4:k1=1∨k1=2∨k1=3∨k1=4:=by
   simp only[kn,Bool.or_eq_true,beq_iff_eq]at hk;exact hk
  clear hk hO
  rcases hk4 with rfl|rfl|rfl|rfl
  ·have e':O=zaZ 1 x false 0 0 0 0 0 0 0 0 0 (s2,e2):=by rw[e];unfold zbv;rw[if_pos rfl]
   obtain⟨z2,hq,rfl⟩:=zcs e' he
   simp only[]at z2
   obtain⟨-,l1,v1,v2,rfl⟩:=pos z2
   refine⟨hq,2,rfl,by omega,by omega,?_⟩
   rw[zm5,two l1,←v1,←v2]
  ·obtain⟨P,hP⟩:∃P,zb4 xs (s2,e2)=P:=⟨_,rfl⟩
   have e':O=zaZ 2 x P.n P.t P.o P.r P.d P.i 0 0 0 0 (P.to,P.e):=by rw[e];unfold zbv;rw[if_neg (by decide),if_pos rfl];simp only[hP];rfl
   obtain⟨zp,hq,rfl⟩:=zcs e' he
   simp only[]at zp
   have z2:e2=0:=by
    by_cases z:e2=0
    ·exact z
    ·rw[zb4,if_neg z]at hP;rw[←hP]at zp;exact zp
   obtain⟨-,l1,v1,v2,rfl⟩:=pos z2
   subst z2
   rw[zb4,if_pos rfl]at hP
   obtain⟨-,T,hT,hl,hb⟩:=zdY xs hx (K+2) P hP zp
   refine⟨hq,2+T,by simp only[];rw[hT];omega,by omega,by omega,?_⟩
   rw[znZ,List.take_add,List.drop_drop,two l1,hb,←v1,←v2]
  ·obtain⟨p,s3,e3,h3⟩:∃x y z,zaB xs (s2,e2)=(x,y,z):=⟨_,_,_,rfl⟩
   obtain⟨q,s4,e4,h4⟩:∃x y z,zab xs (s3,e3)=(x,y,z):=⟨_,_,_,rfl⟩
   obtain⟨s,s5,e5,h5⟩:∃x y z,zab xs (s4,e4)=(x,y,z):=⟨_,_,_,rfl⟩
   have e':O=zaZ 3 x false 0 0 0 0 0 p q s 0 (s5,e5):=by rw[e];unfold zbv;rw[if_neg (by decide),if_neg (by decide),if_pos rfl];simp only[h3,h4,h5];rfl
   obtain⟨z5,hq,rfl⟩:=zcs e' he
   simp only[]at z5
   subst z5
   have z4:=zbG h5
   simp only[]at z4
   subst z4
   have z3:=zbG h4
   simp only[]at z3
   subst z3
   have z2:=zfE h3
   simp only[]at z2
   obtain⟨-,l1,v1,v2,rfl⟩:=pos z2
   subst z2
   obtain⟨-,l3,v3,rfl⟩:=zfg h3
   rw[show(((K+2:Nat):Int)+8)=((K+10:Nat):Int)by omega]at h4
   obtain⟨-,l4,v4,rfl⟩:=zbj h4
   rw[show(((K+10:Nat):Int)+1)=((K+11:Nat):Int)by omega]at h5
   obtain⟨-,l5,v5,rfl⟩:=zbj h5
   refine⟨hq,12,by simp only[];omega,by omega,by omega,?_⟩
   have b3:=zeJ hx l3
   have b4:=zef xs (K+10) (by omega)
   rw[znC,show 12=2+(8+2)from rfl,List.take_add,List.take_add,List.drop_drop,List.drop_drop,two l1,show K+(2+8)=K+10 by omega,b4,←b3,←v1,←v2,←v3,←v4,←v5]
   simp
  ·obtain⟨P,hP⟩:∃P,zb4 xs (s2,e2)=P:=⟨_,rfl⟩
   obtain⟨m,s4,e4,h4⟩:∃x y z,numS xs 2 (P.to,P.e)=(x,y,z):=⟨_,_,_,rfl⟩
   have e':O=zaZ 4 x P.n P.t P.o P.r P.d P.i 0 0 0 m (s4,e4):=by rw[e];unfold zbv;rw[if_neg (by decide),if_neg (by decide),if_neg (by decide)];simp only[hP];unfold zc3;simp only[h4]
   obtain⟨z4,hq,rfl⟩:=zcs e' he
   simp only[]at z4
   subst z4
   have zp:P.e=0:=by
    by_cases z:P.e=0
    ·exact z
    ·rw[numS,if_neg z]at h4
     simp only[Prod.mk.injEq]at h4
     exact h4.2.2
   have z2:e2=0:=by
    by_cases z:e2=0
    ·exact z
    ·rw[zb4,if_neg z]at hP;rw[←hP]at zp;exact zp
   obtain⟨-,l1,v1,v2,rfl⟩:=pos z2
   subst z2
   rw[zb4,if_pos rfl]at hP
   obtain⟨-,T,hT,hl,hb⟩:=zdY xs hx (K+2) P hP zp
   rw[hT]at h4
   obtain⟨-,l4,v4,rfl⟩:=zho h4
   obtain⟨-,bm⟩:=zjH hx l4
   refine⟨hq,2+T+2,by simp only[];omega,by omega,by omega,?_⟩
   rw[znN,List.take_add,List.take_add,List.drop_drop,List.drop_drop,two l1,hb,show K+(2+T)=K+2+T by omega,bm,←v1,←v2,←v4]
 ·have e:O=.no (zai e1 false):=by rw[←hO];unfold zaV;simp only[h1];rw[if_neg hk]
  subst e
  have:zai e1 false≠0:=by unfold zai;by_cases h:e1=0<;>simp[h]
  exact(this he).elim
theorem zfU {xs:List Int}{u:Int×Int}(h:(zby xs u).e=0):u.2=0∧zaV xs u.1=zby xs u:=by
 by_cases he:u.2=0
 ·exact⟨he,by rw[zby,if_pos he]⟩
 ·rw[zby,if_neg he]at h;exact absurd h he
theorem zgi (xs:List Int)(hx:∀x∈xs,0≤x∧x<256)(K:Nat)(e:Int):∀n,(zax xs n ((K:Int),e)).2.2=0→
  e=0∧zc8 (zax xs n ((K:Int),e)).1∧∃T:Nat,(zax xs n ((K:Int),e)).2.1=((K+T:Nat):Int)∧2*n≤T∧(0<n→K+T≤xs.length)∧(xs.drop K).take T=((zax xs n ((K:Int),e)).1.map Ob.bs).flatten
 | 0,h=>⟨h,fun i hi=>by simp[zax]at hi,0,by simp[zax],by omega,by omega,by simp[zax]⟩
 | n+1,h=>by
  rw[zax]at h ⊢
  simp only at h ⊢
  obtain⟨h1,h2⟩:=zfU h
  obtain⟨i1,i2,T,i3,i4,i5,i6⟩:=zgi xs hx K e n h1
  generalize zax xs n ((K:Int),e)=r at*
  rw[i3]at h2
  obtain⟨j1,T',j2,j3,j4,j5⟩:=zfm xs hx (K+T) _ h2 h
  generalize zby xs r.2=O at*
  refine⟨i1,fun i hi=>?_,T+T',by rw[j2];congr 1;omega,by omega,fun _=>by omega,?_⟩
  ·by_cases hl:i<r.1.length
   ·rw[show(r.1++[O.ob]).getD i z12=r.1.getD i z12 by simp[List.getD,List.getElem?_append,hl]]
    exact i2 i hl
   ·have:i=r.1.length:=by simp at hi;omega
    subst this
    rw[show(r.1++[O.ob]).getD r.1.length z12=O.ob by simp[List.getD]]
    exact j1
  ·rw[List.take_add,List.drop_drop,i6,j5,List.map_append,List.flatten_append]
   congr 1
   simp only[List.map_cons,List.map_nil,List.flatten_cons,List.flatten_nil,List.append_nil]
   exact(if_pos j1).symm
theorem zj2 (xs:List Int)(u:Int×Int):numS xs 1 u=zab xs u:=rfl
theorem zh7 (xs:List Int)(hx:∀x∈xs,0≤x∧x<256)(B:BP)(hB:zaz xs 0=B)(he:B.e=0):
  BtOk B.M B.ys∧∃T:Nat,B.to=(T:Int)∧5≤T∧T≤xs.length∧xs.take T=btB B.M B.ys:=by
 obtain⟨M,s1,e1,h1⟩:∃x y z,numS xs 2 (((0:Nat):Int),0)=(x,y,z):=⟨_,_,_,rfl⟩
 have h1':numS xs 2 (0,0)=(M,s1,e1):=h1
 obtain⟨cn,s2,e2,h2⟩:∃x y z,numS xs 1 (s1,e1)=(x,y,z):=⟨_,_,_,rfl⟩
 have hcn:0≤cn∧cn≤255:=by have:=zem hx (s1,e1);rw[h2]at this;exact this
 have e:B=zbN M (zax xs cn.toNat (s2,zai e2 (zcD cn))):=by rw[←hB];unfold zaz;simp only[h1',h2]
 clear hB
 have hlen:=zdF xs (s2,zai e2 (zcD cn)) cn.toNat
 obtain⟨e3,he3⟩:∃e3,zai e2 (zcD cn)=e3:=⟨_,rfl⟩
 rw[he3]at e hlen
 have key:(zax xs cn.toNat (s2,e3)).2.2=0∧BtOk M (zax xs cn.toNat (s2,e3)).1∧B=⟨M,(zax xs cn.toNat (s2,e3)).1,(zax xs cn.toNat (s2,e3)).2.1,0⟩:=by
  subst e
  unfold zbN at he ⊢
  by_cases h0:(zax xs cn.toNat (s2,e3)).2.2=0
  ·rw[if_pos h0]at he ⊢
   by_cases hb:BtOk M (zax xs cn.toNat (s2,e3)).1
   ·rw[if_pos hb];exact⟨h0,hb,rfl⟩
   ·rw[if_neg hb]at he;cases he
  ·rw[if_neg h0]at he;exact(h0 he).elim
 obtain⟨k1,k2,rfl⟩:=key
 have hpos:∀n,(zax xs n (s2,e3)).2.2=0→e3=0:=fun n=>by
  induction n with
  | zero=>exact id
  | succ n ih=>
   intro h
   rw[zax]at h
   exact ih (zfU h).1
 have z3:e3=0:=hpos _ k1
 subst z3
 have z2:e2=0:=by unfold zai at he3;split at he3<;>omega
 subst z2
 rw[zj2]at h2
 have z1:=zbG h2
 simp only[]at z1
 subst z1
 obtain⟨-,l1,v1,rfl⟩:=zho h1
 rw[show(((0:Nat):Int)+2)=((2:Nat):Int)by omega]at h2
 obtain⟨-,l2,v2,rfl⟩:=zbj h2
 rw[show(((2:Nat):Int)+1)=((3:Nat):Int)by omega]at k1 k2 hlen ⊢
 obtain⟨-,-,T,i3,i4,i5,i6⟩:=zgi xs hx 3 0 cn.toNat k1
 have hc1:1≤cn.toNat:=by have:=k2.2.1.1;omega
 refine⟨k2,3+T,i3,by omega,i5 (by omega),?_⟩
 obtain⟨-,b1⟩:=zjH hx l1
 have b2:=zfe xs 2 l2
 rw[←v1,List.drop_zero]at b1
 rw[show 3+T=2+(1+T)by omega,List.take_add,List.take_add,List.drop_drop,b1,b2,←v2,i6]
 unfold btB
 rw[hlen,Int.toNat_of_nonneg hcn.1]
 simp
theorem zgr (f M:List Int)(ys:List Ob)(hok:zc8 ys)(K:Nat)(hK:K=f.length):∀n,n≤ys.length→
  zax (f++((ys.map Ob.bs).flatten++M)) n ((K:Int),0)=(ys.take n,(((K+osz (ys.take n):Nat):Int),0))
 | 0,_=>by simp[zax,osz]
 | n+1,h=>by
  rw[zax,zgr f M ys hok K hK n (by omega)]
  simp only[]
  have hq:=hok n (by omega)
  have h1:=zg2 ys n (by omega)
  have h2:=zfh ys n (by omega)
  have h3:ys.take (n+1)=ys.take n++[ys.getD n z12]:=by
   rw[List.take_succ_eq_append_getElem (by omega)]
   simp[List.getD,show n<ys.length by omega]
  have e:f++((ys.map Ob.bs).flatten++M)=(f++((ys.take n).map Ob.bs).flatten)++((ys.getD n z12).bs++(((ys.drop (n+1)).map Ob.bs).flatten++M)):=by
   have h4:(ys.map Ob.bs).flatten=((ys.take (n+1)).map Ob.bs).flatten++((ys.drop (n+1)).map Ob.bs).flatten:=by
    rw[←List.flatten_append,←List.map_append,List.take_append_drop]
   rw[h4,h1]
   simp
  have hl:(f++((ys.take n).map Ob.bs).flatten).length=K+osz (ys.take n):=by rw[List.length_append,zbT,hK]
  generalize ys.getD n z12=y at*
  have hb:y.bs=obB y.k y.x y.n y.t y.o y.r y.d y.i y.p y.q y.s y.m:=if_pos hq
  have hf:=zin (f++((ys.take n).map Ob.bs).flatten) (((ys.drop (n+1)).map Ob.bs).flatten++M) (show ObOk y.k y.x y.n y.t y.o y.r y.d y.i y.p y.q y.s y.m from hq)
  rw[←hb,←e,hl]at hf
  rw[zby,if_pos rfl]
  simp only[]
  rw[hf,h3,zor]
  simp only[OP.ob,Prod.mk.injEq,true_and,and_true]
  simp[osz]
  omega
theorem ziA (f M:List Int)(N:Int)(ys:List Ob)(h:BtOk N ys):zaz (f++(btB N ys++M)) f.length=⟨N,ys,(f.length:Int)+((btB N ys).length:Int),0⟩:=by
 have hN:0≤N∧N≤65535:=h.1
 have ok:zcJ N 2:=⟨by decide,by decide,hN.1,by rw[show zao (2:Int).toNat=65536 by decide];omega⟩
 have g1:=zdx f ((ys.length:Int)::((ys.map Ob.bs).flatten++M)) ok
 rw[putB,if_pos ok,show(2:Int).toNat=2 from rfl,zf5 hN]at g1
 have e1:f++(btB N ys++M)=f++([N/256,N%256]++((ys.length:Int)::((ys.map Ob.bs).flatten++M))):=by unfold btB;simp
 have e2:f++(btB N ys++M)=(f++[N/256,N%256])++((ys.length:Int)::((ys.map Ob.bs).flatten++M)):=by unfold btB;simp
 have e3:f++(btB N ys++M)=(f++[N/256,N%256,(ys.length:Int)])++((ys.map Ob.bs).flatten++M):=by unfold btB;simp
 have g2:=zbk (f++[N/256,N%256]) ((ys.map Ob.bs).flatten++M) (ys.length:Int) (f.length+2) (by simp)
 have g3:=zgr (f++[N/256,N%256,(ys.length:Int)]) M ys h.2.2.1 (f.length+3) (by simp) ys.length xl
 rw[←e1]at g1
 rw[←e2]at g2
 rw[←e3,List.take_length]at g3
 have hlen:(btB N ys).length=3+osz ys:=by unfold btB;rw[List.length_append,zbT];rfl
 have c1:numS (f++(btB N ys++M)) 2 ((f.length:Int),0)=(N,((f.length+2:Nat):Int),0):=by
  unfold numS
  rw[if_pos rfl]
  simp only[]
  rw[g1]
  simp
 have hq:zcD (ys.length:Int)=true:=by unfold zcD;have:=h.2.1;rw[decide_eq_true (by omega)]
 unfold zaz
 simp only[c1]
 rw[zj2,g2]
 simp only[]
 rw[hq,show zai 0 true=0 from rfl,Int.toNat_natCast,show(((f.length+2:Nat):Int)+1)=((f.length+3:Nat):Int)by omega,g3]
 unfold zbN
 simp only[if_true]
 rw[if_pos h,hlen]
 congr 1
 omega
end
section
open Go.Sort
theorem zbh (k x:Int)(n:Bool)(t o r d i p q s m:Int)(u:Int×Int):zaZ k x n t o r d i p q s m u=if u.2≠0 then .no u.2 else oend k x n t o r d i p q s m u.1:=by
 unfold zaZ oend
 by_cases h:u.2=0
 ·rw[if_pos h,if_neg (not_not_intro h)]
 ·rw[if_neg h,if_pos h]
theorem zkL {xs:List Int}{k n:Int}(h:(getS xs k n).2.2≠0):(getS xs k n).1=0:=by
 unfold getS at h ⊢
 split
 ·rfl
 ·split
  ·rfl
  ·rename_i h1 h2;rw[if_neg h1,if_neg h2]at h;exact absurd rfl h
theorem zkD (k:Int):kn k=true↔¬(k<1∨k>4):=by
 unfold kn;simp;omega
theorem zd6 (xs:List Int)(q:Int):zab xs (q,0)=getS xs q 1:=by simp[zab]
theorem zdm {xs:List Int}{q e:Int}(h:e≠0):zab xs (q,e)=(0,(q,e)):=by simp[zab,h]
theorem znI (xs:List Int)(q:Int):zaB xs (q,0)=zaH xs q:=by simp[zaB]
theorem zom {xs:List Int}{q e:Int}(h:e≠0):zaB xs (q,e)=(0,(q,e)):=by simp[zaB,h]
theorem zki (xs:List Int)(n q:Int):numS xs n (q,0)=getS xs q n:=by simp[numS]
theorem zgN {xs:List Int}{n q e:Int}(h:e≠0):numS xs n (q,e)=(0,(q,e)):=by simp[numS,h]
theorem znO (xs:List Int)(x p:Int):oPF3 xs x (zaH xs p)=zez x (zaB xs (p,0)) (zab xs (zaB xs (p,0)).2) (zab xs (zab xs (zaB xs (p,0)).2).2):=by
 rw[znI]
 obtain⟨⟨a,pa,ea⟩,ha⟩:∃r,zaH xs p=r:=⟨_,rfl⟩
 rw[ha]
 unfold oPF3 zez
 simp only
 by_cases h:ea=0
 ·subst h
  rw[if_neg (by simp),zd6]
  obtain⟨⟨b,pb,eb⟩,hb⟩:∃r,getS xs pa 1=r:=⟨_,rfl⟩
  rw[hb]
  simp only
  by_cases h2:eb=0
  ·subst h2
   rw[if_neg (by simp),zd6]
   obtain⟨⟨c,pc,ec⟩,hc⟩:∃r,getS xs pb 1=r:=⟨_,rfl⟩
   rw[hc,zbh]
  ·rw[if_pos h2,zdm h2,zbh]
   simp only
   rw[if_pos h2]
 ·rw[if_pos h,zdm h,zdm h,zbh]
  simp only
  rw[if_pos h]
theorem znV (xs:List Int)(x:Int)(P:PR):oPF4 xs x P=zc3 xs x P:=by
 unfold oPF4 zc3
 rw[zbh]
 by_cases h:P.e=0
 ·rw[if_neg (not_not_intro h),h,zki]
 ·rw[if_pos h,zgN h]
  simp only
  rw[if_pos h]
theorem zoi (x:Int)(P:PR):oPFh x P=zeD x P:=by
 unfold oPFh zeD
 rw[zbh]
theorem zo4 (xs:List Int)(q:Int):oPF xs q=zaV xs q:=by
 obtain⟨⟨v,p,e⟩,h1⟩:∃r,getS xs q 1=r:=⟨_,rfl⟩
 unfold oPF zaV
 rw[zd6,h1]
 simp only
 by_cases he:e=0
 ·subst he
  rw[if_neg (by simp)]
  by_cases hk:v<1∨v>4
  ·rw[if_pos hk,if_neg (fun h=>(zkD v).1 h hk)];rfl
  ·rw[if_neg hk,if_pos ((zkD v).2 hk),zd6]
   obtain⟨⟨x,p2,e2⟩,h2⟩:∃r,getS xs p 1=r:=⟨_,rfl⟩
   rw[h2]
   unfold oPF2 zbv
   simp only
   by_cases he2:e2=0
   ·subst he2
    rw[if_neg (by simp)]
    by_cases k1:v=1
    ·rw[if_pos k1,if_pos k1,zbh];simp
    rw[if_neg k1,if_neg k1]
    by_cases k2:v=2
    ·rw[if_pos k2,if_pos k2,zoi];rfl
    rw[if_neg k2,if_neg k2]
    by_cases k3:v=3
    ·rw[if_pos k3,if_pos k3,znO]
    rw[if_neg k3,if_neg k3,znV];rfl
   ·rw[if_pos he2]
    have hn:zb4 xs (p2,e2)=⟨false,0,0,0,0,0,p2,e2⟩:=by unfold zb4;rw[if_neg he2]
    by_cases k1:v=1
    ·rw[if_pos k1,zbh];simp only;rw[if_pos he2]
    rw[if_neg k1]
    by_cases k2:v=2
    ·rw[if_pos k2,hn];unfold zeD;rw[zbh];simp only;rw[if_pos he2]
    rw[if_neg k2]
    by_cases k3:v=3
    ·rw[if_pos k3,zom he2]
     simp only
     rw[zdm he2]
     simp only
     rw[zdm he2]
     unfold zez;rw[zbh];simp only;rw[if_pos he2]
    rw[if_neg k3,hn];unfold zc3
    simp only
    rw[zgN he2,zbh];simp only;rw[if_pos he2]
 ·rw[if_pos he]
  have hv:v=0:=by have:=zkL (xs:=xs) (k:=q) (n:=1) (by rw[h1];exact he);rw[h1]at this;exact this
  rw[if_neg (fun h=>(zkD v).1 h (by omega))]
  have:zai e false=e:=by unfold zai;rw[if_neg (fun h=>he h.1)]
  rw[this]
def rbP (xs:List Int):Nat→Int→List Ob→Int ⊕ (List Ob×Int)
 | 0,q,acc=>.inr (acc,q)
 | n+1,q,acc=>if(oPF xs q).e≠0 then .inl (oPF xs q).e else rbP xs n (oPF xs q).to (acc++[(oPF xs q).ob])
def rbPF (xs:List Int)(q:Int):BP:=
 if(getS xs q 2).2.2≠0 then .no (getS xs q 2).2.2
 else if(getS xs (getS xs q 2).2.1 1).2.2≠0 then .no (getS xs (getS xs q 2).2.1 1).2.2
 else if(getS xs (getS xs q 2).2.1 1).1<1∨(getS xs (getS xs q 2).2.1 1).1>32 then .no 4
 else match rbP xs (getS xs (getS xs q 2).2.1 1).1.toNat (getS xs (getS xs q 2).2.1 1).2.1 []with
  | .inl e=>.no e
  | .inr (ys,to)=>if BtOk (getS xs q 2).1 ys then⟨(getS xs q 2).1,ys,to,0⟩else .no 4
theorem zc2 (xs:List Int)(u:Int×Int):∀n,zax xs (n+1) u=((zby xs u).ob::(zax xs n ((zby xs u).to,(zby xs u).e)).1,(zax xs n ((zby xs u).to,(zby xs u).e)).2)
 | 0=>rfl
 | n+1=>by
  have ih:=zc2 xs u n
  rw[zax,ih]
  rfl
theorem zhB {xs:List Int}{q e:Int}(h:e≠0):(zby xs (q,e)).to=q∧(zby xs (q,e)).e=e:=by
 unfold zby;rw[if_neg h];exact⟨rfl,rfl⟩
theorem zcv {xs:List Int}{q e:Int}(h:e≠0):∀n,(zax xs n (q,e)).2=(q,e)
 | 0=>rfl
 | n+1=>by rw[zc2];simp only;rw[(zhB h).1,(zhB h).2];exact zcv h n
theorem zmw (xs:List Int):∀(n:Nat) (q:Int) (acc:List Ob),rbP xs n q acc=if(zax xs n (q,0)).2.2≠0 then .inl (zax xs n (q,0)).2.2 else .inr (acc++(zax xs n (q,0)).1,(zax xs n (q,0)).2.1)
 | 0,q,acc=>by simp[rbP,zax]
 | n+1,q,acc=>by
  have hn:zby xs (q,0)=oPF xs q:=by unfold zby;rw[if_pos rfl,zo4]
  rw[rbP,zc2,hn]
  simp only
  by_cases h:(oPF xs q).e=0
  ·rw[if_neg (not_not_intro h),zmw xs n,h]
   simp
  ·rw[if_pos h,zcv h,if_pos h]
theorem zn2 (xs:List Int)(q:Int):rbPF xs q=zaz xs q:=by
 unfold rbPF zaz zbN
 rw[zki]
 obtain⟨⟨M,p,e⟩,h1⟩:∃r,getS xs q 2=r:=⟨_,rfl⟩
 rw[h1]
 simp only
 by_cases he:e=0
 ·subst he
  rw[if_neg (by simp),zki]
  obtain⟨⟨c,p2,e2⟩,h2⟩:∃r,getS xs p 1=r:=⟨_,rfl⟩
  rw[h2]
  simp only
  by_cases he2:e2=0
  ·subst he2
   rw[if_neg (by simp)]
   by_cases hc:c<1∨c>32
   ·have hk:zai 0 (zcD c)=4:=by unfold zai zcD;rw[decide_eq_false (by omega)];rfl
    rw[if_pos hc,hk,zcv (by decide)]
    rfl
   ·have hk:zai 0 (zcD c)=0:=by unfold zai zcD;rw[decide_eq_true (by omega)];rfl
    rw[if_neg hc,hk,zmw]
    by_cases hr:(zax xs c.toNat (p2,0)).2.2=0
    ·rw[if_neg (not_not_intro hr),if_pos hr];rfl
    ·rw[if_pos hr,if_neg hr]
  ·have hk:zai e2 (zcD c)=e2:=by unfold zai;rw[if_neg (fun h=>he2 h.1)]
   rw[if_pos he2,hk,zcv he2]
   simp only
   rw[if_neg he2]
 ·rw[if_pos he,zgN he]
  simp only
  have hk:zai e (zcD 0)=e:=by unfold zai;rw[if_neg (fun h=>he h.1)]
  rw[hk,zcv he]
  simp only
  rw[if_neg he]
end
section
open Go.Sort
theorem zmV (y:Ob):∀u∈y.cl,u.oneCell'=true:=by
 intro u hu
 simp only[Ob.cl,List.mem_cons,List.not_mem_nil,or_false]at hu
 rcases hu with rfl|rfl|rfl|rfl|rfl|rfl|rfl|rfl|rfl|rfl|rfl|rfl<;>rfl
theorem zm4:Tryz.prog.cellsOf 63=12:=by kernel_rfl
noncomputable def RO:RowT where
 α:=Ob
 d:=z12
 cl:=Ob.cl
 K:=12
 T:=63
 SL:=43
 zero:=.agg xZ
 bytes:=96
 hcl:=fun _=>rfl
 hK:=by decide
 hone:=zmV
 hSL:=zff
 hinfo:=zmA
 hz:=rfl
 hb:=by decide
 hc:=zm4
theorem zjW {ops:Array Oper}{rest:List Oper}{o:Oper}{a:Act}{Q:Exit→Act→World→Prop}{W:World}(hgd:o.guard=none)(s x:Operand)
  (ho:o.op=.call {callee:=.builtin .append,args:=#[s,x],argTypes:=#[43,43]}) (w:World) (y:Ob) (hW:W=w.alloc (.cells y.cl.toArray 63)) (S:Nat) (v:Value) (xs:List Ob)
  (hs:a.eval s=v) (hx:a.eval x=.slice (some (w.heap.size,0)) 1 1) (hown:w.ownsRow S 63 12 v xs.length (flat xs)) (hl:xs.length≤3000) (hS:S≤w.heap.size)
  (h:∀g cap w',w'.ownsRow S 63 12 (.slice (some (xQ g 0)) (xs.length+1) cap) (xs++[y]).length (flat (xs++[y]))→Below S w w'→wpList Tryz.prog ops Q rest (a.put o.dst (.slice (some (xQ g 0)) (xs.length+1) cap)) w'):wpList Tryz.prog ops Q (o::rest) a W:=
 zeK (R:=RO) hgd s x ho w y 63 hW S v xs hs hx hown hl hS h
theorem zfM (v:Value)(xs:List Int)(at':Int)(w:World)(hv:Bs w v xs):
  Calls Tryz.prog 59 #[v,xI at'] w fun e w'=>(∃r,e=.returned (.tuple #[.agg #[xI (rbPF xs at').M,r],xI (rbPF xs at').to,xI (rbPF xs at').e])∧w'.ownsRow w.heap.size 63 12 r (rbPF xs at').ys.length (flat (rbPF xs at').ys))∧Below w.heap.size w w':=by
 obtain⟨W1,hW1⟩:∃W1,W1=w.alloc (.cells #[xI 0,xS] 45):=⟨_,rfl⟩
 have HB:Hid (Below w.heap.size w W1):=by rw[hW1];exact xr.alloc xl _
 have OR:Hid (OwnB2 W1 w.heap.size 0 xS):=by rw[hW1];exact zbt w 0 xS 45 w.heap.size rfl
 have HV:=xh (zaa hv HB.out)
 have hs1:W1.heap.size=w.heap.size+1:=by rw[hW1];simp
 have HX:=xh hv.1
 obtain⟨⟨g1,g2,g3⟩,hg⟩:∃g,getS xs at' 2=g:=⟨_,rfl⟩
 have c1:=xh (zaF v xs at' 2 W1 HV.out)
 rw[hg]at c1
 simp only[tri]at c1
 obtain⟨⟨m1,m2,m3⟩,hm⟩:∃m,getS xs g2 1=m:=⟨_,rfl⟩
 have c2:=xh (zaF v xs g2 1 W1 HV.out)
 rw[hm]at c2
 simp only[tri]at c2
 have HG:=xh hg
 have HMM:=xh hm
 clear hv hg hm
 obtain⟨⟨r0,r1⟩,rf⟩:=OR.out
 go_enter Tryz.func59,Tryz.ntmps59
 go_upto_region 1 with (fail)
 rw[←hW1]
 have HS1:=xh hs1
 clear hW1 hs1
 go_wp2_with fail
 refine c1.out.mono ?_
 rintro e w1 ⟨rfl,rfl⟩
 by_cases h3:g3=0
 ·have h3':(g3 !=0)=false:=by simpa using h3
  have H3:=xh h3
  clear h3
  go_wp2_with fail
  refine c2.out.mono ?_
  rintro e w1 ⟨rfl,rfl⟩
  by_cases h4:m3=0
  ·have h4':(m3 !=0)=false:=by simpa using h4
   have H4:=xh h4
   clear h4
   have HPR:Hid (rbPF xs at'=if m1<1∨m1>32 then .no 4 else match rbP xs m1.toNat m2 []with
    | .inl e=>.no e
    | .inr (ys,to)=>if BtOk g1 ys then⟨g1,ys,to,0⟩else .no 4):=by
    show _=_
    unfold rbPF
    simp only[HG.out,HMM.out]
    rw[if_neg (by rw[H3.out];simp),if_neg (by rw[H4.out];simp)]
    all_goals rfl
   by_cases hc1:m1<1
   ·have hd1:decide (m1<1)=true:=decide_eq_true hc1
    have HC:=xh hc1
    clear hc1
    go_wp2_with fail
    have HFF:rbPF xs at'=BP.no 4:=by rw[HPR.out,if_pos (.inl HC.out)]
    have hs:=(OR.out.set 0 xS).1
    have hbs:=zbb (b:=w.heap.size) HB.out xl 0 xS
    generalize (xC W1 w.heap.size #[xI 0,xS]:World)=W5 at*
    obtain⟨s0_,s1_⟩:=hs
    exact bodyPost_ret (v:=.tuple #[.agg #[xI 0,xS],xI 0,xI 4]) (by simp[results,Tryz.results59,go_sem,s0_,s1_]) rfl ⟨⟨_,by rw[HFF];rfl,by rw[HFF];exact zat (R:=RO) _ _⟩,hbs⟩
   ·have hd1:decide (m1<1)=false:=decide_eq_false hc1
    by_cases hc2:m1>32
    ·have hd2:decide (m1>32)=true:=decide_eq_true hc2
     have HC:=xh hc2
     clear hc1 hc2
     go_wp2_with fail
     have HFF:rbPF xs at'=BP.no 4:=by rw[HPR.out,if_pos (.inr HC.out)]
     have hs:=(OR.out.set 0 xS).1
     have hbs:=zbb (b:=w.heap.size) HB.out xl 0 xS
     generalize (xC W1 w.heap.size #[xI 0,xS]:World)=W5 at*
     obtain⟨s0_,s1_⟩:=hs
     exact bodyPost_ret (v:=.tuple #[.agg #[xI 0,xS],xI 0,xI 4]) (by simp[results,Tryz.results59,go_sem,s0_,s1_]) rfl ⟨⟨_,by rw[HFF];rfl,by rw[HFF];exact zat (R:=RO) _ _⟩,hbs⟩
    ·have hd2:decide (m1>32)=false:=decide_eq_false hc2
     have hV0:∃V0,V0=W1.alloc (.cells #[xI g1,xS] 45):=⟨_,rfl⟩
     obtain⟨V0,hV0⟩:=hV0
     obtain⟨g0,hg0⟩:∃g0,W1.heap.size=g0:=⟨_,rfl⟩
     have HG0:=xh hg0
     have HAL:Hid (Below g0 W1 V0):=by rw[←hg0,hV0];exact(Below.refl _ W1).alloc xl _
     have HOB:=xh (show OwnB2 V0 g0 g1 xS by rw[hV0];exact zbt W1 g1 xS 45 g0 hg0.symm)
     have HGS:Hid (V0.heap.size=g0+1):=by show _=_;rw[←hg0,hV0];simp
     have HLT:Hid (w.heap.size<g0):=by show _<_;have:=HS1.out;omega
     have hm0:0≤m1:=by omega
     have hm2:m1≤32:=by omega
     have HNC:Hid (¬(m1<1∨m1>32)):=fun h=>by omega
     clear hc1 hc2
     go_wp2_with fail
     rw[←hV0]
     clear hV0 hg0 r0 r1 rf c2 c1 hd1 hd2
     go_loopw [1,11] (fun p i wr=>∃(k:Nat) (q:Int) (acc:List Ob) (u:Value),(k:Int)≤m1∧i=xI k∧p=xI q∧OwnB2 wr g0 g1 u∧wr.ownsRow (g0+1) 63 12 u acc.length (flat acc)∧acc.length≤k∧rbP xs (m1.toNat-k) q acc=rbP xs m1.toNat m2 []∧g0+1≤wr.heap.size∧Below g0 W1 wr) (fun _ i _=>m1.toNat-(intOf i).toNat)
     case atStart=>exact⟨0,m2,[],_,hm0,rfl,rfl,HOB.out,zat (R:=RO) _ _,Nat.le_refl _,rfl,Nat.le_of_eq HGS.out.symm,HAL.out⟩
     case round=>
      obtain⟨k,q,acc,u,hk,rfl,rfl,hob,hrow,hal,hec,hsz,hbel⟩:=hrel
      obtain⟨a3,c3,rfl⟩:=zap hrow
      have HRR:=xh (OR.out.low HLT.out hbel)
      have HVW:Hid (Bs wr v xs):=zaa HV.out (by rw[HG0.out];exact hbel)
      have HBW:Hid (Below w.heap.size w wr):=HB.out.trans (hbel.mono (Nat.le_of_lt HLT.out))
      have HW:=xh hbel
      have OO:=xh hob
      have OW:=xh hrow
      have HAC:=xh hal
      have HEC:=xh hec
      have HSW:=xh hsz
      clear hbel hob hrow hal hec hsz
      obtain⟨⟨z0,z1⟩,zf⟩:=HRR.out
      obtain⟨⟨o0,o1⟩,of⟩:=OO.out
      by_cases hlt:(k:Int)<m1
      ·obtain⟨⟨ok,ox,on,ot,oo,oR,od,oi,op,oq,os,om,oto,oe⟩,hp⟩:∃p,oPF xs q=p:=⟨_,rfl⟩
       have d1:=xh (zgO v xs q wr HVW.out)
       rw[hp]at d1
       simp only[OP.v]at d1
       obtain⟨y,hy⟩:∃y:Ob,y=⟨ok,ox,on,ot,oo,oR,od,oi,op,oq,os,om⟩:=⟨_,rfl⟩
       have HST:Hid (rbP xs (m1.toNat-k) q acc=if oe≠0 then .inl oe else rbP xs (m1.toNat-(k+1)) oto (acc++[y])):=by
        show _=_
        rw[show m1.toNat-k=(m1.toNat-(k+1))+1 by omega]
        rw[rbP]
        simp only[hp,OP.ob,hy]
       clear hp
       go_wp2_with fail
       refine d1.out.mono ?_
       rintro e w5 ⟨rfl,hb5⟩
       have HRR5:=xh (HRR.out.below hb5)
       have OO5:=xh (OO.out.below hb5)
       have OW5:=xh (zae OW.out hb5)
       have HW5:=xh (HW.out.trans (hb5.mono (Nat.le_trans (Nat.le_succ _) HSW.out)))
       have HBW5:=xh (HBW.out.trans (hb5.mono HBW.out.size))
       have HSW5:Hid (g0+1≤w5.heap.size):=Nat.le_trans HSW.out hb5.size
       clear hb5 z0 z1 zf o0 o1 of d1
       have hal:=(Below.refl w5.heap.size w5).alloc xl (.cells (xO ok ox on ot oo oR od oi op oq os om) 63)
       have HRR6:=xh (HRR5.out.below hal)
       have OO6:=xh (OO5.out.below hal)
       have OW6:=xh (zae OW5.out hal)
       have HW6:=xh (HW5.out.trans (hal.mono (Nat.le_trans (Nat.le_succ _) HSW5.out)))
       have HBW6:=xh (HBW5.out.trans (hal.mono HBW5.out.size))
       have HSW6:Hid (g0+1≤(w5.alloc (.cells (xO ok ox on ot oo oR od oi op oq os om) 63)).heap.size):=Nat.le_trans HSW5.out hal.size
       clear hal
       obtain⟨⟨z0,z1⟩,zf⟩:=HRR6.out
       obtain⟨⟨o0,o1⟩,of⟩:=OO6.out
       by_cases h5:oe=0
       ·have h5':(oe !=0)=false:=by simpa using h5
        have H5:=xh h5
        have HY:Hid (y=⟨ok,ox,on,ot,oo,oR,od,oi,op,oq,os,om⟩):=hy
        clear h5 hy
        go_wp2_with (at_builtin;refine zjW rfl (.tmp 63) (.tmp 65) rfl (w5.alloc (.cells (xO ok ox on ot oo oR od oi op oq os om) 63)) y (by rw[HY.out];rfl) (g0+1) (.slice a3 acc.length c3) acc rfl (by simp[go_sem]) OW6.out (by have:=HAC.out;omega) HSW6.out ?_;intro gh ch wh hrow2 hbel2;have OW2:=xh hrow2;have HB2:=xh hbel2;have O1:=OO6.out.low (Nat.lt_succ_self _) hbel2;have OY:=xh O1;obtain⟨⟨q0,q1⟩,qf⟩:=O1;clear hrow2 hbel2)
        go_roundw
        case rel=>
         refine⟨k+1,oto,acc++[y],_,by omega,by go_num,rfl,OY.out.set1 _,by simpa using zbi OW2.out (Nat.lt_succ_self g0) 1,by simp;exact HAC.out,?_,by simp;exact Nat.le_trans HSW6.out HB2.out.size,(HW6.out.trans (HB2.out.mono (Nat.le_succ _))).setCell (p:=xQ g0 1) xl _⟩
         rw[←HEC.out,HST.out,if_neg (by rw[H5.out];simp)]
        case measure=>simp[intOf];omega
       ·have h5':(oe !=0)=true:=by simpa using h5
        have H5:=xh h5
        clear h5 hy
        go_wp2_with fail
        have HFF:rbPF xs at'=BP.no oe:=by rw[HPR.out,if_neg HNC.out,←HEC.out,HST.out,if_pos H5.out]
        have hs:=(HRR6.out.set 0 xS).1
        have hbs:=zbb (b:=w.heap.size) HBW6.out xl 0 xS
        generalize (xC (w5.alloc (.cells (xO ok ox on ot oo oR od oi op oq os om) 63)) w.heap.size #[xI 0,xS]:World)=W5 at*
        obtain⟨s0_,s1_⟩:=hs
        exact bodyPost_ret (v:=.tuple #[.agg #[xI 0,xS],xI 0,xI oe]) (by simp[results,Tryz.results59,go_sem,s0_,s1_]) rfl ⟨⟨_,by rw[HFF];rfl,by rw[HFF];exact zat (R:=RO) _ _⟩,hbs⟩
      ·have hkm:m1.toNat-k=0:=by omega
       have HDN:Hid (rbP xs m1.toNat m2 []=.inr (acc,q)):=by show _=_;rw[←HEC.out,hkm];rfl
       have HAL2:Hid (acc.length≤3000):=by have:=HAC.out;show _≤_;omega
       clear hkm
       have HRI:=xh (zdS g1 _ acc wr (zcA OW.out).1 HAL2.out)
       go_wp2_with fail
       refine HRI.out.mono ?_
       rintro e w3 ⟨rfl,hb3⟩
       clear z0 z1 zf o0 o1 of
       have HB3:=xh (HBW.out.trans (hb3.mono HBW.out.size))
       have OO3:=xh (OO.out.below hb3)
       have OR3:=xh (HRR.out.below hb3)
       have OW3:=xh (zae OW.out hb3)
       clear hb3 HRI
       obtain⟨⟨z0,z1⟩,zf⟩:=OR3.out
       obtain⟨⟨o0,o1⟩,of⟩:=OO3.out
       by_cases hq:BtOk g1 acc
       ·rw[decide_eq_true hq]
        have HP:=xh hq
        clear hq
        go_wp2_with fail
        have HFF:rbPF xs at'=⟨g1,acc,q,0⟩:=by rw[HPR.out,if_neg HNC.out,HDN.out];exact if_pos HP.out
        have hs:=(OR3.out.set g1 (.slice a3 acc.length c3)).1
        have hbs:=zbb (b:=w.heap.size) HB3.out xl g1 (.slice a3 acc.length c3)
        have hos:=zbi (u:=.slice a3 acc.length c3) (zbi (u:=xI g1) OW3.out (Nat.lt_succ_of_lt HLT.out) 0) (Nat.lt_succ_of_lt HLT.out) 1
        generalize (xC w3 w.heap.size #[xI g1,.slice a3 acc.length c3]:World)=W5 at*
        obtain⟨s0_,s1_⟩:=hs
        exact bodyPost_ret (v:=.tuple #[.agg #[xI g1,.slice a3 acc.length c3],xI q,xI 0]) (by simp[results,Tryz.results59,go_sem,s0_,s1_]) rfl ⟨⟨_,by rw[HFF],by rw[HFF];exact zas hos (Nat.le_of_lt (Nat.lt_succ_of_lt HLT.out))⟩,hbs⟩
       ·rw[decide_eq_false hq]
        have HN:=xh hq
        clear hq
        go_wp2_with fail
        have HFF:rbPF xs at'=BP.no 4:=by rw[HPR.out,if_neg HNC.out,HDN.out];exact if_neg HN.out
        have hs:=(OR3.out.set 0 xS).1
        have hbs:=zbb (b:=w.heap.size) HB3.out xl 0 xS
        generalize (xC w3 w.heap.size #[xI 0,xS]:World)=W5 at*
        obtain⟨s0_,s1_⟩:=hs
        exact bodyPost_ret (v:=.tuple #[.agg #[xI 0,xS],xI 0,xI 4]) (by simp[results,Tryz.results59,go_sem,s0_,s1_]) rfl ⟨⟨_,by rw[HFF];rfl,by rw[HFF];exact zat (R:=RO) _ _⟩,hbs⟩
  ·have h4':(m3 !=0)=true:=by simpa using h4
   have H4:=xh h4
   clear h4
   go_wp2_with fail
   have HFF:rbPF xs at'=BP.no m3:=by unfold rbPF;simp only[HG.out,HMM.out];rw[if_neg (by rw[H3.out];simp),if_pos H4.out]
   have hs:=(OR.out.set 0 xS).1
   have hbs:=zbb (b:=w.heap.size) HB.out xl 0 xS
   generalize (xC W1 w.heap.size #[xI 0,xS]:World)=W5 at*
   obtain⟨s0_,s1_⟩:=hs
   exact bodyPost_ret (v:=.tuple #[.agg #[xI 0,xS],xI 0,xI m3]) (by simp[results,Tryz.results59,go_sem,s0_,s1_]) rfl ⟨⟨_,by rw[HFF];rfl,by rw[HFF];exact zat (R:=RO) _ _⟩,hbs⟩
 ·have h3':(g3 !=0)=true:=by simpa using h3
  have H3:=xh h3
  clear h3
  go_wp2_with fail
  have HFF:rbPF xs at'=BP.no g3:=by unfold rbPF;simp only[HG.out];exact if_pos H3.out
  have hs:=(OR.out.set 0 xS).1
  have hbs:=zbb (b:=w.heap.size) HB.out xl 0 xS
  generalize (xC W1 w.heap.size #[xI 0,xS]:World)=W5 at*
  obtain⟨s0_,s1_⟩:=hs
  exact bodyPost_ret (v:=.tuple #[.agg #[xI 0,xS],xI 0,xI g3]) (by simp[results,Tryz.results59,go_sem,s0_,s1_]) rfl ⟨⟨_,by rw[HFF];rfl,by rw[HFF];exact zat (R:=RO) _ _⟩,hbs⟩
theorem zf0 (v:Value)(xs:List Int)(q:Int)(w:World)(hv:Bs w v xs):
  Calls Tryz.prog 59 #[v,xI q] w fun e w'=>(∃r,e=.returned (.tuple #[.agg #[xI (zaz xs q).M,r],xI (zaz xs q).to,xI (zaz xs q).e])∧w'.ownsRow w.heap.size 63 12 r (zaz xs q).ys.length (flat (zaz xs q).ys))∧Below w.heap.size w w':=by
 rw[←zn2];exact zfM v xs q w hv
end
end Go.Proofs.YtjghebcnmoojmaaGreat
