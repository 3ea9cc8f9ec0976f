/- An object read out of bytes: What is parsed has the same bytes, what has bytes is parsed, of objects: Batches: Rows of batches in memory of their own; Objects a -/
import Derived.Test.YtjghebcnmoojmaaGreatV07
import Derived.Test.YtjghebcnmoojmaaGreatV14
import Derived.Test.YtjghebcnmoojmaaGreatV20
import Derived.Test.YtjghebcnmoojmaaGreatV21
import Derived.Test.YtjghebcnmoojmaaGreatV22
import Derived.Test.YtjghebcnmoojmaaGreatV23
set_option maxRecDepth 100000
set_option maxHeartbeats 32000000
namespace Go.Proofs.YtjghebcnmoojmaaGreat
open Go.RowKit MX
section
open Go.Sort
def zaZ (k x:Int)(n:Bool)(t o r d i p q s m:Int)(u:Int×Int):OP:=if u.2=0 then(if ObOk k x n t o r d i p q s m then⟨k,x,n,t,o,r,d,i,p,q,s,m,u.1,0⟩else .no 4)else .no u.2
def zeD (x:Int)(P:PR):OP:=zaZ 2 x P.n P.t P.o P.r P.d P.i 0 0 0 0 (P.to,P.e)
def zez (x:Int)(p q s:Int×Int×Int):OP:=zaZ 3 x false 0 0 0 0 0 p.1 q.1 s.1 0 s.2
def zc3 (xs:List Int)(x:Int)(P:PR):OP:=zaZ 4 x P.n P.t P.o P.r P.d P.i 0 0 0 (numS xs 2 (P.to,P.e)).1 (numS xs 2 (P.to,P.e)).2
def zbv (xs:List Int)(k:Int)(d:Int×Int×Int):OP:=
 if k=1 then zaZ 1 d.1 false 0 0 0 0 0 0 0 0 0 d.2
 else if k=2 then zeD d.1 (zb4 xs d.2)
 else if k=3 then zez d.1 (zaB xs d.2) (zab xs (zaB xs d.2).2) (zab xs (zab xs (zaB xs d.2).2).2)
 else zc3 xs d.1 (zb4 xs d.2)
def zaV (xs:List Int)(k:Int):OP:=
 if kn (zab xs (k,0)).1=true then zbv xs (zab xs (k,0)).1 (zab xs (zab xs (k,0)).2)
 else .no (zai (zab xs (k,0)).2.2 false)
theorem zdj {k x:Int}{n:Bool}{t o r d i p q s m:Int}{at' e:Int}(h:ObOk k x n t o r d i p q s m):zbF e true k x n t o r d i p q s m at'=zaZ k x n t o r d i p q s m (at',e):=by
 unfold zbF zaZ zai
 by_cases he:e=0
 ·subst he;simp[h]
 ·simp[he]
theorem zdv {k x:Int}{n:Bool}{t o r d i p q s m:Int}{at' e:Int}(h:¬ObOk k x n t o r d i p q s m):zbF e false k x n t o r d i p q s m at'=zaZ k x n t o r d i p q s m (at',e):=by
 unfold zbF zaZ zai
 by_cases he:e=0
 ·subst he;simp[h]
 ·simp[he]
theorem zpd {k x:Int}{n:Bool}{t o r d i p q s m:Int}(h1:k≠1)(h2:k≠2)(h3:k≠3)(h4:k≠4):¬ObOk k x n t o r d i p q s m:=fun h=>by
 rcases zdA h with h|h|h|h
 ·exact h1 h
 ·exact h2 h
 ·exact h3 h
 ·exact h4 h
theorem ziu (v:Value)(k:Int)(xs:List Int)(w:World)(hv:Bs w v xs):Calls Tryz.prog 114 #[v,xI k] w fun e w'=>e=.returned (zaV xs k).v∧Below w.heap.size w w':=by
 obtain⟨a,l,c,rfl⟩:=zal hv
 obtain⟨k1,s1,e1,h1⟩:∃x y z,zab xs (k,0)=(x,y,z):=⟨_,_,_,rfl⟩
 by_cases c1:k1=1
 ·subst c1
  obtain⟨x,s2,e2,h2⟩:∃x y z,zab xs (s1,e1)=(x,y,z):=⟨_,_,_,rfl⟩
  have e:zaV xs k=zaZ 1 x false 0 0 0 0 0 0 0 0 0 (s2,e2):=by unfold zaV;simp only[h1];rw[if_pos (show kn 1=true from rfl)];unfold zbv;rw[if_pos rfl,h2]
  rw[e]
  by_cases hq:ObOk 1 x false 0 0 0 0 0 0 0 0 0
  ·rw[←zdj hq]
   have D:=fun W (hR:Rd W (w.heap.size+1) s2 e2)=>zbA (w.heap.size+1) 1 x false 0 0 0 0 0 0 0 0 0 true s2 e2 W hR
   generalize zbF e2 true 1 x false 0 0 0 0 0 0 0 0 0 s2=O at D ⊢
   exact zp1 a l c k xs w hv s1 e1 x s2 e2 h1 h2 O.k O.x O.t O.o O.r O.d O.i O.p O.q O.s O.m O.to O.e O.n (fun W=>by have hk:=zaK 1 x false 0 0 0 0 0 0 0 0 0 W;rw[zb1 hq]at hk;exact hk) D
  ·rw[←zdv hq]
   have D:=fun W (hR:Rd W (w.heap.size+1) s2 e2)=>zbA (w.heap.size+1) 1 x false 0 0 0 0 0 0 0 0 0 false s2 e2 W hR
   generalize zbF e2 false 1 x false 0 0 0 0 0 0 0 0 0 s2=O at D ⊢
   exact zpS a l c k xs w hv s1 e1 x s2 e2 h1 h2 O.k O.x O.t O.o O.r O.d O.i O.p O.q O.s O.m O.to O.e O.n (fun W=>by have hk:=zaK 1 x false 0 0 0 0 0 0 0 0 0 W;rw[zc1 hq]at hk;exact hk) D
 by_cases c2:k1=2
 ·subst c2
  obtain⟨x,s2,e2,h2⟩:∃x y z,zab xs (s1,e1)=(x,y,z):=⟨_,_,_,rfl⟩
  obtain⟨n,t,o,r,d,i,s3,e3,h3⟩:∃n t o r d i s3 e3,zb4 xs (s2,e2)=⟨n,t,o,r,d,i,s3,e3⟩:=⟨_,_,_,_,_,_,_,_,rfl⟩
  have e:zaV xs k=zaZ 2 x n t o r d i 0 0 0 0 (s3,e3):=by unfold zaV;simp only[h1];rw[if_pos (show kn 2=true from rfl)];unfold zbv;rw[if_neg (by decide),if_pos rfl,h2];simp only[h3];rfl
  rw[e]
  by_cases hq:ObOk 2 x n t o r d i 0 0 0 0
  ·rw[←zdj hq]
   have D:=fun W (hR:Rd W (w.heap.size+1) s3 e3)=>zbA (w.heap.size+1) 2 x n t o r d i 0 0 0 0 true s3 e3 W hR
   generalize zbF e3 true 2 x n t o r d i 0 0 0 0 s3=O at D ⊢
   exact zpG a l c k xs w hv n s1 e1 x s2 e2 t o r d i s3 e3 h1 h2 h3 O.k O.x O.t O.o O.r O.d O.i O.p O.q O.s O.m O.to O.e O.n (fun W=>by have hk:=zaK 2 x n t o r d i 0 0 0 0 W;rw[zb1 hq]at hk;exact hk) D
  ·rw[←zdv hq]
   have D:=fun W (hR:Rd W (w.heap.size+1) s3 e3)=>zbA (w.heap.size+1) 2 x n t o r d i 0 0 0 0 false s3 e3 W hR
   generalize zbF e3 false 2 x n t o r d i 0 0 0 0 s3=O at D ⊢
   exact zpJ a l c k xs w hv n s1 e1 x s2 e2 t o r d i s3 e3 h1 h2 h3 O.k O.x O.t O.o O.r O.d O.i O.p O.q O.s O.m O.to O.e O.n (fun W=>by have hk:=zaK 2 x n t o r d i 0 0 0 0 W;rw[zc1 hq]at hk;exact hk) D
 by_cases c3:k1=3
 ·subst c3
  obtain⟨x,s2,e2,h2⟩:∃x y z,zab xs (s1,e1)=(x,y,z):=⟨_,_,_,rfl⟩
  obtain⟨p,s3,e3,h3⟩:∃x y z,zaB xs (s2,e2)=(x,y,z):=⟨_,_,_,rfl⟩
  obtain⟨q,s4,e4,h4⟩:∃x y z,zab xs (s3,e3)=(x,y,z):=⟨_,_,_,rfl⟩
  obtain⟨s,s5,e5,h5⟩:∃x y z,zab xs (s4,e4)=(x,y,z):=⟨_,_,_,rfl⟩
  have e:zaV xs k=zaZ 3 x false 0 0 0 0 0 p q s 0 (s5,e5):=by unfold zaV;simp only[h1];rw[if_pos (show kn 3=true from rfl)];unfold zbv;rw[if_neg (by decide),if_neg (by decide),if_pos rfl,h2];simp only[h3,h4,h5];rfl
  rw[e]
  by_cases hq:ObOk 3 x false 0 0 0 0 0 p q s 0
  ·rw[←zdj hq]
   have D:=fun W (hR:Rd W (w.heap.size+1) s5 e5)=>zbA (w.heap.size+1) 3 x false 0 0 0 0 0 p q s 0 true s5 e5 W hR
   generalize zbF e5 true 3 x false 0 0 0 0 0 p q s 0 s5=O at D ⊢
   exact zpF a l c k xs w hv s1 e1 x s2 e2 p s3 e3 q s4 e4 s s5 e5 h1 h2 h3 h4 h5 O.k O.x O.t O.o O.r O.d O.i O.p O.q O.s O.m O.to O.e O.n (fun W=>by have hk:=zaK 3 x false 0 0 0 0 0 p q s 0 W;rw[zb1 hq]at hk;exact hk) D
  ·rw[←zdv hq]
   have D:=fun W (hR:Rd W (w.heap.size+1) s5 e5)=>zbA (w.heap.size+1) 3 x false 0 0 0 0 0 p q s 0 false s5 e5 W hR
   generalize zbF e5 false 3 x false 0 0 0 0 0 p q s 0 s5=O at D ⊢
   exact zpL a l c k xs w hv s1 e1 x s2 e2 p s3 e3 q s4 e4 s s5 e5 h1 h2 h3 h4 h5 O.k O.x O.t O.o O.r O.d O.i O.p O.q O.s O.m O.to O.e O.n (fun W=>by have hk:=zaK 3 x false 0 0 0 0 0 p q s 0 W;rw[zc1 hq]at hk;exact hk) D
 by_cases c4:k1=4
 ·subst c4
  obtain⟨x,s2,e2,h2⟩:∃x y z,zab xs (s1,e1)=(x,y,z):=⟨_,_,_,rfl⟩
  obtain⟨n,t,o,r,d,i,s3,e3,h3⟩:∃n t o r d i s3 e3,zb4 xs (s2,e2)=⟨n,t,o,r,d,i,s3,e3⟩:=⟨_,_,_,_,_,_,_,_,rfl⟩
  obtain⟨m,s4,e4,h4⟩:∃x y z,numS xs 2 (s3,e3)=(x,y,z):=⟨_,_,_,rfl⟩
  have e:zaV xs k=zaZ 4 x n t o r d i 0 0 0 m (s4,e4):=by unfold zaV;simp only[h1];rw[if_pos (show kn 4=true from rfl)];unfold zbv;rw[if_neg (by decide),if_neg (by decide),if_neg (by decide),h2];simp only[h3];unfold zc3;simp only[h4]
  rw[e]
  by_cases hq:ObOk 4 x n t o r d i 0 0 0 m
  ·rw[←zdj hq]
   have D:=fun W (hR:Rd W (w.heap.size+1) s4 e4)=>zbA (w.heap.size+1) 4 x n t o r d i 0 0 0 m true s4 e4 W hR
   generalize zbF e4 true 4 x n t o r d i 0 0 0 m s4=O at D ⊢
   exact zpR a l c k xs w hv n s1 e1 x s2 e2 t o r d i s3 e3 m s4 e4 h1 h2 h3 h4 O.k O.x O.t O.o O.r O.d O.i O.p O.q O.s O.m O.to O.e O.n (fun W=>by have hk:=zaK 4 x n t o r d i 0 0 0 m W;rw[zb1 hq]at hk;exact hk) D
  ·rw[←zdv hq]
   have D:=fun W (hR:Rd W (w.heap.size+1) s4 e4)=>zbA (w.heap.size+1) 4 x n t o r d i 0 0 0 m false s4 e4 W hR
   generalize zbF e4 false 4 x n t o r d i 0 0 0 m s4=O at D ⊢
   exact zpM a l c k xs w hv n s1 e1 x s2 e2 t o r d i s3 e3 m s4 e4 h1 h2 h3 h4 O.k O.x O.t O.o O.r O.d O.i O.p O.q O.s O.m O.to O.e O.n (fun W=>by have hk:=zaK 4 x n t o r d i 0 0 0 m W;rw[zc1 hq]at hk;exact hk) D
 have hk:kn k1=false:=by simp[kn,c1,c2,c3,c4]
 have e:zaV xs k=.no (zai e1 false):=by unfold zaV;simp only[h1];rw[if_neg (by rw[hk];decide)]
 have hne:zai e1 false≠0:=by unfold zai;by_cases h:e1=0<;>simp[h]
 obtain⟨E,hE⟩:∃E,zai e1 false=E:=⟨_,rfl⟩
 rw[hE]at hne
 have h2:zab xs (s1,zai e1 false)=(0,s1,E):=by rw[hE];simp[zab,hne]
 have hq:¬ObOk k1 0 false 0 0 0 0 0 0 0 0 0:=zpd c1 c2 c3 c4
 have hd:zbF E false k1 0 false 0 0 0 0 0 0 0 0 0 s1=.no E:=by
  unfold zbF
  rw[show zai E false=E by simp[zai,hne],if_neg hne]
 rw[e,hE,←hd]
 have D:=fun W (hR:Rd W (w.heap.size+1) s1 E)=>zbA (w.heap.size+1) k1 0 false 0 0 0 0 0 0 0 0 0 false s1 E W hR
 generalize zbF E false k1 0 false 0 0 0 0 0 0 0 0 0 s1=O at D ⊢
 exact zpX a l c k xs w hv k1 s1 e1 0 s1 E h1 h2 c1 c2 c3 c4 O.k O.x O.t O.o O.r O.d O.i O.p O.q O.s O.m O.to O.e O.n (fun W=>by have hk:=zaK k1 0 false 0 0 0 0 0 0 0 0 0 W;rw[zc1 hq]at hk;exact hk) D
end
section
open Go.Sort
theorem zho {xs:List Int}{K:Nat}{e x s:Int}(h:numS xs 2 ((K:Int),e)=(x,s,0)):e=0∧K+2≤xs.length∧x=segN xs K 2∧s=(K:Int)+2:=by
 by_cases he:e=0
 ·subst he
  unfold numS getS at h
  rw[if_pos rfl]at h
  simp only[]at h
  by_cases h1:(xs.length:Int)<(K:Int)
  ·rw[if_pos (by omega)]at h;simp at h
  ·rw[if_neg (by omega)]at h
   by_cases h2:(xs.length:Int)-(K:Int)<2
   ·rw[if_pos h2]at h;simp at h
   ·rw[if_neg h2]at h
    simp only[Prod.mk.injEq,Int.toNat_natCast]at h
    exact⟨rfl,by omega,h.1.symm,h.2.1.symm⟩
 ·simp[numS,he]at h
theorem zjH {xs:List Int}{K:Nat}(hx:∀x∈xs,0≤x∧x<256)(h:K+2≤xs.length):(0≤segN xs K 2∧segN xs K 2≤65535)∧(xs.drop K).take 2=[segN xs K 2/256,segN xs K 2%256]:=by
 have h1:=zjY _ (zbw hx K 2)
 have h2:=zgF ((xs.drop K).take 2) (zbw hx K 2)
 rw[show((xs.drop K).take 2).length=2 by simp;omega]at h1 h2
 rw[show zao 2=65536 by decide]at h1
 have h3:0≤segN xs K 2∧segN xs K 2≤65535:=by unfold segN;omega
 refine⟨h3,?_⟩
 rw[←zf5 h3]
 exact h2.symm
theorem zbG {xs:List Int}{u:Int×Int}{x s:Int}(h:zab xs u=(x,s,0)):u.2=0:=by
 by_cases he:u.2=0
 ·exact he
 ·simp[zab,he]at h;exact absurd (by rw[h.2]) he
theorem zfE {xs:List Int}{u:Int×Int}{x s:Int}(h:zaB xs u=(x,s,0)):u.2=0:=by
 by_cases he:u.2=0
 ·exact he
 ·simp[zaB,he]at h;exact absurd (by rw[h.2]) he
theorem zdY (xs:List Int)(hx:∀x∈xs,0≤x∧x<256)(K:Nat)(P:PR)(hP:zaG xs (K:Int)=P)(he:P.e=0):
  HtOk P.n P.t P.o P.r P.d P.i∧∃T:Nat,P.to=((K+T:Nat):Int)∧K+T≤xs.length∧(xs.drop K).take T=htB P.n P.t P.o P.r P.d P.i:=by
 obtain⟨k1,s1,e1,h1⟩:∃x y z,zab xs ((K:Int),0)=(x,y,z):=⟨_,_,_,rfl⟩
 by_cases c0:k1=0
 ·subst c0
  obtain⟨i,s6,e6,h2⟩:∃x y z,zab xs (s1,e1)=(x,y,z):=⟨_,_,_,rfl⟩
  have e:P=zbg true 0 0 0 0 (i,s6,e6):=by rw[←hP];unfold zaG;rw[h1];simp only[if_true];rw[h2]
  subst e
  unfold zbg at he ⊢
  simp only[]at he ⊢
  by_cases he6:e6=0
  ·subst he6
   rw[if_pos rfl]at he ⊢
   by_cases hq:HtOk true 0 0 0 0 i
   ·rw[if_pos hq]
    have z1:e1=0:=zbG h2
    subst z1
    obtain⟨-,l1,v1,rfl⟩:=zbj h1
    rw[show((K:Int)+1)=((K+1:Nat):Int)by omega]at h2
    obtain⟨-,l2,v2,rfl⟩:=zbj h2
    refine⟨hq,2,by simp only[];omega,by omega,?_⟩
    rw[zef xs K (by omega),←v1,←v2]
    rfl
   ·rw[if_neg hq]at he;cases he
  ·rw[if_neg he6]at he;exact(he6 he).elim
 ·by_cases c1:k1=1
  ·subst c1
   obtain⟨t,s2,e2,h2⟩:∃x y z,zaB xs (s1,e1)=(x,y,z):=⟨_,_,_,rfl⟩
   obtain⟨o,s3,e3,h3⟩:∃x y z,zab xs (s2,e2)=(x,y,z):=⟨_,_,_,rfl⟩
   obtain⟨r,s4,e4,h4⟩:∃x y z,zab xs (s3,e3)=(x,y,z):=⟨_,_,_,rfl⟩
   obtain⟨d,s5,e5,h5⟩:∃x y z,zaB xs (s4,e4)=(x,y,z):=⟨_,_,_,rfl⟩
   obtain⟨i,s6,e6,h6⟩:∃x y z,zab xs (s5,e5)=(x,y,z):=⟨_,_,_,rfl⟩
   have e:P=zbg false t o r d (i,s6,e6):=by rw[←hP];unfold zaG;simp only[h1,h2,h3,h4,h5,h6,if_neg c0,if_true]
   subst e
   unfold zbg at he ⊢
   simp only[]at he ⊢
   by_cases he6:e6=0
   ·subst he6
    rw[if_pos rfl]at he ⊢
    by_cases hq:HtOk false t o r d i
    ·rw[if_pos hq]
     have z5:e5=0:=zbG h6
     subst z5
     have z4:e4=0:=zfE h5
     subst z4
     have z3:e3=0:=zbG h4
     subst z3
     have z2:e2=0:=zbG h3
     subst z2
     have z1:e1=0:=zfE h2
     subst z1
     obtain⟨-,l1,v1,rfl⟩:=zbj h1
     rw[show((K:Int)+1)=((K+1:Nat):Int)by omega]at h2
     obtain⟨-,l2,v2,rfl⟩:=zfg h2
     rw[show(((K+1:Nat):Int)+8)=((K+9:Nat):Int)by omega]at h3
     obtain⟨-,l3,v3,rfl⟩:=zbj h3
     rw[show(((K+9:Nat):Int)+1)=((K+10:Nat):Int)by omega]at h4
     obtain⟨-,l4,v4,rfl⟩:=zbj h4
     rw[show(((K+10:Nat):Int)+1)=((K+11:Nat):Int)by omega]at h5
     obtain⟨-,l5,v5,rfl⟩:=zfg h5
     rw[show(((K+11:Nat):Int)+8)=((K+19:Nat):Int)by omega]at h6
     obtain⟨-,l6,v6,rfl⟩:=zbj h6
     refine⟨hq,20,by simp only[];omega,by omega,?_⟩
     have b1:=zfe xs K (by omega)
     have b2:=zeJ hx l2
     have b3:=zef xs (K+9) (by omega)
     have b5:=zeJ hx l5
     have b6:=zfe xs (K+19) (by omega)
     have s:(xs.drop K).take 20=(xs.drop K).take 1++((xs.drop (K+1)).take 8++((xs.drop (K+9)).take 2++((xs.drop (K+11)).take 8++(xs.drop (K+19)).take 1))):=by
      rw[show 20=1+(8+(2+(8+1)))from rfl,List.take_add,List.take_add,List.take_add,List.take_add]
      simp only[List.drop_drop,Nat.add_assoc]
     rw[s,b1,b3,b6,←b2,←b5,←v1,←v2,←v3,←v4,←v5,←v6]
     simp[htB]
    ·rw[if_neg hq]at he;cases he
   ·rw[if_neg he6]at he;exact(he6 he).elim
  ·have e:P=.no 4:=by rw[←hP];unfold zaG;simp only[h1,if_neg c0,if_neg c1]
   subst e
   cases he
theorem zcs {k x:Int}{n:Bool}{t o r d i p q s m:Int}{u:Int×Int}{O:OP}(h:O=zaZ k x n t o r d i p q s m u)(he:O.e=0):u.2=0∧ObOk k x n t o r d i p q s m∧O=⟨k,x,n,t,o,r,d,i,p,q,s,m,u.1,0⟩:=by
 subst h
 unfold zaZ at he ⊢
 by_cases h0:u.2=0
 ·rw[if_pos h0]at he ⊢
  by_cases hq:ObOk k x n t o r d i p q s m
  ·rw[if_pos hq];exact⟨h0,hq,rfl⟩
  ·rw[if_neg hq]at he;cases he
 ·rw[if_neg h0]at he;exact(h0 he).elim
theorem zm5 (x:Int)(n:Bool)(t o r d i p q s m:Int):obB 1 x n t o r d i p q s m=[1,x]:=rfl
theorem znZ (x:Int)(n:Bool)(t o r d i p q s m:Int):obB 2 x n t o r d i p q s m=[2,x]++htB n t o r d i:=rfl
theorem znC (x:Int)(n:Bool)(t o r d i p q s m:Int):obB 3 x n t o r d i p q s m=[3,x]++i8 p++[q,s]:=rfl
theorem znN (x:Int)(n:Bool)(t o r d i p q s m:Int):obB 4 x n t o r d i p q s m=[4,x]++htB n t o r d i++[m/256,m%256]:=rfl
theorem znH {n:Bool}{t o r d i:Int}(h:HtOk n t o r d i): -9223372036854775808≤t∧t<9223372036854775808:=by
 rcases h.2 with ⟨_,h⟩|⟨_,h⟩
 ·unfold zeX at h;omega
 ·unfold zcd at h;omega
theorem zin (f M:List Int){k x:Int}{n:Bool}{t o r d i p q s m:Int}(h:ObOk k x n t o r d i p q s m):
  zaV (f++(obB k x n t o r d i p q s m++M)) f.length=⟨k,x,n,t,o,r,d,i,p,q,s,m,(f.length:Int)+((obB k x n t o r d i p q s m).length:Int),0⟩:=by
 have hk:=h.1
 have fin:∀u:Int,zaZ k x n t o r d i p q s m (u,0)=⟨k,x,n,t,o,r,d,i,p,q,s,m,u,0⟩:=fun u=>by unfold zaZ;rw[if_pos rfl,if_pos h]
 have start:∀(k':Int) (R:List Int),zab (f++(k'::(x::R))) (f.length,0)=(k',(f.length:Int)+1,0)∧zab (f++(k'::(x::R))) ((f.length:Int)+1,0)=(x,((f.length+2:Nat):Int),0):=fun k' R=>by
  refine⟨zbk f (x::R) k' f.length rfl,?_⟩
  have h2:=zbk (f++[k']) R x (f.length+1) (by simp)
  rw[List.append_assoc,List.singleton_append]at h2
  rw[show((f.length:Int)+1)=((f.length+1:Nat):Int)by omega,h2]
  congr 2
 rcases zdA h with rfl|rfl|rfl|rfl
 ·have z:n=false∧t=0∧o=0∧r=0∧d=0∧i=0:=by have:=h.2.2.2.2.1;simpa [HgOk,hgB]using this
  have z':p=0∧q=0∧s=0:=by have:=h.2.2.2.1;simpa [LvOk,lvB]using this
  have z'':m=0:=by have:=h.2.2.2.2.2;simpa [zdQ,nuB]using this
  obtain⟨rfl,rfl,rfl,rfl,rfl,rfl⟩:=z
  obtain⟨rfl,rfl,rfl⟩:=z'
  subst z''
  rw[zm5]
  have e:f++([1,x]++M)=f++(1::(x::M)):=rfl
  rw[e]
  obtain⟨g1,g2⟩:=start 1 M
  unfold zaV
  rw[g1]
  simp only[]
  rw[if_pos hk,g2]
  unfold zbv
  rw[if_pos rfl]
  simp only[]
  rw[fin]
  congr 1
 ·have z':p=0∧q=0∧s=0:=by have:=h.2.2.2.1;simpa [LvOk,lvB]using this
  have z'':m=0:=by have:=h.2.2.2.2.2;simpa [zdQ,nuB]using this
  have hh:HtOk n t o r d i:=by have:=h.2.2.2.2.1;simpa [HgOk,hgB]using this
  obtain⟨rfl,rfl,rfl⟩:=z'
  subst z''
  rw[znZ]
  have e:f++([2,x]++htB n t o r d i++M)=f++(2::(x::(htB n t o r d i++M))):=by simp
  have e':f++(2::(x::(htB n t o r d i++M)))=(f++[2,x])++(htB n t o r d i++M):=by simp
  obtain⟨g1,g2⟩:=start 2 (htB n t o r d i++M)
  have g3:=zgb (f++[2,x]) M hh
  rw[←e',show(((f++[2,x]).length:Nat):Int)=((f.length+2:Nat):Int)by simp]at g3
  rw[e]
  unfold zaV
  rw[g1]
  simp only[]
  rw[if_pos hk,g2]
  unfold zbv
  rw[if_neg (by decide),if_pos rfl]
  unfold zeD zb4
  simp only[if_true]
  rw[g3]
  simp only[]
  rw[fin]
  congr 1
  simp;omega
 ·have z:n=false∧t=0∧o=0∧r=0∧d=0∧i=0:=by have:=h.2.2.2.2.1;simpa [HgOk,hgB]using this
  have z'':m=0:=by have:=h.2.2.2.2.2;simpa [zdQ,nuB]using this
  have hl:HtOk false p q s 0 0:=by have:=h.2.2.2.1;simpa [LvOk,lvB]using this
  have hp:=(znH hl)
  obtain⟨rfl,rfl,rfl,rfl,rfl,rfl⟩:=z
  subst z''
  rw[znC]
  have e:f++([3,x]++i8 p++[q,s]++M)=f++(3::(x::(i8 p++(q::(s::M))))):=by simp
  obtain⟨g1,g2⟩:=start 3 (i8 p++(q::(s::M)))
  have g3:=zfx (f++[3,x]) (q::(s::M)) (v:=p) hp.1 hp.2 (f.length+2) (by simp)
  have g4:=zbk (f++[3,x]++i8 p) (s::M) q (f.length+10) (by simp[zca])
  have g5:=zbk (f++[3,x]++i8 p++[q]) M s (f.length+11) (by simp[zca])
  simp only[List.append_assoc,List.nil_append,List.cons_append]at g3 g4 g5
  rw[e]
  unfold zaV
  rw[g1]
  simp only[]
  rw[if_pos hk,g2]
  unfold zbv
  rw[if_neg (by decide),if_neg (by decide),if_pos rfl]
  simp only[]
  rw[g3]
  simp only[]
  rw[show(((f.length+2:Nat):Int)+8)=((f.length+10:Nat):Int)by omega,g4]
  simp only[]
  rw[show(((f.length+10:Nat):Int)+1)=((f.length+11:Nat):Int)by omega,g5]
  unfold zez
  simp only[]
  rw[fin]
  congr 1
 ·have z':p=0∧q=0∧s=0:=by have:=h.2.2.2.1;simpa [LvOk,lvB]using this
  have hm:0≤m∧m≤65535:=by have:=h.2.2.2.2.2;simpa [zdQ,nuB]using this
  have hh:HtOk n t o r d i:=by have:=h.2.2.2.2.1;simpa [HgOk,hgB]using this
  obtain⟨rfl,rfl,rfl⟩:=z'
  rw[znN]
  have e:f++([4,x]++htB n t o r d i++[m/256,m%256]++M)=f++(4::(x::(htB n t o r d i++([m/256,m%256]++M)))):=by simp
  have e':f++(4::(x::(htB n t o r d i++([m/256,m%256]++M))))=(f++[4,x])++(htB n t o r d i++([m/256,m%256]++M)):=by simp
  have e'':f++(4::(x::(htB n t o r d i++([m/256,m%256]++M))))=(f++[4,x]++htB n t o r d i)++([m/256,m%256]++M):=by simp
  obtain⟨g1,g2⟩:=start 4 (htB n t o r d i++([m/256,m%256]++M))
  have g3:=zgb (f++[4,x]) ([m/256,m%256]++M) hh
  rw[←e',show(((f++[4,x]).length:Nat):Int)=((f.length+2:Nat):Int)by simp]at g3
  have ok:zcJ m 2:=⟨by decide,by decide,hm.1,by rw[show zao (2:Int).toNat=65536 by decide];omega⟩
  have g4:=zdx (f++[4,x]++htB n t o r d i) M ok
  rw[putB,if_pos ok,show(2:Int).toNat=2 from rfl,zf5 hm,←e'',show(((f++[4,x]++htB n t o r d i).length:Nat):Int)=((f.length+2:Nat):Int)+((htB n t o r d i).length:Int)by simp;omega]at g4
  rw[e]
  unfold zaV
  rw[g1]
  simp only[]
  rw[if_pos hk,g2]
  unfold zbv
  rw[if_neg (by decide),if_neg (by decide),if_neg (by decide)]
  unfold zc3 zb4 numS
  simp only[if_true]
  rw[g3]
  simp only[if_true]
  rw[g4]
  simp only[]
  rw[fin]
  congr 1
  simp;omega
end
section
open Go.Sort Go.WideShapes Go.ChangeShapes
def BtOk (N:Int)(ys:List Ob):Prop:=(0≤N∧N≤65535)∧(1≤ys.length∧ys.length≤32)∧zc8 ys∧3+osz ys≤512
instance (N:Int)(ys:List Ob):Decidable (BtOk N ys):=by unfold BtOk;infer_instance
theorem Os.alloc {w:World}{v:Value}{ys:List Ob}(h:Os w v ys)(O:Obj):Os (w.alloc O) v ys:=h.below (xr.alloc xl O)
theorem zdS (N:Int)(v:Value)(ys:List Ob)(w:World)(hy:Os w v ys)(hl:ys.length≤3000):
  Calls Tryz.prog 68 #[.agg #[xI N,v]] w fun e w'=>e=.returned (.bool (decide (BtOk N ys)))∧Below w.heap.size w w':=by
 obtain⟨a,c,rfl⟩:=hy.form
 have cS:=zl4 _ ys (w.alloc (.cells #[xI N,.slice a ys.length c] 45)) (hy.alloc _) hl
 have hv:ziW ys= -1∧¬zc8 ys∨ziW ys=3+(osz ys:Int)∧zc8 ys:=by
  by_cases h:zc8 ys
  ·exact .inr ⟨if_pos h,h⟩
  ·exact .inl ⟨if_neg h,h⟩
 have HV:=xh hv
 clear hv hy
 obtain⟨z,hz⟩:∃z,ziW ys=z:=⟨_,rfl⟩
 rw[hz]at cS HV
 clear hz
 go_enter Tryz.func68,Tryz.ntmps68
 go_wp2_with (go_at_call 85;refine cS.mono ?_;rintro e w1 ⟨rfl,hb⟩;have HB:Hid (Below w.heap.size w w1):=(xr.alloc xl _).trans (hb.mono (by simp));clear hb)
 all_goals
  go_ret
  refine⟨?_,by first|exact HB.out|exact xr.alloc xl _⟩
  have hv:=HV.out
  first
   | exact zaN (fun h=>by obtain⟨h1,h2,h3,h4⟩:=h;rcases hv with ⟨hv,hn⟩|⟨hv,hn⟩;(exact absurd h3 hn);omega)
   | exact zbR (by rcases hv with ⟨hv,hn⟩|⟨hv,hn⟩;(exfalso;omega);exact⟨by omega,by omega,hn,by omega⟩)
   | exact zb3 ⟨fun h=>by rcases hv with ⟨hv,hn⟩|⟨hv,hn⟩;(exfalso;omega);exact⟨by omega,by omega,hn,by omega⟩,fun h=>by obtain⟨h1,h2,h3,h4⟩:=h;rcases hv with ⟨hv,hn⟩|⟨hv,hn⟩;(exact absurd h3 hn);omega⟩
def btB (N:Int)(ys:List Ob):List Int:=[N/256,N%256,(ys.length:Int)]++(ys.map Ob.bs).flatten
def btc (N:Int)(ys:List Ob):Int:=if BtOk N ys then 0 else 1
def btBs (N:Int)(ys:List Ob):List Int:=if BtOk N ys then btB N ys else[]
theorem zg2 (ys:List Ob)(k:Nat)(h:k<ys.length):((ys.take (k+1)).map Ob.bs).flatten=((ys.take k).map Ob.bs).flatten++(ys.getD k z12).bs:=by
 rw[List.take_succ_eq_append_getElem h,List.map_append,List.flatten_append]
 simp[List.getD,h]
theorem zbT (ys:List Ob):((ys.map Ob.bs).flatten).length=osz ys:=by
 simp[osz,List.length_flatten,List.map_map]
 rfl
theorem zeo (ys:List Ob)(k:Nat):osz (ys.take k)≤osz ys:=by
 have h:osz ys=osz (ys.take k)+osz (ys.drop k):=by
  unfold osz
  rw[←List.sum_append,←List.map_append,List.take_append_drop]
 omega
theorem zn7 {k x:Int}{n:Bool}{t o r d i p q s m:Int}(h:ObOk k x n t o r d i p q s m):Byt (obB k x n t o r d i p q s m):=by
  have hx:0≤x∧x<64:=h.2.1
  have two:∀y z:Int,0≤y∧y<256→0≤z∧z<256→Byt [y,z]:=fun y z hy hz u hu=>by
    simp at hu;rcases hu with rfl|rfl<;>assumption
  rcases zdA h with rfl|rfl|rfl|rfl
  · rw[zm5];exact two _ _ (by omega) (by omega)
  · have hh:HtOk n t o r d i:=by have:=h.2.2.2.2.1;simpa [HgOk,hgB]using this
    rw[znZ];exact zaS (two _ _ (by omega) (by omega)) (zdI hh)
  · have hl:HtOk false p q s 0 0:=by have:=h.2.2.2.1;simpa [LvOk,lvB]using this
    have hr : zcd p q s 0 := by rcases hl.2 with h | h; · cases h.1
                                exact h.2
    have hq:0≤q∧q<64:=hr.2.2.1
    have hs:0≤s∧s<256:=by have:=hr.2.2.2.1;omega
    rw[znC];exact zaS (zaS (two _ _ (by omega) (by omega)) (zev p)) (two _ _ (by omega) hs)
  · have hh:HtOk n t o r d i:=by have:=h.2.2.2.2.1;simpa [HgOk,hgB]using this
    have hm:0≤m∧m≤65535:=by have:=h.2.2.2.2.2;simpa [zdQ,nuB]using this
    rw[znN];exact zaS (zaS (two _ _ (by omega) (by omega)) (zdI hh)) (two _ _ (by omega) (by omega))
theorem zmt {y:Ob}(h:y.Ok):Byt y.bs:=by
 rw[show y.bs=obB y.k y.x y.n y.t y.o y.r y.d y.i y.p y.q y.s y.m from if_pos h]
 exact zn7 h
theorem zlv (w:World)(base:Nat)(x y z:Int)(hb:base≤w.heap.size)(g:Nat)(hg:g=w.heap.size):(w.alloc (.cells #[.int .u8 x,.int .u8 y,.int .u8 z] 5)).ownsRow base 5 1 (.slice (some (xQ g 0)) 3 3) [x,y,z].length ([x,y,z].map (Value.int .u8)):=by
 subst hg
 exact World.ownsRow_lit w #[.int .u8 x,.int .u8 y,.int .u8 z] 3 hb (by unfold maxLen;omega) rfl
theorem zjt (N:Int)(v:Value)(ys:List Ob)(w:World)(hy:Os w v ys)(hl:ys.length≤3000)(h:¬BtOk N ys):Calls Tryz.prog 46 #[.agg #[xI N,v]] w (RetB [] 1 w):=by
 obtain⟨a,c,rfl⟩:=hy.form
 have cR:=zdS N _ ys (w.alloc (.cells #[xI N,.slice a ys.length c] 45)) (hy.alloc _) hl
 rw[decide_eq_false h]at cR
 clear h hy
 go_enter Tryz.func46,Tryz.ntmps46
 go_wp2_with (go_at_call 68;refine cR.mono ?_;rintro e w1 ⟨rfl,hb⟩;have HB:Hid (Below w.heap.size w w1):=(xr.alloc xl _).trans (hb.mono (by simp));clear hb)
 go_ret2
 exact⟨_,rfl,zd0 _,HB.out⟩
end
section
open Go.Sort
theorem zlW (b off k:Nat):(⟨b,off,none⟩:Addr).add k=⟨b,off+k,none⟩:=by unfold Addr.add;split<;>simp_all
def c2 (p:Int×Value):List Value:=[xI p.1,p.2]
def zfw (vs:List (Int×Value)):List Value:=vs.flatMap c2
theorem zf7 (vs:List (Int×Value)):(zfw vs).length=vs.length*2:=by
 induction vs with
 | nil=>rfl
 | cons y ys ih=>simp only[zfw,List.flatMap_cons,List.length_append,List.length_cons,c2,List.length_nil]at *;omega
theorem zjZ (xs ys:List (Int×Value)):zfw (xs++ys)=zfw xs++zfw ys:=by simp[zfw]
def zb:Int×List Ob:=(0,[])
def zv:Int×Value:=(0,xS)
def RowB (w:World)(base:Nat)(v:Value)(bs:List (Int×List Ob)):Prop:=
 ∃vs:List (Int×Value),vs.length=bs.length∧w.ownsRow base 45 2 v bs.length (zfw vs)∧
  ∀i,i<bs.length→(vs.getD i zv).1=(bs.getD i zb).1∧w.ownsRow base 63 12 (vs.getD i zv).2 (bs.getD i zb).2.length (flat (bs.getD i zb).2)
theorem RowB.below {w w':World}{base:Nat}{v:Value}{bs:List (Int×List Ob)}(h:RowB w base v bs)(hb:Below w.heap.size w w'):RowB w' base v bs:=by
 obtain⟨vs,h1,h2,h3⟩:=h
 exact⟨vs,h1,zaM h2 hb,fun i hi=>⟨(h3 i hi).1,zaM (h3 i hi).2 hb⟩⟩
end
section
open Go.Sort
def lft (n:Int):Int:=n%65536
theorem zbs {w:World}{base B size n:Nat}{e:TypeId}{v:Value}{xs:List Value}(h:w.ownsRow base e size v n xs)(hB:B≤base):w.ownsRow B e size v n xs:=by
 rcases h.2 with h2|⟨g,cap,cur,h2,h3,h4⟩
 ·exact⟨h.1,.inl h2⟩
 ·exact⟨h.1,.inr ⟨g,cap,cur,h2,Nat.le_trans hB h3,h4⟩⟩
theorem zd9 {w:World}{base size n:Nat}{e:TypeId}{v:Value}{xs:List Value}(h:w.ownsRow base e size v n xs):∃a c,v=.slice a n c:=by
 rcases h.2 with ⟨rfl,rfl⟩|⟨g,cap,cur,rfl,_⟩
 ·exact⟨none,0,rfl⟩
 ·exact⟨_,_,rfl⟩
theorem znQ {w:World}{base size n:Nat}{e:TypeId}{v:Value}{xs:List Value}(h:w.ownsRow base e size v n xs):v.oneCell'=true:=by
 rcases h.2 with ⟨rfl,_⟩|⟨g,cap,cur,rfl,_⟩<;>rfl
def Fit1 (most:Int)(ys:List Ob)(A t:Nat):Prop:=t<ys.length∧t-A<32∧3+(osz ((ys.drop A).take (t+1-A)):Int)≤most
instance (most:Int)(ys:List Ob)(A t:Nat):Decidable (Fit1 most ys A t):=by unfold Fit1;infer_instance
end
section
open Go.Sort
def Bts (w:World)(v:Value)(bs:List (Int×List Ob)):Prop:=
 (∃a cap,v=.slice a 0 cap∧bs=[])∨
 ∃b off cap,v=.slice (some ⟨b,off,none⟩) bs.length cap∧∀i,i<bs.length→w.cell? ⟨b,off+i*2,none⟩=some (.int .i64 (bs.getD i zb).1)∧∃s,w.cell? ⟨b,off+i*2+1,none⟩=some s∧Os w s (bs.getD i zb).2
theorem Bts.below {w w':World}{v:Value}{bs:List (Int×List Ob)}(h:Bts w v bs)(hb:Below w.heap.size w w'):Bts w' v bs:=by
 rcases h with h|⟨b,off,cap,h1,h2⟩
 ·exact .inl h
 ·refine .inr ⟨b,off,cap,h1,fun i hi=>?_⟩
  obtain⟨k1,s,k2,k3⟩:=h2 i hi
  exact⟨by rw[hb.cell (World.block_lt_of_cell? w _ k1)];exact k1,s,by rw[hb.cell (World.block_lt_of_cell? w _ k2)];exact k2,k3.below hb⟩
theorem Bts.form {w:World}{v:Value}{bs:List (Int×List Ob)}(h:Bts w v bs):∃a c,v=.slice a bs.length c:=by
 rcases h with ⟨a,cap,h1,rfl⟩|⟨b,off,cap,h1,_⟩
 ·exact⟨a,cap,h1⟩
 ·exact⟨_,_,h1⟩
theorem zlS {xs zs:List (Int×List Ob)}(hl:xs.length=zs.length)(h:∀i,i<xs.length→xs.getD i zb=zs.getD i zb):xs=zs:=by
 refine List.ext_getElem hl fun i h1 h2=>?_
 have:=h i h1
 simpa [List.getD,h1,h2]using this
theorem Bts.at {w:World}{a:Option Addr}{c:Nat}{bs:List (Int×List Ob)}(h:Bts w (.slice a bs.length c) bs){i:Nat}(hi:i<bs.length):∃b off,a=some ⟨b,off,none⟩∧w.cell? ⟨b,off+i*2,none⟩=some (.int .i64 (bs.getD i zb).1)∧∃s,w.cell? ⟨b,off+i*2+1,none⟩=some s∧Os w s (bs.getD i zb).2:=by
 rcases h with ⟨a',cap,hv,rfl⟩|⟨b,off,cap,hv,h2⟩
 ·simp at hi
 ·simp only[Value.slice.injEq]at hv
  exact⟨b,off,hv.1,h2 i hi⟩
end
section
open Go.Sort
theorem zor (xs ys:List Ob):osz (xs++ys)=osz xs+osz ys:=by
 unfold osz;rw[List.map_append,List.sum_append]
theorem zmL (n:Int):0≤lft n∧lft n≤65535:=by unfold lft;omega
end
section
open Go.Sort
theorem RowB.form {w:World}{base:Nat}{v:Value}{bs:List (Int×List Ob)}(h:RowB w base v bs):∃a c,v=.slice a bs.length c:=by
 obtain⟨vs,h1,h2,h3⟩:=h
 exact zd9 h2
def RowX (w:World)(base S g cap:Nat)(bs:List (Int×List Ob))(M:Int)(v:Value)(xs:List Ob):Prop:=
 ∃vs:List (Int×Value),vs.length=bs.length∧(g<S∧base≤g∧S≤w.heap.size)∧
  w.ownsRow base 45 2 (.slice (some (xQ g 0)) (bs.length+1) cap) (bs.length+1) (zfw (vs++[(M,v)]))∧
  (∀i,i<bs.length→(vs.getD i zv).1=(bs.getD i zb).1∧w.ownsRow base 63 12 (vs.getD i zv).2 (bs.getD i zb).2.length (flat (bs.getD i zb).2)∧∀b,(vs.getD i zv).2.ownBlock=some b→b<S)∧
  w.ownsRow S 63 12 v xs.length (flat xs)
theorem RowX.below {w w':World}{base S g cap:Nat}{bs:List (Int×List Ob)}{M:Int}{v:Value}{xs:List Ob}(h:RowX w base S g cap bs M v xs)(hb:Below w.heap.size w w'):RowX w' base S g cap bs M v xs:=by
 obtain⟨vs,h1,⟨h2,h3,h4⟩,h5,h6,h7⟩:=h
 exact⟨vs,h1,⟨h2,h3,Nat.le_trans h4 hb.size⟩,zaM h5 hb,fun i hi=>⟨(h6 i hi).1,zaM (h6 i hi).2.1 hb,(h6 i hi).2.2⟩,zaM h7 hb⟩
theorem RowX.cells {w:World}{base S g cap:Nat}{bs:List (Int×List Ob)}{M:Int}{v:Value}{xs:List Ob}(h:RowX w base S g cap bs M v xs):
  w.cell? ⟨g,bs.length*2+1,none⟩=some v∧(∀k,w.frozen? ⟨g,k,none⟩=false)∧g<S∧S≤w.heap.size∧v.oneCell'=true∧∃a c,v=.slice a xs.length c:=by
 obtain⟨vs,h1,⟨h2,h3,h4⟩,h5,h6,h7⟩:=h
 refine⟨?_,fun k=>h5.frozenAt k,h2,h4,znQ h7,zd9 h7⟩
 rw[zhJ h5 (bs.length*2+1) (by omega),zjZ,←h1,List.getElem?_append_right (by rw[zf7];omega),zf7]
 simp[zfw,c2]
theorem C12.low {w w':World}{b o B:Nat}{y:Ob}(h:C12 w b o y)(hb:b<B)(hB:Below B w w'):C12 w' b o y:=fun j hj=>by
 rw[hB.cell (p:=⟨b,o+j,none⟩) hb];exact h j hj
theorem zh6 {w:World}{S size n m g cap:Nat}{e:TypeId}{xs ys:List Value}(h:w.ownsRow S e size (.slice (some (xQ g 0)) (n+m) cap) (n+m) (xs++ys))(hx:xs.length=n*size):w.ownsRow S e size (.slice (some (xQ g 0)) n cap) n xs:=by
 refine⟨hx,?_⟩
 rcases h.2 with ⟨h1,_⟩|⟨g',cap',cur,hv,hb,hg,hnc,hcm,hcs,htake⟩
 ·cases h1
 ·simp only[Value.slice.injEq,Option.some.injEq,Addr.mk.injEq,and_true,true_and]at hv
  obtain⟨rfl,rfl⟩:=hv
  refine .inr ⟨g,cap,cur,rfl,hb,hg,by omega,hcm,hcs,?_⟩
  have h3:(cur.toList.take ((n+m)*size)).take (n*size)=(xs++ys).take (n*size):=by rw[htake]
  rw[List.take_take,Nat.min_eq_left (Nat.mul_le_mul_right _ (Nat.le_add_right _ _)),←hx,List.take_left]at h3
  rw[←hx];exact h3
theorem zkT (w:World)(ty:TypeId)(S:Nat)(v:Value)(xs:List Ob)(hown:w.ownsRow S 63 12 v xs.length (flat xs))(b:Nat)(y:Ob)(hy:C12 w b 0 y)(hl:xs.length≤3000)(hS:S≤w.heap.size):
  ∃g cap w',(Builtin.append_ #[43,43] ty #[v,.slice (some (xQ b 0)) 1 1]).run Tryz.prog w=.ok (.slice (some (xQ g 0)) (xs.length+1) cap) w'∧w'.ownsRow S 63 12 (.slice (some (xQ g 0)) (xs.length+1) cap) (xs++[y]).length (flat (xs++[y]))∧w.grownBy w' v.ownBlock∧w'.ownsRow S 63 12 v xs.length (flat xs):=by
 obtain⟨i0,hi,hz0,hz1,hz2⟩:=info_parts zmA
 have hzs:((.agg xZ:Value).cells).size=12:=rfl
 have e:flat (xs++[y])=flat xs++y.cl:=by rw[zmf];simp[flat]
 have e2:(xs++[y]).length=xs.length+1:=by simp
 have hnews:∀j u,y.cl[j]? =some u→w.cell? (((xQ b 0):Addr).add j)=some u:=fun j u hj=>by
  rw[zlW,hy j (List.getElem?_eq_some_iff.1 hj).1];exact hj
 have hone:∀u∈y.cl,u.oneCell'=true:=fun u hu=>zkE [y] u (by simpa [flat]using hu)
 have hfl:=zhy xs
 rw[e,e2]
 rcases hown.2 with ⟨rfl,h0⟩|⟨g,cap,cur,rfl,hg1,hg2,_⟩
 ·obtain⟨v',w',hr,h2,h3,_,_⟩:=run_append_own_at (P:=Tryz.prog) w S 43 ty 63 i0 (.agg xZ) 12 96 zff hi hz0 hz1 hz2 hzs (by decide) xS xs.length (flat xs) hown (xQ b 0) 1 1 y.cl rfl hnews hone (by unfold maxLen;omega) (by omega) hS
  obtain⟨g,cap,rfl⟩:∃g cap,v'=.slice (some (xQ g 0)) (xs.length+1) cap:=by
   rcases h2.2 with ⟨_,h0⟩|⟨g,cap,_,rfl,_⟩
   ·omega
   ·exact⟨g,cap,rfl⟩
  exact⟨g,cap,w',hr,h2,h3,⟨hown.1,.inl ⟨rfl,h0⟩⟩⟩
 ·by_cases hroom:xs.length+1≤cap
  ·obtain⟨w',hr,h2,h3⟩:=run_append_fits (P:=Tryz.prog) w S 43 ty 63 i0 12 zff hi hz1 g xs.length cap (flat xs) hown (xQ b 0) 1 1 y.cl rfl hnews hone hroom
   exact⟨g,cap,w',hr,h2,h3,zh6 h2 hfl⟩
  ·obtain⟨v',w',hr,h2,h3⟩:=run_append_arg_grows (P:=Tryz.prog) w 43 ty 63 i0 (.agg xZ) 12 96 zff hi hz0 hz1 hz2 hzs (by decide) (xQ g 0) xs.length cap (flat xs) hfl (hown.cells rfl) (xQ b 0) 1 1 y.cl rfl hnews (by omega) (by unfold maxLen;omega) (by omega)
   obtain⟨g',cap',rfl⟩:∃g cap,v'=.slice (some (xQ g 0)) (xs.length+1) cap:=by
    rcases h2.2 with ⟨_,h0⟩|⟨g,cap,_,rfl,_⟩
    ·omega
    ·exact⟨g,cap,rfl⟩
   exact⟨g',cap',w',hr,zbs h2 hS,⟨h3.os,h3.tape,h3.output,h3.size,fun k hk _=>h3.block k hk (by simp)⟩,hown.kept h3 (.inr (by simp[Value.ownBlock]))⟩
theorem zgL {ρ:Operand→Value}{o:Oper}{s x:Operand}{T:TypeId}{v u r:Value}{w w':World}(ho:o.op=.call {callee:=.builtin .append,args:=#[s,x],argTypes:=#[T,T]})(hs:ρ s=v)(hx:ρ x=u)
  (hr:(Builtin.append_ #[T,T] o.type #[v,u]).run Tryz.prog w=.ok r w'):(execOp ρ o).run Tryz.prog w=.ok (.value r) w':=by
 unfold execOp
 simp only[ho,resolve,invoke,builtin,Sem.run_bind,Sem.run_pure,Result.andThen_ok,List.map_toArray,List.map_cons,List.map_nil,hs,hx,hr]
theorem zja (w:World)(y:Ob)(g:Nat)(hg:g=w.heap.size):C12 (w.alloc (.cells (xO y.k y.x y.n y.t y.o y.r y.d y.i y.p y.q y.s y.m) 63)) g 0 y:=fun j hj=>by
 subst hg
 rw[Nat.zero_add,cell_of_row _ _ _ _ _ _ (heap_alloc_new w _)]
 simp[Ob.cl]
end
section
open Go.Sort
theorem zcL (n:Int)(w:World):Calls Tryz.prog 127 #[xI n] w fun e w'=>e=.returned (xI (lft n))∧Below w.heap.size w w':=by
 have cF:=fun w=>zmY 0 n w
 rw[show far 0 n=lft n by unfold far lft;omega]at cF
 go_enter Tryz.func127,Tryz.ntmps127
 go_wp2_with (go_at_call 145;refine(cF _).mono ?_;rintro e w1 ⟨rfl,hb⟩;have HB:=xh hb;clear hb)
 go_ret
 exact⟨rfl,HB.out⟩
theorem zeB (n:Int)(q:Bool)(hq:q=true↔(1≤n∧n≤32))(w:World):Calls Tryz.prog 112 #[xI n] w fun e w'=>e=.returned (.bool q)∧w=w':=by
 by_cases h1:1≤n
 ·by_cases h2:n≤32
  ·obtain rfl:q=true:=hq.2 ⟨h1,h2⟩
   clear hq
   go_enter Tryz.func112,Tryz.ntmps112
   go_wp2
   go_ret
   exact⟨rfl,rfl⟩
  ·obtain rfl:q=false:=by cases q with
    | false=>rfl
    | true=>exact absurd (hq.1 rfl).2 h2
   clear hq
   go_enter Tryz.func112,Tryz.ntmps112
   go_wp2
   go_ret
   exact⟨rfl,rfl⟩
 ·obtain rfl:q=false:=by cases q with
   | false=>rfl
   | true=>exact absurd (hq.1 rfl).1 h1
  clear hq
  go_enter Tryz.func112,Tryz.ntmps112
  go_wp2
  go_ret
  exact⟨rfl,rfl⟩
theorem zcn (n:Int)(w:World):Calls Tryz.prog 112 #[xI n] w fun e w'=>e=.returned (.bool (decide (1≤n∧n≤32)))∧w=w':=zeB n _ decide_eq_true_iff w
theorem zcF (v:Value)(ys:List Ob)(w:World)(hy:Os w v ys)(hl:ys.length≤3000):
  Calls Tryz.prog 128 #[v] w fun e w'=>e=.returned (.bool (decide (zc8 ys)))∧Below w.heap.size w w':=by
 obtain⟨a,c,rfl⟩:=hy.form
 have HY:=xh hy
 clear hy
 go_enter Tryz.func128,Tryz.ntmps128
 go_wp2_with fail
 go_loopw [4,7] (fun _ i wr=>∃k:Nat,k≤ys.length∧i=xI k∧(∀i,i<k→(ys.getD i z12).Ok)∧Below w.heap.size w wr) (fun _ i _=>ys.length-(intOf i).toNat)
 case atStart=>exact⟨0,Nat.zero_le _,rfl,fun i h=>absurd h (Nat.not_lt_zero _),Below.refl _ _⟩
 case round=>
  obtain⟨k,hk,rfl,hok,hbel⟩:=hrel
  have HO:=xh hok
  have HB:=xh hbel
  clear hok hbel
  by_cases hlt:k<ys.length
  ·obtain⟨b,off,rfl,hB,hc⟩:=(HY.out.below HB.out).at hlt
   obtain⟨y,hyk⟩:∃y,ys.getD k z12=y:=⟨_,rfl⟩
   rw[hyk]at hc
   obtain⟨p0,p1,p2,p3,p4,p5,p6,p7,p8,p9,p10,p11⟩:=hc.all
   have HK:=xh hyk
   have H2:=xh ((Below.refl _ wr).alloc xl (.cells (xO y.k y.x y.n y.t y.o y.r y.d y.i y.p y.q y.s y.m) 63))
   clear hc hyk
   by_cases hq:y.Ok
   ·have cB:∀w,Calls Tryz.prog 130 #[.agg (xO y.k y.x y.n y.t y.o y.r y.d y.i y.p y.q y.s y.m)] w fun e w'=>e=.returned (xI 0)∧Below w.heap.size w w':=fun w=>by
     have h:=zaK y.k y.x y.n y.t y.o y.r y.d y.i y.p y.q y.s y.m w
     rwa [show obc y.k y.x y.n y.t y.o y.r y.d y.i y.p y.q y.s y.m=0 from zb1 hq]at h
    have HQ:=xh hq
    clear hq
    go_wp2_with fail
    refine(cB _).mono ?_
    rintro e w1 ⟨rfl,hb⟩
    replace HB:=xh (HB.out.trans ((H2.out.trans (hb.mono H2.out.size)).mono HB.out.size))
    clear hb
    go_wp2_with fail
    go_roundw
    case rel=>
     refine⟨k+1,by omega,by go_num,?_,HB.out⟩
     intro j hj
     by_cases h:j<k
     ·exact HO.out j h
     ·obtain rfl:j=k:=by omega
      rw[HK.out];exact HQ.out
    case measure=>simp[intOf];omega
   ·have cB:∀w,Calls Tryz.prog 130 #[.agg (xO y.k y.x y.n y.t y.o y.r y.d y.i y.p y.q y.s y.m)] w fun e w'=>e=.returned (xI 1)∧Below w.heap.size w w':=fun w=>by
     have h:=zaK y.k y.x y.n y.t y.o y.r y.d y.i y.p y.q y.s y.m w
     rwa [show obc y.k y.x y.n y.t y.o y.r y.d y.i y.p y.q y.s y.m=1 from zc1 hq]at h
    have HQ:=xh hq
    clear hq
    go_wp2_with fail
    refine(cB _).mono ?_
    rintro e w1 ⟨rfl,hb⟩
    replace HB:=xh (HB.out.trans ((H2.out.trans (hb.mono H2.out.size)).mono HB.out.size))
    clear hb
    go_wp2_with fail
    go_ret
    refine⟨zaN (fun h=>HQ.out (by rw[←HK.out];exact h k hlt)),HB.out⟩
  ·obtain rfl:k=ys.length:=by omega
   go_wp2_with fail
   go_ret
   exact⟨zbR HO.out,HB.out⟩
theorem zf6 (v:Value)(ys:List Ob)(w:World)(hy:Os w v ys)(hl:ys.length≤3000):
  Calls Tryz.prog 129 #[v] w fun e w'=>e=.returned (xI (3+(osz ys:Int)))∧Below w.heap.size w w':=by
 obtain⟨a,c,rfl⟩:=hy.form
 have HY:=xh hy
 clear hy
 go_enter Tryz.func129,Tryz.ntmps129
 go_wp2_with fail
 go_loopw [3,5,8] (fun n _ i wr=>∃k:Nat,k≤ys.length∧i=xI k∧n=xI (3+(osz (ys.take k):Int))∧Below w.heap.size w wr) (fun _ _ i _=>ys.length-(intOf i).toNat)
 case atStart=>exact⟨0,Nat.zero_le _,rfl,rfl,Below.refl _ _⟩
 case round=>
  obtain⟨k,hk,rfl,rfl,hbel⟩:=hrel
  have HB:=xh hbel
  clear hbel
  have hz:=zkh (ys.take k)
  have hzk:osz (ys.take k)≤120000:=by rw[List.length_take]at hz;omega
  clear hz
  by_cases hlt:k<ys.length
  ·obtain⟨b,off,rfl,hB,hc⟩:=(HY.out.below HB.out).at hlt
   have hsucc:=xh (zfh ys k hlt)
   obtain⟨y,hyk⟩:∃y,ys.getD k z12=y:=⟨_,rfl⟩
   rw[hyk]at hc hsucc
   obtain⟨p0,p1,p2,p3,p4,p5,p6,p7,p8,p9,p10,p11⟩:=hc.all
   have H2:=xh ((Below.refl _ wr).alloc xl (.cells (xO y.k y.x y.n y.t y.o y.r y.d y.i y.p y.q y.s y.m) 63))
   have hyl:=zjK y
   have cB:∀w,Calls Tryz.prog 146 #[.agg (xO y.k y.x y.n y.t y.o y.r y.d y.i y.p y.q y.s y.m)] w fun e w'=>e=.returned (xI y.bs.length)∧Below w.heap.size w w':=fun w=>zjn y.k y.x y.n y.t y.o y.r y.d y.i y.p y.q y.s y.m w
   clear hc hyk
   go_wp2_with fail
   refine(cB _).mono ?_
   rintro e w1 ⟨rfl,hb⟩
   replace HB:=xh (HB.out.trans ((H2.out.trans (hb.mono H2.out.size)).mono HB.out.size))
   clear hb
   go_wp2_with fail
   go_roundw
   case rel=>exact⟨k+1,by omega,by go_num,by rw[hsucc.out];go_num,HB.out⟩
   case measure=>simp[intOf];omega
  ·obtain rfl:k=ys.length:=by omega
   go_wp2_with fail
   go_ret
   refine⟨?_,HB.out⟩
   rw[List.take_length];rfl
end
section
open Go.Sort
theorem zll (v u:Value)(ys zs:List Ob)(q:Bool)(hq:q=true↔ys=zs)(w:World)(hy:Os w v ys)(hz:Os w u zs)(hl:ys.length≤3000):
  Calls Tryz.prog 66 #[v,u] w fun e w'=>e=.returned (.bool q)∧Below w.heap.size w w':=
 (zlw v u ys zs w hy hz hl).mono fun e w' ⟨⟨b,h1,h2⟩,h3⟩=>⟨by rw[h1,show b=q by rw[Bool.eq_iff_iff];exact h2.trans hq.symm],h3⟩
theorem zcf (v u:Value)(xs zs:List (Int×List Ob))(w:World)(hx:Bts w v xs)(hz:Bts w u zs)(hl:xs.length≤3000)(hin:∀i,i<xs.length→(xs.getD i zb).2.length≤3000):
  Calls Tryz.prog 44 #[v,u] w fun e w'=>(∃b:Bool,e=.returned (.bool b)∧(b=true↔xs=zs))∧Below w.heap.size w w':=by
 obtain⟨a,c,rfl⟩:=hx.form
 obtain⟨a',c',rfl⟩:=hz.form
 have HX:=xh hx
 have HZ:=xh hz
 have HI:=xh hin
 clear hx hz hin
 by_cases hne:xs.length=zs.length
 ·have hne':((xs.length:Int)==(zs.length:Int))=true:=by rw[beq_iff_eq];omega
  have HN:=xh hne
  clear hne
  go_enter Tryz.func44,Tryz.ntmps44
  go_wp2_with fail
  go_loopw [5] (fun i wr=>∃k:Nat,k≤xs.length∧i=xI k∧(∀i,i<k→xs.getD i zb=zs.getD i zb)∧Below w.heap.size w wr) (fun i _=>xs.length-(intOf i).toNat)
  case atStart=>exact⟨0,Nat.zero_le _,rfl,fun i h=>absurd h (Nat.not_lt_zero _),Below.refl _ _⟩
  case round=>
   obtain⟨k,hk,rfl,hsame,hbel⟩:=hrel
   have HS:=xh hsame
   have HB:=xh hbel
   clear hsame hbel
   obtain⟨wo,hwo⟩:∃wo,wo=wr:=⟨_,rfl⟩
   subst hwo
   by_cases hlt:k<xs.length
   ·obtain⟨b,off,rfl,n1,s1,t1,o1⟩:=(HX.out.below HB.out).at hlt
    have hlt2:k<zs.length:=by have:=HN.out;omega
    obtain⟨b2,off2,rfl,n2,s2,t2,o2⟩:=(HZ.out.below HB.out).at hlt2
    have HL:=xh (HI.out k hlt)
    obtain⟨⟨M1,ys⟩,hyk⟩:∃y,xs.getD k zb=y:=⟨_,rfl⟩
    obtain⟨⟨M2,ws⟩,hzk⟩:∃z,zs.getD k zb=z:=⟨_,rfl⟩
    rw[hyk]at n1 o1 HL
    rw[hzk]at n2 o2
    simp only at n1 o1 n2 o2
    obtain⟨a1,c1,rfl⟩:=o1.form
    obtain⟨a2,c2',rfl⟩:=o2.form
    have HK:=xh hyk
    have HK2:=xh hzk
    obtain⟨q,hq⟩:∃q:Bool,(q=true↔ys=ws):=by
     by_cases h:ys=ws
     ·exact⟨true,by simp[h]⟩
     ·exact⟨false,by simp[h]⟩
    have cS:∀w',Below wo.heap.size wo w'→Calls Tryz.prog 66 #[.slice a1 ys.length c1,.slice a2 ws.length c2'] w' fun e w''=>e=.returned (.bool q)∧Below w'.heap.size w' w'':=fun w' h=>zll _ _ ys ws q hq w' (o1.below h) (o2.below h) HL.out
    have kc:∀w',Below wo.heap.size wo w'→w'.cell? ⟨b,off+k*2,none⟩=xJ M1∧w'.cell? ⟨b,off+k*2+1,none⟩=some (.slice a1 ys.length c1)∧w'.cell? ⟨b2,off2+k*2,none⟩=xJ M2∧w'.cell? ⟨b2,off2+k*2+1,none⟩=some (.slice a2 ws.length c2'):=fun w' h=>
     ⟨by rw[h.cell (World.block_lt_of_cell? wo _ n1)];exact n1,by rw[h.cell (World.block_lt_of_cell? wo _ t1)];exact t1,by rw[h.cell (World.block_lt_of_cell? wo _ n2)];exact n2,by rw[h.cell (World.block_lt_of_cell? wo _ t2)];exact t2⟩
    have HQ:=xh hq
    have hk0:(0:Int)≤(k:Int):=by omega
    have hk1:(k:Int)<(xs.length:Int):=by omega
    have hk2:(k:Int)<(zs.length:Int):=by omega
    have hkn:((k:Int)).toNat=k:=Int.toNat_natCast k
    clear o1 o2 hyk hzk hq
    go_wp2_with fail
    by_cases hMM:M1=M2
    ·have hNM:(M1 !=M2)=false:=by simpa using hMM
     have HM:=xh hMM
     clear hMM
     refine zaf (C:=fun w'=>Below wo.heap.size wo w') (X:=fun w w'=>Below w.heap.size w w') (n:=42) (by kernel_rfl) (by kernel_rfl) rfl (fun w=>Below.refl _ w) xr.drew ?_
     refine wA 0 ?_
     refine wA 5 ?_
     refine w_is (fun w=>Below.refl _ w) _ (.inl rfl) (fun ρ w hC hc hfn hf=>by have e17:ρ (.tmp 17)=_:=hf 17 (by decide);have e18:ρ (.tmp 18)=_:=hf 18 (by decide);(conv=>lhs;simp[execOp,go_sem,hc,e17,e18,hk0,hk1,hk2,hkn])) ?_
     refine wA 19 ?_
     refine wC 20 kc ?_
     refine wA 1 ?_
     refine wA 5 ?_
     refine w_is (fun w=>Below.refl _ w) _ (.inl rfl) (fun ρ w hC hc hfn hf=>by have e22:ρ (.tmp 22)=_:=hf 22 (by decide);have e23:ρ (.tmp 23)=_:=hf 23 (by decide);(conv=>lhs;simp[execOp,go_sem,hc,e22,e23,hk0,hk1,hk2,hkn])) ?_
     refine wA 24 ?_
     refine wC 25 kc ?_
     refine wE 21 26 hNM ?_
     refine wA 27 ?_
     refine wA 0 ?_
     refine wA 5 ?_
     refine w_is (fun w=>Below.refl _ w) _ (.inr ⟨11,28,false,rfl,rfl,zaI rfl⟩) (fun ρ w hC hc hfn hf=>by have e29:ρ (.tmp 29)=_:=hf 29 (by decide);have e30:ρ (.tmp 30)=_:=hf 30 (by decide);(conv=>lhs;simp[execOp,go_sem,hc,e29,e30,hk0,hk1,hk2,hkn])) ?_
     refine wA 31 ?_
     refine wC 32 kc ?_
     refine wA 1 ?_
     refine wA 5 ?_
     refine w_is (fun w=>Below.refl _ w) _ (.inr ⟨11,28,false,rfl,rfl,zaI rfl⟩) (fun ρ w hC hc hfn hf=>by have e34:ρ (.tmp 34)=_:=hf 34 (by decide);have e35:ρ (.tmp 35)=_:=hf 35 (by decide);(conv=>lhs;simp[execOp,go_sem,hc,e34,e35,hk0,hk1,hk2,hkn])) ?_
     refine wA 36 ?_
     refine wC 37 kc ?_
     refine za8 (Is _) (fun _ _ _ h _=>h) 66 (.inr ⟨11,28,false,rfl,rfl,zaI rfl⟩) (fun ρ w hC hc hfn hf=>by have e33:ρ (.tmp 33)=_:=hf 33 (by decide);have e38:ρ (.tmp 38)=_:=hf 38 (by decide);exact⟨_,by (conv=>lhs;simp[execOp,resolve,invoke,go_sem,hc,hfn,e33,e38]),za9 hC (cS w hC)⟩) ?_
     refine wA 39 ?_
     refine wB 28 40 ?_
     intro A V5 hC hn hd hf
     have y0:=yA (hf 0)
     have y1:=yA (hf 1)
     have y2:=yA (hf 2)
     have y3:=yA (hf 3)
     have y4:=yA (hf 4)
     have y5:=yA (hf 5)
     have y6:=yA (hf 6)
     have y7:=yA (hf 7)
     have y8:=yA (hf 8)
     have y9:=yA (hf 9)
     have y10:=yA (hf 10)
     have y11:=yA (hf 11)
     have y12:=yA (hf 12)
     have y13:=yA (hf 13)
     have y14:=yA (hf 14)
     have y15:=yA (hf 15)
     have y16:=yA (hf 16)
     have y17:=yB (hf 17)
     have y18:=yB (hf 18)
     have y19:=yB (hf 19)
     have y20:=yB (hf 20)
     have y21:=yB (hf 21)
     have y22:=yB (hf 22)
     have y23:=yB (hf 23)
     have y24:=yB (hf 24)
     have y25:=yB (hf 25)
     have y26:=yB (hf 26)
     have y27:=yB (hf 27)
     have y28:=yB (hf 28)
     have y29:=yB (hf 29)
     have y30:=yB (hf 30)
     have y31:=yB (hf 31)
     have y32:=yB (hf 32)
     have y33:=yB (hf 33)
     have y34:=yB (hf 34)
     have y35:=yB (hf 35)
     have y36:=yB (hf 36)
     have y37:=yB (hf 37)
     have y38:=yB (hf 38)
     have y39:=yB (hf 39)
     have y40:=yB (hf 40)
     have y41:=yB (hf 41)
     clear hf
     have hA:=zaL hn
     rw[show List.range 42=[0,1,2,3,4,5,6,7,8,9,10,11,12,13,14,15,16,17,18,19,20,21,22,23,24,25,26,27,28,29,30,31,32,33,34,35,36,37,38,39,40,41]from rfl,hd]at hA
     simp only[List.map_cons,List.map_nil,y0,y1,y2,y3,y4,y5,y6,y7,y8,y9,y10,y11,y12,y13,y14,y15,y16,y17,y18,y19,y20,y21,y22,y23,y24,y25,y26,y27,y28,y29,y30,y31,y32,y33,y34,y35,y36,y37,y38,y39,y40,y41]at hA
     clear y0 y1 y2 y3 y4 y5 y6 y7 y8 y9 y10 y11 y12 y13 y14 y15 y16 y17 y18 y19 y20 y21 y22 y23 y24 y25 y26 y27 y28 y29 y30 y31 y32 y33 y34 y35 y36 y37 y38 y39 y40 y41
     clear hn hd
     subst hA
     cases q with
     | true=>
      go_wp2_with fail
      go_roundw
      case rel=>
       refine⟨k+1,by omega,by go_num,?_,HB.out.trans (hC.mono HB.out.size)⟩
       intro j hj
       by_cases h:j<k
       ·exact HS.out j h
       ·obtain rfl:j=k:=by omega
        exact(HK.out.trans (by rw[HM.out,HQ.out.1 (by simp)])).trans HK2.out.symm
      case measure=>simp[intOf];omega
     | false=>
      go_wp2_with fail
      go_ret
      refine⟨⟨false,rfl,⟨(fun h=>by cases h),fun h=>?_⟩⟩,HB.out.trans (hC.mono HB.out.size)⟩
      subst h
      have h:=HK.out.symm.trans HK2.out
      exact absurd (HQ.out.2 (congrArg Prod.snd h)) (by decide)
    ·have hNM:(M1 !=M2)=true:=by simpa using hMM
     have HM:=xh hMM
     clear hMM
     refine zaf (C:=fun w'=>Below wo.heap.size wo w') (X:=fun w w'=>Below w.heap.size w w') (n:=42) (by kernel_rfl) (by kernel_rfl) rfl (fun w=>Below.refl _ w) xr.drew ?_
     refine wA 0 ?_
     refine wA 5 ?_
     refine w_is (fun w=>Below.refl _ w) _ (.inl rfl) (fun ρ w hC hc hfn hf=>by have e17:ρ (.tmp 17)=_:=hf 17 (by decide);have e18:ρ (.tmp 18)=_:=hf 18 (by decide);(conv=>lhs;simp[execOp,go_sem,hc,e17,e18,hk0,hk1,hk2,hkn])) ?_
     refine wA 19 ?_
     refine wC 20 kc ?_
     refine wA 1 ?_
     refine wA 5 ?_
     refine w_is (fun w=>Below.refl _ w) _ (.inl rfl) (fun ρ w hC hc hfn hf=>by have e22:ρ (.tmp 22)=_:=hf 22 (by decide);have e23:ρ (.tmp 23)=_:=hf 23 (by decide);(conv=>lhs;simp[execOp,go_sem,hc,e22,e23,hk0,hk1,hk2,hkn])) ?_
     refine wA 24 ?_
     refine wC 25 kc ?_
     refine wE 21 26 hNM ?_
     refine wA 27 ?_
     refine wK ?_
     refine wK ?_
     refine wK ?_
     refine wK ?_
     refine wK ?_
     refine wK ?_
     refine wK ?_
     refine wK ?_
     refine wK ?_
     refine wK ?_
     refine wK ?_
     refine wK ?_
     refine wB 28 40 ?_
     intro A V5 hC hn hd hf
     have y0:=yA (hf 0)
     have y1:=yA (hf 1)
     have y2:=yA (hf 2)
     have y3:=yA (hf 3)
     have y4:=yA (hf 4)
     have y5:=yA (hf 5)
     have y6:=yA (hf 6)
     have y7:=yA (hf 7)
     have y8:=yA (hf 8)
     have y9:=yA (hf 9)
     have y10:=yA (hf 10)
     have y11:=yA (hf 11)
     have y12:=yA (hf 12)
     have y13:=yA (hf 13)
     have y14:=yA (hf 14)
     have y15:=yA (hf 15)
     have y16:=yA (hf 16)
     have y17:=yB (hf 17)
     have y18:=yB (hf 18)
     have y19:=yB (hf 19)
     have y20:=yB (hf 20)
     have y21:=yB (hf 21)
     have y22:=yB (hf 22)
     have y23:=yB (hf 23)
     have y24:=yB (hf 24)
     have y25:=yB (hf 25)
     have y26:=yB (hf 26)
     have y27:=yB (hf 27)
     have y28:=yB (hf 28)
     have y29:=yB (hf 29)
     have y30:=yB (hf 30)
     have y31:=yB (hf 31)
     have y32:=yB (hf 32)
     have y33:=yB (hf 33)
     have y34:=yB (hf 34)
     have y35:=yB (hf 35)
     have y36:=yB (hf 36)
     have y37:=yB (hf 37)
     have y38:=yB (hf 38)
     have y39:=yB (hf 39)
     have y40:=yB (hf 40)
     have y41:=yB (hf 41)
     clear hf
     have hA:=zaL hn
     rw[show List.range 42=[0,1,2,3,4,5,6,7,8,9,10,11,12,13,14,15,16,17,18,19,20,21,22,23,24,25,26,27,28,29,30,31,32,33,34,35,36,37,38,39,40,41]from rfl,hd]at hA
     simp only[List.map_cons,List.map_nil,y0,y1,y2,y3,y4,y5,y6,y7,y8,y9,y10,y11,y12,y13,y14,y15,y16,y17,y18,y19,y20,y21,y22,y23,y24,y25,y26,y27,y28,y29,y30,y31,y32,y33,y34,y35,y36,y37,y38,y39,y40,y41]at hA
     clear y0 y1 y2 y3 y4 y5 y6 y7 y8 y9 y10 y11 y12 y13 y14 y15 y16 y17 y18 y19 y20 y21 y22 y23 y24 y25 y26 y27 y28 y29 y30 y31 y32 y33 y34 y35 y36 y37 y38 y39 y40 y41
     clear hn hd
     subst hA
     go_wp2_with fail
     go_ret
     refine⟨⟨false,rfl,⟨(fun h=>by cases h),fun h=>?_⟩⟩,HB.out.trans (hC.mono HB.out.size)⟩
     subst h
     have h:=HK.out.symm.trans HK2.out
     exact absurd (congrArg Prod.fst h) HM.out
   ·obtain rfl:k=xs.length:=by omega
    go_wp2_with fail
    go_ret
    exact⟨⟨true,rfl,⟨fun _=>zlS HN.out HS.out,fun _=>rfl⟩⟩,HB.out⟩
 ·have hne':((xs.length:Int)==(zs.length:Int))=false:=by rw[beq_eq_false_iff_ne];omega
  have HN:=xh hne
  clear hne
  go_enter Tryz.func44,Tryz.ntmps44
  go_wp2_with fail
  go_ret
  exact⟨⟨false,rfl,⟨(fun h=>by cases h),fun h=>absurd (congrArg List.length h) HN.out⟩⟩,Below.refl _ _⟩
end
section
open Go.Sort
theorem ziF (N:Int)(v:Value)(ys:List Ob)(w:World)(hy:Os w v ys)(h:BtOk N ys):Calls Tryz.prog 46 #[.agg #[xI N,v]] w fun e w'=>(∃r,e=.returned (.tuple #[r,xI 0])∧w'.ownsRow w.heap.size 5 1 r (btB N ys).length ((btB N ys).map (Value.int .u8)))∧Below w.heap.size w w':=by
 obtain⟨a,c,rfl⟩:=hy.form
 have hl:ys.length≤32:=h.2.1.2
 have cR:=zdS N _ ys (w.alloc (.cells #[xI N,.slice a ys.length c] 45)) (hy.alloc _) (by omega)
 rw[decide_eq_true h]at cR
 obtain⟨hN,hlen,hok,htot⟩:=h
 have HOK:=xh hok
 have HY:=xh (hy.alloc (.cells #[xI N,.slice a ys.length c] 45))
 have hq:N.tdiv 256=N/256:=Int.tdiv_eq_ediv_of_nonneg hN.1
 have hr:N.tmod 256=N%256:=Int.tmod_eq_emod_of_nonneg hN.1
 have hwq:IntKind.u8.wrap (N/256)=N/256:=by rw[IntKind.wrap_u8];omega
 have hwr:IntKind.u8.wrap (N%256)=N%256:=by rw[IntKind.wrap_u8];omega
 have hwl:IntKind.u8.wrap (ys.length:Int)=(ys.length:Int):=by rw[IntKind.wrap_u8];omega
 have hwd:wrap64 (N/256)=N/256:=by unfold wrap64;omega
 have hwe:wrap64 (N%256)=N%256:=by unfold wrap64;omega
 clear hok hy
 go_enter Tryz.func46,Tryz.ntmps46
 go_wp2_with (go_at_call 68;refine cR.mono ?_;rintro e V ⟨rfl,hb⟩;have k0:V.cell? (w.heap.size,0)=xJ N:=(by rw[hb.cell (p:=xQ w.heap.size 0) (by simp)];simp);have k1:V.cell? (w.heap.size,1)=some (.slice a ys.length c):=(by rw[hb.cell (p:=xQ w.heap.size 1) (by simp)];simp);replace HY:=xh (HY.out.below hb);have HB:Hid (Below w.heap.size w V):=(xr.alloc xl _).trans (hb.mono (by simp));have HL:Hid (w.heap.size<V.heap.size):=Nat.lt_of_lt_of_le (by simp) hb.size;clear hb)
 have OS:Hid ((V.alloc (.cells #[.int .u8 (N/256),.int .u8 (N%256),.int .u8 ys.length] 5)).ownsRow V.heap.size 5 1 (.slice (some (V.heap.size,0)) 3 3) [N/256,N%256,(ys.length:Int)].length ([N/256,N%256,(ys.length:Int)].map (Value.int .u8))):=zlv V V.heap.size _ _ _ xl _ rfl
 go_loopw [4,5,6,7] (fun out i _ _ wr=>∃k:Nat,k≤ys.length∧i=xI k∧wr.ownsRow V.heap.size 5 1 out ([N/256,N%256,(ys.length:Int)]++((ys.take k).map Ob.bs).flatten).length (([N/256,N%256,(ys.length:Int)]++((ys.take k).map Ob.bs).flatten).map (Value.int .u8))∧Below V.heap.size V wr) (fun _ i _ _ _=>ys.length-(intOf i).toNat)
 case atStart=>exact⟨0,Nat.zero_le _,rfl,OS.out,(Below.refl _ V).alloc xl _⟩
 case round=>
  obtain⟨k,hk,rfl,hown,hbel⟩:=hrel
  have O1:=xh hown
  have B1:=xh hbel
  have c0:wr.cell? (w.heap.size,0)=xJ N:=by rw[hbel.cell (p:=xQ w.heap.size 0) HL.out];exact k0
  have c1:wr.cell? (w.heap.size,1)=some (.slice a ys.length c):=by rw[hbel.cell (p:=xQ w.heap.size 1) HL.out];exact k1
  clear hown hbel
  have hzl:=zeo ys k
  have hzz:=zbT (ys.take k)
  by_cases hlt:k<ys.length
  ·obtain⟨b,off,rfl,hB,hc⟩:=(HY.out.below B1.out).at hlt
   have HF:=xh (zg2 ys k hlt)
   have HK1:=xh (HOK.out k hlt)
   obtain⟨y,hyk⟩:∃y,ys.getD k z12=y:=⟨_,rfl⟩
   rw[hyk]at hc HF HK1
   obtain⟨p0,p1,p2,p3,p4,p5,p6,p7,p8,p9,p10,p11⟩:=hc.all
   have hyl:=zjK y
   clear hc hyk
   have cB:∀w,Calls Tryz.prog 69 #[.agg (xO y.k y.x y.n y.t y.o y.r y.d y.i y.p y.q y.s y.m)] w (RetB y.bs 0 w):=fun w=>by
    have h:=zc5 y.k y.x y.n y.t y.o y.r y.d y.i y.p y.q y.s y.m w
    rwa [show obc y.k y.x y.n y.t y.o y.r y.d y.i y.p y.q y.s y.m=0 from zb1 HK1.out]at h
   go_wp2_with fail
   refine(cB _).mono ?_
   rintro e w1 ⟨r1,rfl,hr1,hb⟩
   have O2:=xh (zaM O1.out hb)
   have R2:Hid (Bs w1 r1 y.bs):=hr1
   have B2:=xh (B1.out.trans (hb.mono B1.out.size))
   clear hb hr1
   go_wp2_with (at_builtin;refine za7 rfl (.tmp 40) (.tmp 41) rfl V.heap.size ([N/256,N%256,(ys.length:Int)]++((ys.take k).map Ob.bs).flatten) y.bs O2.out R2.out (by simp only[List.length_append,List.length_cons,List.length_nil];omega) B2.out.size ?_;intro v3 w3 hown3 hb3 hs3;have O3:=xh hown3;have B3:=xh (B2.out.trans hb3);clear hown3 hb3 hs3)
   go_roundw
   case rel=>exact⟨k+1,by omega,by go_num,by rw[HF.out,←List.append_assoc];exact O3.out,B3.out⟩
   case measure=>simp[intOf];omega
  ·obtain rfl:k=ys.length:=by omega
   go_wp2_with fail
   go_ret2
   refine⟨⟨_,rfl,?_⟩,HB.out.trans (B1.out.mono HB.out.size)⟩
   have hO:=O1.out
   rw[List.take_length]at hO
   exact zbs hO HB.out.size
end
end Go.Proofs.YtjghebcnmoojmaaGreat
