/- What each function answers of a beacon, in one form; Mathematics of a beacon's bytes: Mathematics of acks' bytes: Frames as data: Parts and frames in memory: Fr -/
import Derived.Test.YtjghebcnmoojmaaGreatV32
import Derived.Test.YtjghebcnmoojmaaGreatV34
set_option maxRecDepth 100000
set_option maxHeartbeats 32000000
namespace Go.Proofs.YtjghebcnmoojmaaGreat
open Go.RowKit MX
def WiOk (M:Int)(ys:List (Int×Int))(id ep:Int):Prop:=BeOk M ys∧BeOk M (winF ys id ep)
instance (M:Int)(ys:List (Int×Int))(id ep:Int):Decidable (WiOk M ys id ep):=by unfold WiOk;infer_instance
def byL (M:Int)(ys:List (Int×Int)):List Int:=if BeOk M ys then beB M ys else[]
def byK (M:Int)(ys:List (Int×Int)):Int:=if BeOk M ys then 0 else 1
theorem zjA (M:Int)(ys:List (Int×Int)):(beB M ys).length=5+5*ys.length:=by
 unfold beB
 simp only[List.length_append,zan,List.length_cons,List.length_nil,zcw]
theorem zn3 {M:Int}{ys:List (Int×Int)}(h:BeOk M ys):∀x∈beB M ys,0≤x∧x<256:=by
 intro x hx
 unfold beB at hx
 rw[List.mem_append,List.mem_append]at hx
 rcases hx with (hx|hx)|hx
 ·exact zkC x hx
 ·have:=h.len
  rw[List.mem_singleton]at hx
  omega
 ·obtain⟨l,hl,hx⟩:=List.mem_flatten.1 hx
  obtain⟨y,hy,rfl⟩:=List.mem_map.1 hl
  unfold ecB at hx
  rcases List.mem_cons.1 hx with rfl|hx
  ·have:=((zhG.1 h).2.1 y hy).1
   omega
  ·exact zkC x hx
theorem zi0 {xs:List Int}{k:Int}(h:(zaj xs k).e≠0):(zaj xs k).M=0∧(zaj xs k).ys=[]∧(zaj xs k).to=0:=by
 unfold zaj zbu at*
 split
 ·rename_i h1
  rw[if_pos h1]at h
  split
  ·rename_i h2;rw[if_pos h2]at h;exact absurd rfl h
  ·exact⟨rfl,rfl,rfl⟩
 ·exact⟨rfl,rfl,rfl⟩
theorem zjD {xs:List Int}{k:Int}(h:(zaj xs k).e=0):BeOk (zaj xs k).M (zaj xs k).ys:=by
 unfold zaj zbu at*
 split
 ·rename_i h1
  rw[if_pos h1]at h
  split
  ·rename_i h2;exact h2
  ·rename_i h2;rw[if_neg h2]at h;cases h
 ·rename_i h1;rw[if_neg h1]at h;exact absurd h h1
def zo1 (w:World)(M:Int)(L:List (Int×Int))(T K:Int)(e:Ending)(w':World):Prop:=
 ∃a c,e=.returned (.tuple #[.agg #[xI M,.slice a L.length c],xI T,xI K])∧OwE w' w.heap.size (.slice a L.length c) L∧Below w.heap.size w w'
theorem zif (v:Value)(xs:List Int)(k:Int)(w:World)(hv:Bs w v xs):Calls Tryz.prog 91 #[v,xI k] w (zo1 w (zaj xs k).M (zaj xs k).ys (zaj xs k).to (zaj xs k).e):=
 (ziK v k xs w hv).mono fun e w' ⟨r,h1,h2,h3⟩=>by
  obtain⟨a,c,rfl⟩:=h2.form
  exact⟨a,c,h1,h2,h3⟩
theorem zgU (v:Value)(xs:List Int)(k:Int)(w:World)(hv:Bs w v xs):Calls Tryz.prog 58 #[v,xI k] w (zo1 w (zaj xs k).M (zaj xs k).ys (zaj xs k).to (zaj xs k).e):=
 (zgW v xs k w hv).mono fun e w' ⟨⟨u,t,k',h1,h2⟩,h3⟩=>by
  rw[zoe]at h2
  by_cases he:(zaj xs k).e=0
  ·rw[if_neg (by rw[he];simp)]at h2
   obtain⟨rfl,rfl,u',rfl,ho⟩:=h2
   obtain⟨a,c,rfl⟩:=ho.form
   exact⟨a,c,by rw[h1,he],ho,h3⟩
  ·rw[if_pos he]at h2
   obtain⟨rfl,rfl,rfl⟩:=h2
   obtain⟨e1,e2,e3⟩:=zi0 he
   rw[e1,e2,e3]
   exact⟨none,0,h1,zdy _ _,h3⟩
theorem ze9 (f m:List Int)(v:Int)(n K:Nat)(hK:K=f.length)(h1:1≤n)(h7:n≤7)(hv:0≤v∧v<zao n):numS (f++(lo v n++m)) (n:Int) ((K:Int),0)=(v,(K:Int)+(n:Int),0):=by
 subst hK
 have hp:zcJ v (n:Int):=⟨by omega,by omega,hv.1,by simpa using hv.2⟩
 have:=zdx f m hp
 have hB:putB v (n:Int)=lo v n:=by unfold putB;rw[if_pos hp];simp
 rw[hB]at this
 rw[zdV]
 exact this
theorem zfy {xs:List Int}(hx:∀x∈xs,0≤x∧x<256){n K:Nat}{e v s:Int}(h:numS xs (n:Int) ((K:Int),e)=(v,s,0)):
  e=0∧K+n≤xs.length∧s=((K+n:Nat):Int)∧lo v n=(xs.drop K).take n:=by
 unfold numS at h
 simp only at h
 by_cases he:e=0
 ·rw[if_pos he]at h
  unfold getS at h
  split at h
  ·simp at h
  ·rename_i hn
   split at h
   ·simp at h
   ·rename_i hl
    simp only[Prod.mk.injEq]at h
    obtain⟨rfl,rfl,_⟩:=h
    have hlen:K+n≤xs.length:=by omega
    refine⟨he,hlen,by omega,?_⟩
    unfold segN
    simp only[Int.toNat_natCast]
    have hl2:((xs.drop K).take n).length=n:=by simp;omega
    have:=zgF ((xs.drop K).take n) (fun x hx'=>hx x (List.drop_subset _ _ (List.take_subset _ _ hx')))
    rw[hl2]at this
    exact this
 ·rw[if_neg he]at h
  simp only[Prod.mk.injEq]at h
  exact absurd h.2.2 he
theorem zmy {xs:List Int}{n p e v s:Int}(he:e≠0)(h:numS xs n (p,e)=(v,s,0)):False:=by
 rw[zec he]at h
 simp only[Prod.mk.injEq]at h
 exact he h.2.2
theorem ze7 {v:Int}(h:0≤v∧v≤255):lo v 1=[v]:=by
 unfold lo
 simp
 omega
theorem zmz {xs:List Int}(hx:∀x∈xs,0≤x∧x<256):∀(n:Nat) (ys:List (Int×Int)) (K:Nat) (e:Int),K≤xs.length→(itE xs n (ys,((K:Int),e))).2.2=0→
  e=0∧K+5*n≤xs.length∧∃zs,itE xs n (ys,((K:Int),e))=(ys++zs,(((K+5*n:Nat):Int),0))∧zs.length=n∧(zs.map ecB).flatten=(xs.drop K).take (5*n)
 | 0,ys,K,e,hK,h=>by
  have he:e=0:=h
  subst he
  exact⟨rfl,by omega,[],by simp[itE],rfl,by simp⟩
 | n+1,ys,K,e,hK,h=>by
  obtain⟨y1,s1,e1,h1⟩:∃x y z,numS xs 1 ((K:Int),e)=(x,y,z):=⟨_,_,_,rfl⟩
  obtain⟨y2,s2,e2,h2⟩:∃x y z,numS xs 4 (s1,e1)=(x,y,z):=⟨_,_,_,rfl⟩
  have hs:zc4 xs (ys,((K:Int),e))=(ys++[(y1,y2)],(s2,e2)):=by simp only[zc4,h1,h2]
  rw[itE,hs]at h ⊢
  by_cases he2:e2=0
  ·subst he2
   by_cases he1:e1=0
   ·subst he1
    obtain⟨i1,i2,i3,i4⟩:=zfy hx (n:=1) h1
    subst i3
    obtain⟨_,j2,j3,j4⟩:=zfy hx (n:=4) h2
    subst j3
    obtain⟨_,k2,zs,k3,k4,k5⟩:=zmz hx n (ys++[(y1,y2)]) (K+1+4) 0 (by omega) h
    refine⟨i1,by omega,(y1,y2)::zs,?_,by simp[k4],?_⟩
    ·rw[k3]
     simp only[List.append_assoc,List.singleton_append,Prod.mk.injEq,true_and,and_true]
     omega
    ·have hy:y1∈xs∧[y1]=(xs.drop K).take 1:=by
      have hd:(xs.drop K).take 1=[xs[K]]:=by
       rw[List.drop_eq_getElem_cons (by omega)];rfl
      have hb:=hx xs[K] (List.getElem_mem (by omega))
      have hv:y1=xs[K]:=by
       have hg:=h1
       rw[i1,zdV]at hg
       unfold getS at hg
       rw[if_neg (by omega),if_neg (by omega)]at hg
       simp only[Prod.mk.injEq]at hg
       rw[←hg.1]
       unfold segN
       simp only[Int.toNat_natCast]
       rw[show(1:Int).toNat=1 from rfl,hd]
       simp[be]
      rw[hd,hv]
      exact⟨List.getElem_mem _,rfl⟩
     rw[List.map_cons,List.flatten_cons,k5,ecB,show 5*(n+1)=1+(4+5*n)by omega,List.take_add,List.drop_drop,List.take_add,List.drop_drop,←j4,←hy.2]
     rfl
   ·exact(zmy he1 h2).elim
  ·rw[zdK he2]at h
   exact absurd h he2
theorem zh8 {xs:List Int}(hx:∀x∈xs,0≤x∧x<256){PM T E:Int}{PY:List (Int×Int)}(hp:zaj xs 0=⟨PM,PY,T,E⟩)(he:E=0):
  BeOk PM PY∧∃T':Nat,T=(T':Int)∧5≤T'∧T'≤xs.length∧beB PM PY=xs.take T':=by
 subst he
 have hok:BeOk PM PY:=by
  have:=zjD (xs:=xs) (k:=0) (by rw[hp])
  rw[hp]at this
  exact this
 refine⟨hok,?_⟩
 unfold zaj at hp
 obtain⟨N1,s1,e1,h1⟩:∃x y z,numS xs 4 (0,0)=(x,y,z):=⟨_,_,_,rfl⟩
 obtain⟨cn,s2,e2,h2⟩:∃x y z,numS xs 1 (s1,e1)=(x,y,z):=⟨_,_,_,rfl⟩
 simp only[h1,h2]at hp
 have hc:0≤cn∧cn≤255:=by have:=zem hx (s1,e1);rw[h2]at this;exact this
 unfold zbu at hp
 split at hp
 ·rename_i hr
  split at hp
  ·simp only[EP.mk.injEq,and_true]at hp
   obtain⟨rfl,hy,ht⟩:=hp
   have he2:e2=0:=by
    by_cases h0:e2=0
    ·exact h0
    ·rw[zdK h0]at hr;exact absurd hr h0
   subst he2
   have he1:e1=0:=by
    by_cases h0:e1=0
    ·exact h0
    ·exact(zmy h0 h2).elim
   subst he1
   obtain⟨_,i2,i3,i4⟩:=zfy hx (n:=4) (K:=0) (e:=0) h1
   subst i3
   obtain⟨_,j2,j3,j4⟩:=zfy hx (n:=1) h2
   subst j3
   obtain⟨_,k2,zs,k3,k4,k5⟩:=zmz hx cn.toNat [] (0+4+1) 0 (by omega) hr
   rw[k3]at hy ht
   simp only[List.nil_append]at hy ht
   subst hy
   refine⟨0+4+1+5*cn.toNat,ht.symm,by omega,k2,?_⟩
   rw[ze7 hc]at j4
   have hlen:(zs.length:Int)=cn:=by rw[k4];omega
   unfold beB
   rw[hlen,i4,j4,k5,show 0+4+1+5*cn.toNat=4+(1+5*cn.toNat)by omega,List.take_add,List.take_add,List.drop_drop,List.drop_zero]
   simp only[List.append_assoc]
  ·cases hp
 ·rename_i hr
  simp only[EP.no,EP.mk.injEq]at hp
  exact absurd hp.2.2.2 hr
theorem zmp (m:List Int):∀(rem:List (Int×Int)) (f:List Int) (acc:List (Int×Int)) (K:Nat),K=f.length→(∀y∈rem,EcIn y)→
  itE (f++((rem.map ecB).flatten++m)) rem.length (acc,((K:Int),0))=(acc++rem,(((K+5*rem.length:Nat):Int),0))
 | [],f,acc,K,_,_=>by simp[itE]
 | y::rem,f,acc,K,hK,h=>by
  have hy:=h y List.mem_cons_self
  have e1:f++(((y::rem).map ecB).flatten++m)=f++(lo y.1 1++(lo y.2 4++((rem.map ecB).flatten++m))):=by
   rw[ze7 (by have:=hy.1;omega)]
   simp[ecB]
  have e2:f++(((y::rem).map ecB).flatten++m)=(f++[y.1])++(lo y.2 4++((rem.map ecB).flatten++m)):=by simp[ecB]
  have e3:f++(((y::rem).map ecB).flatten++m)=(f++ecB y)++((rem.map ecB).flatten++m):=by simp
  have n1:numS (f++(((y::rem).map ecB).flatten++m)) 1 ((K:Int),0)=(y.1,((K+1:Nat):Int),0):=by
   rw[e1]
   have:=ze9 f (lo y.2 4++((rem.map ecB).flatten++m)) y.1 1 K hK (by decide) (by decide) ⟨hy.1.1,by have:=hy.1.2;show y.1<256*1;omega⟩
   simpa using this
  have n2:numS (f++(((y::rem).map ecB).flatten++m)) 4 (((K+1:Nat):Int),0)=(y.2,((K+5:Nat):Int),0):=by
   rw[e2]
   have:=ze9 (f++[y.1]) ((rem.map ecB).flatten++m) y.2 4 (K+1) (by simp[hK]) (by decide) (by decide) ⟨hy.2.1,by have:=hy.2.2;show y.2<256*(256*(256*(256*1)));omega⟩
   rw[show(((K+5:Nat)):Int)=((K+1:Nat):Int)+((4:Nat):Int)by omega]
   exact this
  have hs:zc4 (f++(((y::rem).map ecB).flatten++m)) (acc,((K:Int),0))=(acc++[y],(((K+5:Nat):Int),0)):=by
   simp only[zc4,n1,n2]
  rw[List.length_cons,itE,hs,e3,zmp m rem (f++ecB y) (acc++[y]) (K+5) (by rw[List.length_append,zju,hK]) (fun z hz=>h z (List.mem_cons_of_mem _ hz))]
  simp only[List.append_assoc,List.singleton_append,Prod.mk.injEq,true_and,and_true]
  omega
theorem ziw (f m:List Int){M:Int}{ys:List (Int×Int)}(h:BeOk M ys):zaj (f++(beB M ys++m)) f.length=⟨M,ys,(f.length:Int)+((beB M ys).length:Int),0⟩:=by
 have hl:=h.len
 have hM:=h.2
 have e1:f++(beB M ys++m)=f++(lo M 4++([(ys.length:Int)]++(((ys.map ecB).flatten)++m))):=by unfold beB;simp
 have e2:f++(beB M ys++m)=(f++lo M 4)++(lo (ys.length:Int) 1++(((ys.map ecB).flatten)++m)):=by
  rw[ze7 (by omega)];unfold beB;simp
 have e3:f++(beB M ys++m)=(f++lo M 4++[(ys.length:Int)])++(((ys.map ecB).flatten)++m):=by unfold beB;simp
 have n1:numS (f++(beB M ys++m)) 4 ((f.length:Int),0)=(M,((f.length+4:Nat):Int),0):=by
  rw[e1]
  have:=ze9 f ([(ys.length:Int)]++(((ys.map ecB).flatten)++m)) M 4 f.length rfl (by decide) (by decide) ⟨hM.1,by have:=hM.2;show M<256*(256*(256*(256*1)));omega⟩
  simpa using this
 have n2:numS (f++(beB M ys++m)) 1 (((f.length+4:Nat):Int),0)=((ys.length:Int),((f.length+5:Nat):Int),0):=by
  rw[e2]
  have:=ze9 (f++lo M 4) (((ys.map ecB).flatten)++m) (ys.length:Int) 1 (f.length+4) (by rw[List.length_append,zan]) (by decide) (by decide) ⟨by omega,by show(ys.length:Int)<256*1;omega⟩
  rw[show(((f.length+5:Nat)):Int)=((f.length+4:Nat):Int)+((1:Nat):Int)by omega]
  exact this
 have n3:itE (f++(beB M ys++m)) ys.length ([],(((f.length+5:Nat):Int),0))=(ys,(((f.length+5+5*ys.length:Nat):Int),0)):=by
  rw[e3,zmp m ys (f++lo M 4++[(ys.length:Int)]) [] (f.length+5) (by simp[zan]) (zhG.1 h).2.1]
  simp
 unfold zaj
 simp only[n1,n2,Int.toNat_natCast,n3]
 unfold zbu
 simp only[if_true,if_pos h]
 rw[zjA]
 simp only[EP.mk.injEq,true_and,and_true]
 omega
theorem zdq {f m xs:List Int}{v:Int}{n:Nat}{q z:Int}(hxs:xs=f++(lo v n++m))(hq:q=(f.length:Int))(hz:z=(n:Int))(h1:1≤n)(h7:n≤7)(hv:0≤v∧v<zao n):getS xs q z=(v,q+z,0):=by
 subst hxs;subst hq;subst hz
 have hp:zcJ v (n:Int):=⟨by omega,by omega,hv.1,by simpa using hv.2⟩
 have:=zdx f m hp
 have hB:putB v (n:Int)=lo v n:=by unfold putB;rw[if_pos hp];simp
 rw[hB]at this
 exact this
theorem zd8 {xs:List Int}(hx:∀x∈xs,0≤x∧x<256){n K:Nat}(h:(getS xs (K:Int) (n:Int)).2.2=0):
  K+n≤xs.length∧(getS xs (K:Int) (n:Int)).2.1=((K+n:Nat):Int)∧lo (getS xs (K:Int) (n:Int)).1 n=(xs.drop K).take n:=by
 unfold getS at h ⊢
 split at h
 ·simp at h
 ·rename_i hn
  rw[if_neg hn]
  split at h
  ·simp at h
  ·rename_i hl
   rw[if_neg hl]
   have hlen:K+n≤xs.length:=by omega
   refine⟨hlen,by simp,?_⟩
   unfold segN
   simp only[Int.toNat_natCast]
   have hl2:((xs.drop K).take n).length=n:=by simp;omega
   have:=zgF ((xs.drop K).take n) (fun x hx'=>hx x (List.drop_subset _ _ (List.take_subset _ _ hx')))
   rw[hl2]at this
   exact this
theorem zhY {xs:List Int}(hx:∀x∈xs,0≤x∧x<256){K:Nat}(h:(getS xs (K:Int) 1).2.2=0):
  K+1≤xs.length∧(getS xs (K:Int) 1).2.1=((K+1:Nat):Int)∧[(getS xs (K:Int) 1).1]=(xs.drop K).take 1:=by
 obtain⟨h1,h2,h3⟩:=zd8 hx (n:=1) h
 refine⟨h1,h2,?_⟩
 rw[←h3]
 exact(ze7 (zds hx _)).symm
theorem zpp {f m xs:List Int}{y:Int×Int×Int×Int}{q:Int}(hxs:xs=f++(akB y++m))(hq:q=(f.length:Int))(h:zcr y):
  (∀i,i<4→rdE xs q i=0)∧rdP xs q 4=q+9∧rdV xs q 0=y.1∧rdV xs q 1=y.2.1∧rdV xs q 2=y.2.2.1∧rdV xs q 3=y.2.2.2:=by
 obtain⟨h0,h1,h2,h3⟩:=h
 have e0:lo y.1 1=[y.1]:=ze7 (by omega)
 have hx0:xs=f++(lo y.1 1++(lo y.2.1 4++(lo y.2.2.1 2++(lo y.2.2.2 2++m)))):=by rw[hxs,akB,e0];simp
 have g0:getS xs q 1=(y.1,q+1,0):=zdq hx0 hq rfl (by decide) (by decide) ⟨h0.1,by have:=h0.2;show y.1<256*1;omega⟩
 have g1:getS xs (q+1) 4=(y.2.1,q+1+4,0):=zdq (f:=f++lo y.1 1) (m:=lo y.2.2.1 2++(lo y.2.2.2 2++m)) (by rw[hx0];simp) (by rw[hq];simp[zan]) rfl (by decide) (by decide) ⟨h1.1,by have:=h1.2;show y.2.1<256*(256*(256*(256*1)));omega⟩
 have g2:getS xs (q+1+4) 2=(y.2.2.1,q+1+4+2,0):=zdq (f:=f++lo y.1 1++lo y.2.1 4) (m:=lo y.2.2.2 2++m) (by rw[hx0];simp) (by rw[hq];simp[zan];omega) rfl (by decide) (by decide) ⟨h2.1,by have:=h2.2;show y.2.2.1<256*(256*1);omega⟩
 have g3:getS xs (q+1+4+2) 2=(y.2.2.2,q+1+4+2+2,0):=zdq (f:=f++lo y.1 1++lo y.2.1 4++lo y.2.2.1 2) (m:=m) (by rw[hx0];simp) (by rw[hq];simp[zan];omega) rfl (by decide) (by decide) ⟨h3.1,by have:=h3.2;show y.2.2.2<256*(256*1);omega⟩
 have p0:rdP xs q 0=q:=rfl
 have p1:rdP xs q 1=q+1:=by show(getS xs q 1).2.1=_;rw[g0]
 have p2:rdP xs q 2=q+1+4:=by show(getS xs (rdP xs q 1) 4).2.1=_;rw[p1,g1]
 have p3:rdP xs q 3=q+1+4+2:=by show(getS xs (rdP xs q 2) 2).2.1=_;rw[p2,g2]
 have p4:rdP xs q 4=q+1+4+2+2:=by show(getS xs (rdP xs q 3) 2).2.1=_;rw[p3,g3]
 refine⟨fun i hi=>?_,by rw[p4];omega,by show(getS xs q 1).1=_;rw[g0],by show(getS xs (rdP xs q 1) 4).1=_;rw[p1,g1],by show(getS xs (rdP xs q 2) 2).1=_;rw[p2,g2],by show(getS xs (rdP xs q 3) 2).1=_;rw[p3,g3]⟩
 have:i=0∨i=1∨i=2∨i=3:=by omega
 rcases this with rfl|rfl|rfl|rfl
 ·show(getS xs q 1).2.2=0;rw[g0]
 ·show(getS xs (rdP xs q 1) 4).2.2=0;rw[p1,g1]
 ·show(getS xs (rdP xs q 2) 2).2.2=0;rw[p2,g2]
 ·show(getS xs (rdP xs q 3) 2).2.2=0;rw[p3,g3]
theorem zi5 {m xs:List Int}:∀(ys acc:List (Int×Int×Int×Int)) (f:List Int) (q:Int),xs=f++((ys.map akB).flatten++m)→q=(f.length:Int)→(∀y∈ys,zcr y)→akP xs ys.length q acc=.inr (acc++ys,q+9*ys.length)
 | [],acc,f,q,_,_,_=>by simp[akP]
 | y::ys,acc,f,q,hxs,hq,h=>by
  obtain⟨h0,h1,h2,h3,h4,h5⟩:=zpp (f:=f) (m:=(ys.map akB).flatten++m) (y:=y) (q:=q) (xs:=xs) (by rw[hxs];simp) hq (h y (by simp))
  rw[List.length_cons,zmJ h0,h1,h2,h3,h4,h5,zi5 (m:=m) ys (acc++[y]) (f++akB y) (q+9) (by rw[hxs];simp) (by rw[hq];simp[zkr]) (fun z hz=>h z (List.mem_cons_of_mem _ hz))]
  simp
  omega
theorem zlb {f m:List Int}{ys:List (Int×Int×Int×Int)}(h:zbq ys):acPF (f++(acB ys++m)) f.length=.inr (ys,(f.length:Int)+(acB ys).length):=by
 have hl:=h.2.2
 have hone:∀y∈ys,zcr y:=fun y hy=>by
  obtain⟨i,hi,rfl⟩:=List.mem_iff_getElem.1 hy
  have:=(h.1 i hi).1
  simpa [List.getD,hi]using this
 obtain⟨xs,hxs⟩:∃xs,f++(acB ys++m)=xs:=⟨_,rfl⟩
 have hx0:xs=f++(lo (ys.length:Int) 1++((ys.map akB).flatten++m)):=by rw[←hxs,acB,ze7 (by omega)];simp
 have g0:getS xs (f.length:Int) 1=((ys.length:Int),(f.length:Int)+1,0):=zdq hx0 rfl rfl (by decide) (by decide) ⟨by omega,by show(ys.length:Int)<256*1;omega⟩
 have hr:=zi5 (xs:=xs) (m:=m) ys [] (f++lo (ys.length:Int) 1) ((f.length:Int)+1) (by rw[hx0];simp) (by simp[zan]) hone
 rw[hxs]
 unfold acPF
 rw[g0]
 simp only[ne_eq,not_true_eq_false,if_false,Int.toNat_natCast,hr,List.nil_append]
 rw[if_pos h,acB,List.length_append,zbY]
 simp
 omega
theorem zj7 {xs:List Int}(hx:∀x∈xs,0≤x∧x<256):∀(n K:Nat) (acc l:List (Int×Int×Int×Int)) (to:Int),K≤xs.length→akP xs n (K:Int) acc=.inr (l,to)→
  ∃zs,l=acc++zs∧zs.length=n∧to=((K+9*n:Nat):Int)∧K+9*n≤xs.length∧(zs.map akB).flatten=(xs.drop K).take (9*n)
 | 0,K,acc,l,to,hK,h=>by
  simp only[akP,Sum.inr.injEq,Prod.mk.injEq]at h
  exact⟨[],by simp[h.1],rfl,by simp[h.2],by omega,by simp⟩
 | n+1,K,acc,l,to,hK,h=>by
  rw[akP]at h
  by_cases e0:rdE xs (K:Int) 0=0
  ·rw[if_neg (not_not_intro e0)]at h
   by_cases e1:rdE xs (K:Int) 1=0
   ·rw[if_neg (not_not_intro e1)]at h
    by_cases e2:rdE xs (K:Int) 2=0
    ·rw[if_neg (not_not_intro e2)]at h
     by_cases e3:rdE xs (K:Int) 3=0
     ·rw[if_neg (not_not_intro e3)]at h
      have e0':(getS xs (K:Int) 1).2.2=0:=e0
      obtain⟨a1,a2,a3⟩:=zhY hx e0'
      have p1:rdP xs (K:Int) 1=((K+1:Nat):Int):=a2
      have e1':(getS xs (rdP xs (K:Int) 1) 4).2.2=0:=e1
      rw[p1]at e1'
      obtain⟨b1,b2,b3⟩:=zd8 hx (n:=4) e1'
      have p2:rdP xs (K:Int) 2=((K+1+4:Nat):Int):=by show(getS xs (rdP xs (K:Int) 1) 4).2.1=_;rw[p1];exact b2
      have e2':(getS xs (rdP xs (K:Int) 2) 2).2.2=0:=e2
      rw[p2]at e2'
      obtain⟨c1,c2,c3⟩:=zd8 hx (n:=2) e2'
      have p3:rdP xs (K:Int) 3=((K+1+4+2:Nat):Int):=by show(getS xs (rdP xs (K:Int) 2) 2).2.1=_;rw[p2];exact c2
      have e3':(getS xs (rdP xs (K:Int) 3) 2).2.2=0:=e3
      rw[p3]at e3'
      obtain⟨d1,d2,d3⟩:=zd8 hx (n:=2) e3'
      have p4:rdP xs (K:Int) 4=((K+1+4+2+2:Nat):Int):=by show(getS xs (rdP xs (K:Int) 3) 2).2.1=_;rw[p3];exact d2
      rw[p4]at h
      obtain⟨zs,k1,k2,k3,k4,k5⟩:=zj7 hx n (K+1+4+2+2) _ l to d1 h
      have v1:rdV xs (K:Int) 1=(getS xs ((K+1:Nat):Int) (4:Nat)).1:=by show(getS xs (rdP xs (K:Int) 1) 4).1=_;rw[p1];rfl
      have v2:rdV xs (K:Int) 2=(getS xs ((K+1+4:Nat):Int) (2:Nat)).1:=by show(getS xs (rdP xs (K:Int) 2) 2).1=_;rw[p2];rfl
      have v3:rdV xs (K:Int) 3=(getS xs ((K+1+4+2:Nat):Int) (2:Nat)).1:=by show(getS xs (rdP xs (K:Int) 3) 2).1=_;rw[p3];rfl
      have v0:rdV xs (K:Int) 0=(getS xs (K:Int) 1).1:=rfl
      refine⟨(rdV xs (K:Int) 0,rdV xs (K:Int) 1,rdV xs (K:Int) 2,rdV xs (K:Int) 3)::zs,by rw[k1];simp,by simp[k2],by rw[k3];congr 1;omega,by omega,?_⟩
      rw[List.map_cons,List.flatten_cons,k5,akB]
      simp only
      rw[v0,v1,v2,v3,b3,c3,d3,show 9*(n+1)=1+(4+(2+(2+9*n)))by omega,List.take_add,List.drop_drop,List.take_add,List.drop_drop,List.take_add,List.drop_drop,List.take_add,List.drop_drop,←a3]
      simp
     ·rw[if_pos e3]at h;cases h
    ·rw[if_pos e2]at h;cases h
   ·rw[if_pos e1]at h;cases h
  ·rw[if_pos e0]at h;cases h
theorem zlG {xs:List Int}(hx:∀x∈xs,0≤x∧x<256){ys:List (Int×Int×Int×Int)}{to:Int}(h:acPF xs 0=.inr (ys,to)):
  zbq ys∧∃T:Nat,to=(T:Int)∧10≤T∧T≤xs.length∧acB ys=xs.take T:=by
 unfold acPF at h
 by_cases e:(getS xs 0 1).2.2=0
 ·rw[if_neg (not_not_intro e)]at h
  obtain⟨a1,a2,a3⟩:=zhY hx (K:=0) e
  have hb:=zds hx 0
  obtain⟨c,hc⟩:∃c,(getS xs 0 1).1=c:=⟨_,rfl⟩
  have a2':(getS xs 0 1).2.1=((1:Nat):Int):=by simpa using a2
  have a3':[c]=xs.take 1:=by rw[←hc];simpa using a3
  rw[hc]at h hb
  rw[a2']at h
  cases hr:akP xs c.toNat ((1:Nat):Int) []with
  | inl e=>rw[hr]at h;cases h
  | inr r=>
   obtain⟨l,t⟩:=r
   rw[hr]at h
   simp only at h
   split at h
   ·rename_i hok
    simp only[Sum.inr.injEq,Prod.mk.injEq]at h
    obtain⟨rfl,rfl⟩:=h
    obtain⟨zs,k1,k2,k3,k4,k5⟩:=zj7 hx c.toNat 1 [] l t (by omega) hr
    rw[List.nil_append]at k1
    subst k1
    refine⟨hok,1+9*c.toNat,k3,?_,k4,?_⟩
    ·have:=hok.2.1;omega
    ·have hlen:(l.length:Int)=c:=by rw[k2];omega
     unfold acB
     rw[hlen,k5,a3',List.take_add]
   ·cases h
 ·rw[if_pos e]at h;cases h
structure Pt where
 k:Int
 be:Int
 es:List (Int×Int)
 bn:Int
 os:List Ob
 ks:List (Int×Int×Int×Int)
 s:Int
 d:Int
 t:Int
 n:Int
 x:ByteArray
def zPt:Pt:=⟨0,0,[],0,[],[],0,0,0,0,⟨#[]⟩⟩
def Pt.noBe (p:Pt):Prop:=p.be=0∧p.es.length=0
def Pt.noBt (p:Pt):Prop:=p.bn=0∧p.os.length=0
def Pt.noAk (p:Pt):Prop:=p.ks.length=0
def Pt.noPk (p:Pt):Prop:=p.s=0∧p.d=0∧p.t=0∧p.n=0∧p.x=⟨#[]⟩
instance (p:Pt):Decidable p.noBe:=by unfold Pt.noBe;infer_instance
instance (p:Pt):Decidable p.noBt:=by unfold Pt.noBt;infer_instance
instance (p:Pt):Decidable p.noAk:=by unfold Pt.noAk;infer_instance
instance (p:Pt):Decidable p.noPk:=by unfold Pt.noPk;infer_instance
def Pt.Ok (p:Pt):Prop:=
 (p.k=1∧BeOk p.be p.es∧p.noBt∧p.noAk∧p.noPk)∨(p.k=2∧p.noBe∧BtOk p.bn p.os∧p.noAk∧p.noPk)∨
 (p.k=3∧p.noBe∧p.noBt∧zbq p.ks∧p.noPk)∨(p.k=4∧p.noBe∧p.noBt∧p.noAk∧PkOk p.s p.d p.t p.n p.x)
instance (p:Pt):Decidable p.Ok:=by unfold Pt.Ok;infer_instance
def Pt.bs (p:Pt):List Int:=if p.k=1 then beB p.be p.es else if p.k=2 then btB p.bn p.os else if p.k=3 then acB p.ks else pkB p.s p.d p.t p.n p.x
def Pt.row (p:Pt):List Int:=[p.k,(p.bs.length:Int)/256,(p.bs.length:Int)%256]++p.bs
def psB (ps:List Pt):List Int:=(ps.map Pt.row).flatten
def AllP (ps:List Pt):Prop:=∀i,i<ps.length→(ps.getD i zPt).Ok
instance (ps:List Pt):Decidable (AllP ps):=by unfold AllP;infer_instance
theorem Pt.row_len (p:Pt):p.row.length=3+p.bs.length:=by simp[Pt.row];omega
theorem zfB (p:Pt)(ps:List Pt):psB (p::ps)=p.row++psB ps:=rfl
theorem zfq (ps:List Pt)(k:Nat)(h:k<ps.length):psB (ps.take (k+1))=psB (ps.take k)++(ps.getD k zPt).row:=by
 unfold psB
 rw[List.take_succ_eq_append_getElem h,List.map_append,List.flatten_append];simp[List.getD,h]
theorem zdg {p:Pt}{ps:List Pt}:AllP (p::ps)↔p.Ok∧AllP ps:=
 ⟨fun h=>⟨h 0 (by simp),fun i hi=>h (i+1) (by simpa using hi)⟩,fun⟨h,h'⟩ i hi=>match i with
  | 0=>h
  | i+1=>h' i (by simpa using hi)⟩
theorem zow {N:Int}{ys:List Ob}(h:BtOk N ys):Byt (btB N ys):=by
 obtain⟨hN,hl,hok,_⟩:=h
 unfold btB
 refine zaS (fun x hx=>?_) (fun x hx=>?_)
 ·simp only[List.mem_cons,List.not_mem_nil,or_false]at hx
  rcases hx with rfl|rfl|rfl<;>omega
 ·obtain⟨l,hm,hxl⟩:=List.mem_flatten.1 hx
  obtain⟨y,hy,rfl⟩:=List.mem_map.1 hm
  obtain⟨i,hi,rfl⟩:=List.mem_iff_getElem.1 hy
  have:=hok i hi
  rw[show ys.getD i z12=ys[i]by simp[List.getD,hi]]at this
  exact zmt this x hxl
theorem zon (N:Int)(ys:List Ob):(btB N ys).length=3+osz ys:=by
 unfold btB;rw[List.length_append,zbT];rfl
theorem Pt.bs_byt {p:Pt}(h:p.Ok):∀x∈p.bs,0≤x∧x<256:=by
 unfold Pt.bs
 rcases h with ⟨hk,h,_⟩|⟨hk,_,h,_⟩|⟨hk,_,_,h,_⟩|⟨hk,_,_,_,h⟩<;>rw[hk]
 ·exact zn3 h
 ·exact zow h
 ·exact znm h
 ·exact zm1 h
theorem BeOk.len' {M:Int}{ys:List (Int×Int)}(h:BeOk M ys):(beB M ys).length≤325:=by rw[zjA];have:=h.len;omega
theorem Pt.bs_len {p:Pt}(h:p.Ok):p.bs.length≤600:=by
 unfold Pt.bs
 rcases h with ⟨hk,h,_⟩|⟨hk,_,h,_⟩|⟨hk,_,_,h,_⟩|⟨hk,_,_,_,h⟩<;>rw[hk]
 ·have:=h.len';simp only[if_true];omega
 ·rw[if_neg (by decide),if_pos rfl,zon]
  have:=h.2.2.2
  omega
 ·rw[if_neg (by decide),if_neg (by decide),if_pos rfl,zoo]
  have:=h.2;omega
 ·rw[if_neg (by decide),if_neg (by decide),if_neg (by decide),zjP]
  have:=h.2.2.2.2;omega
theorem Pt.row_byt {p:Pt}(h:p.Ok):∀x∈p.row,0≤x∧x<256:=fun x hx=>by
 have hl:=Pt.bs_len h
 have hk:1≤p.k∧p.k≤4:=by rcases h with ⟨hk,_⟩|⟨hk,_⟩|⟨hk,_⟩|⟨hk,_⟩<;>omega
 rcases List.mem_append.1 hx with hx|hx
 ·simp only[List.mem_cons,List.not_mem_nil,or_false]at hx
  rcases hx with rfl|rfl|rfl<;>omega
 ·exact Pt.bs_byt h x hx
theorem zg3 {ps:List Pt}(h:AllP ps):∀x∈psB ps,0≤x∧x<256:=by
 induction ps with
 | nil=>intro x hx;cases hx
 | cons p ps ih=>
  intro x hx
  obtain⟨h1,h2⟩:=zdg.1 h
  rcases List.mem_append.1 hx with hx|hx
  ·exact Pt.row_byt h1 x hx
  ·exact ih h2 x hx
theorem zft {ps:List Pt}(h:AllP ps):(psB ps).length≤603*ps.length:=by
 induction ps with
 | nil=>simp[psB]
 | cons p ps ih=>
  obtain⟨h1,h2⟩:=zdg.1 h
  have:=ih h2
  have:=Pt.bs_len h1
  rw[zfB,List.length_append,Pt.row_len,List.length_cons];omega
def FrHd (fr ep to pe:Int)(n:Nat):Prop:=(0≤fr∧fr<64)∧((0≤to∧to<64)∨(to=255∧pe=0))∧EpOk ep∧EpOk pe∧1≤n∧n≤8
instance (fr ep to pe:Int)(n:Nat):Decidable (FrHd fr ep to pe n):=by unfold FrHd;infer_instance
def FrOk (fr ep to pe:Int)(ps:List Pt):Prop:=FrHd fr ep to pe ps.length∧AllP ps∧17+(psB ps).length≤1400
instance (fr ep to pe:Int)(ps:List Pt):Decidable (FrOk fr ep to pe ps):=by unfold FrOk;infer_instance
def zbB (fr ep to pe n c:Int):List Int:=[84,1,fr,to]++(lo ep 4++(lo pe 4++[n/256,n%256,c]))
def frB0 (fr ep to pe:Int)(ps:List Pt):List Int:=zbB fr ep to pe (17+((psB ps).length:Int)) ps.length++psB ps
def frB (fr ep to pe:Int)(ps:List Pt):List Int:=frB0 fr ep to pe ps++[sumN (frB0 fr ep to pe ps)/256,sumN (frB0 fr ep to pe ps)%256]
theorem ze6 (fr ep to pe n c:Int):(zbB fr ep to pe n c).length=15:=by simp[zbB,zan]
theorem zbP (fr ep to pe:Int)(ps:List Pt):(frB0 fr ep to pe ps).length=15+(psB ps).length:=by rw[frB0,List.length_append,ze6]
theorem zfp (fr ep to pe:Int)(ps:List Pt):(frB fr ep to pe ps).length=17+(psB ps).length:=by rw[frB,List.length_append,zbP];simp;omega
theorem zdM (xs:List Int):0≤sumN xs∧sumN xs≤65535:=by
 have:=zg8 xs;unfold sumN;omega
theorem ziZ {fr ep to pe n c:Int}(hf:0≤fr∧fr<256)(ht:0≤to∧to<256)(hn:0≤n∧n≤65535)(hc:0≤c∧c<256):∀x∈zbB fr ep to pe n c,0≤x∧x<256:=fun x hx=>by
 rcases List.mem_append.1 hx with hx|hx
 ·simp only[List.mem_cons,List.not_mem_nil,or_false]at hx
  rcases hx with rfl|rfl|rfl|rfl<;>omega
 ·rcases List.mem_append.1 hx with hx|hx
  ·exact zcW ep 4 x hx
  ·rcases List.mem_append.1 hx with hx|hx
   ·exact zcW pe 4 x hx
   ·simp only[List.mem_cons,List.not_mem_nil,or_false]at hx
    rcases hx with rfl|rfl|rfl<;>omega
theorem FrHd.lo {fr ep to pe:Int}{n:Nat}(h:FrHd fr ep to pe n):(0≤fr∧fr<256)∧(0≤to∧to<256)∧((0:Int)≤n∧(n:Int)<256):=by
 obtain⟨h1,h2,_,_,h5⟩:=h
 refine⟨by omega,?_,by omega⟩
 rcases h2 with h2|h2<;>omega
theorem zhU {fr ep to pe:Int}{ps:List Pt}(h:FrOk fr ep to pe ps):∀x∈frB0 fr ep to pe ps,0≤x∧x<256:=fun x hx=>by
 obtain⟨a,b,c⟩:=h.1.lo
 rcases List.mem_append.1 hx with hx|hx
 ·exact ziZ a b (by have:=h.2.2;omega) c x hx
 ·exact zg3 h.2.1 x hx
theorem zmP {fr ep to pe:Int}{ps:List Pt}(h:FrOk fr ep to pe ps):∀x∈frB fr ep to pe ps,0≤x∧x<256:=fun x hx=>by
 rcases List.mem_append.1 hx with hx|hx
 ·exact zhU h x hx
 ·have:=zdM (frB0 fr ep to pe ps)
  simp only[List.mem_cons,List.not_mem_nil,or_false]at hx
  rcases hx with rfl|rfl<;>omega
theorem zkH {p:Pt}(h:p.k=1):p.bs=beB p.be p.es:=by unfold Pt.bs;rw[if_pos h]
theorem zkG {p:Pt}(h:p.k=2):p.bs=btB p.bn p.os:=by unfold Pt.bs;rw[if_neg (by omega),if_pos h]
theorem zkI {p:Pt}(h:p.k=3):p.bs=acB p.ks:=by unfold Pt.bs;rw[if_neg (by omega),if_neg (by omega),if_pos h]
theorem zkd {p:Pt}(h:p.k=4):p.bs=pkB p.s p.d p.t p.n p.x:=by unfold Pt.bs;rw[if_neg (by omega),if_neg (by omega),if_neg (by omega)]
def zaE (k:Int)(b:List Int):Option Pt:=
 if k=1 then(if(zaj b 0).e=0∧(zaj b 0).to=b.length then some ⟨1,(zaj b 0).M,(zaj b 0).ys,0,[],[],0,0,0,0,⟨#[]⟩⟩else none)
 else if k=2 then(if(zaz b 0).e=0∧(zaz b 0).to=b.length then some ⟨2,0,[],(zaz b 0).M,(zaz b 0).ys,[],0,0,0,0,⟨#[]⟩⟩else none)
 else if k=3 then(if paK (acPF b 0)=0∧paT (acPF b 0)=b.length then some ⟨3,0,[],0,[],paY (acPF b 0),0,0,0,0,⟨#[]⟩⟩else none)
 else if k=4 then(if pkE (pkPF b 0)=0∧pkT (pkPF b 0)=b.length then some ⟨4,0,[],0,[],[],(pkR (pkPF b 0)).1,(pkR (pkPF b 0)).2.1,(pkR (pkPF b 0)).2.2.1,(pkR (pkPF b 0)).2.2.2.1,(pkR (pkPF b 0)).2.2.2.2⟩else none)
 else none
theorem znn (b:List Int):zaE 1 b=if(zaj b 0).e=0∧(zaj b 0).to=b.length then some ⟨1,(zaj b 0).M,(zaj b 0).ys,0,[],[],0,0,0,0,⟨#[]⟩⟩else none:=rfl
theorem zmQ (b:List Int):zaE 2 b=if(zaz b 0).e=0∧(zaz b 0).to=b.length then some ⟨2,0,[],(zaz b 0).M,(zaz b 0).ys,[],0,0,0,0,⟨#[]⟩⟩else none:=rfl
theorem zn6 (b:List Int):zaE 3 b=if paK (acPF b 0)=0∧paT (acPF b 0)=b.length then some ⟨3,0,[],0,[],paY (acPF b 0),0,0,0,0,⟨#[]⟩⟩else none:=rfl
theorem zmN (b:List Int):zaE 4 b=if pkE (pkPF b 0)=0∧pkT (pkPF b 0)=b.length then some ⟨4,0,[],0,[],[],(pkR (pkPF b 0)).1,(pkR (pkPF b 0)).2.1,(pkR (pkPF b 0)).2.2.1,(pkR (pkPF b 0)).2.2.2.1,(pkR (pkPF b 0)).2.2.2.2⟩else none:=rfl
theorem zmO {b:List Int}{q e:Int}(h:acPF b q=.inl e):e≠0:=by
 rw[zks]at h
 unfold finA at h
 split at h
 ·rename_i h1;cases h;exact h1
 ·split at h
  ·cases h
  ·cases h;decide
theorem zm2 {b:List Int}{q e:Int}(h:pkPF b q=.inl e):e≠0:=by
 unfold pkPF at h
 split at h
 ·rename_i h1;cases h;exact h1
 split at h
 ·rename_i h1;cases h;exact h1
 split at h
 ·rename_i h1;cases h;exact h1
 split at h
 ·rename_i h1;cases h;exact h1
 split at h
 ·rename_i h1;cases h;exact h1
 unfold endP at h
 split at h
 ·cases h;decide
 split at h
 ·cases h;decide
 split at h
 ·cases h
 ·cases h;decide
theorem ziM (b:List Int)(hk:paK (acPF b 0)=0):∃ys to,acPF b 0=.inr (ys,to):=by
 match h:acPF b 0 with
 | .inr (ys,to)=>exact⟨ys,to,rfl⟩
 | .inl e=>
  rw[h]at hk
  have he:e=0:=hk
  exact absurd (zmO h) (by simp[he])
theorem ziH (b:List Int)(hk:pkE (pkPF b 0)=0):∃p to,pkPF b 0=.inr (p,to):=by
 match h:pkPF b 0 with
 | .inr (p,to)=>exact⟨p,to,rfl⟩
 | .inl e=>
  rw[h]at hk
  have he:e=0:=hk
  exact absurd (zm2 h) (by simp[he])
theorem zdW {k:Int}{b:List Int}{p:Pt}(hb:∀x∈b,0≤x∧x<256)(h:zaE k b=some p):p.Ok∧p.k=k∧p.bs=b:=by
 unfold zaE at h
 split at h
 ·rename_i hk
  split at h
  ·rename_i h1
   obtain⟨⟨M,ys,T,E⟩,hv⟩:∃r,zaj b 0=r:=⟨_,rfl⟩
   rw[hv]at h1 h
   simp only at h1 h
   obtain⟨a1,T',a2,a3,a4,a5⟩:=zh8 hb hv h1.1
   obtain rfl:T'=b.length:=by have:=h1.2;omega
   rw[List.take_length]at a5
   cases h
   refine⟨.inl ⟨rfl,a1,⟨rfl,rfl⟩,rfl,⟨rfl,rfl,rfl,rfl,rfl⟩⟩,hk.symm,?_⟩
   exact(zkH rfl).trans a5
  ·cases h
 ·split at h
  ·rename_i hk
   split at h
   ·rename_i h1
    obtain⟨a1,T',a2,a3,a4,a5⟩:=zh7 b hb _ rfl h1.1
    obtain rfl:T'=b.length:=by have:=h1.2;omega
    rw[List.take_length]at a5
    cases h
    refine⟨.inr (.inl ⟨rfl,⟨rfl,rfl⟩,a1,rfl,⟨rfl,rfl,rfl,rfl,rfl⟩⟩),hk.symm,?_⟩
    exact(zkG rfl).trans a5.symm
   ·cases h
  ·split at h
   ·rename_i hk
    split at h
    ·rename_i h1
     obtain⟨ys,to,hv⟩:=ziM b h1.1
     obtain⟨a1,T',a2,a3,a4,a5⟩:=zlG hb hv
     rw[hv]at h1 h
     obtain rfl:T'=b.length:=by have:to=b.length:=h1.2;omega
     rw[List.take_length]at a5
     cases h
     refine⟨.inr (.inr (.inl ⟨rfl,⟨rfl,rfl⟩,⟨rfl,rfl⟩,a1,⟨rfl,rfl,rfl,rfl,rfl⟩⟩)),hk.symm,?_⟩
     exact(zkI rfl).trans a5
    ·cases h
   ·split at h
    ·rename_i hk
     split at h
     ·rename_i h1
      obtain⟨⟨s,d,t,n,x⟩,to,hv⟩:=ziH b h1.1
      obtain⟨a1,T',a2,a3,a4,a5⟩:=zkX hb hv
      rw[hv]at h1 h
      obtain rfl:T'=b.length:=by have:to=b.length:=h1.2;omega
      rw[List.take_length]at a5
      cases h
      refine⟨.inr (.inr (.inr ⟨rfl,⟨rfl,rfl⟩,⟨rfl,rfl⟩,rfl,a1⟩)),hk.symm,?_⟩
      exact(zkd rfl).trans a5
     ·cases h
    ·cases h
theorem zaD {α:Type}{l:List α}(h:l.length=0):l=[]:=List.length_eq_zero_iff.1 h
theorem zii {p:Pt}(h:p.Ok):zaE p.k p.bs=some p:=by
 obtain⟨k,be,es,bn,os,ks,s,d,t,n,x⟩:=p
 unfold Pt.Ok Pt.noBe Pt.noBt Pt.noAk Pt.noPk at h
 simp only at h
 rcases h with ⟨rfl,h,⟨rfl,h3⟩,h4,rfl,rfl,rfl,rfl,rfl⟩|⟨rfl,⟨rfl,h3⟩,h,h4,rfl,rfl,rfl,rfl,rfl⟩|⟨rfl,⟨rfl,h3⟩,⟨rfl,h4⟩,h,rfl,rfl,rfl,rfl,rfl⟩|⟨rfl,⟨rfl,h3⟩,⟨rfl,h4⟩,h5,h⟩
 ·obtain rfl:=zaD h3
  obtain rfl:=zaD h4
  have e:=ziw [] [] h
  simp only[List.append_nil,List.nil_append,List.length_nil]at e
  rw[zkH rfl]
  show zaE 1 (beB be es)=_
  rw[znn,show(0:Int)=((0:Nat):Int)from rfl,e]
  simp
 ·obtain rfl:=zaD h3
  obtain rfl:=zaD h4
  have e:=ziA [] [] bn os h
  simp only[List.append_nil,List.nil_append,List.length_nil]at e
  rw[zkG rfl]
  show zaE 2 (btB bn os)=_
  rw[zmQ,show(0:Int)=((0:Nat):Int)from rfl,e]
  simp
 ·obtain rfl:=zaD h3
  obtain rfl:=zaD h4
  have e:=zlb (f:=[]) (m:=[]) h
  simp only[List.append_nil,List.nil_append,List.length_nil]at e
  rw[zkI rfl]
  show zaE 3 (acB ks)=_
  rw[zn6,show(0:Int)=((0:Nat):Int)from rfl,e]
  simp[paK,paT,paY]
 ·obtain rfl:=zaD h3
  obtain rfl:=zaD h4
  obtain rfl:=zaD h5
  have e:=zlm (f:=[]) (m:=[]) h
  simp only[List.append_nil,List.nil_append,List.length_nil]at e
  rw[zkd rfl]
  show zaE 4 (pkB s d t n x)=_
  rw[zmN,show(0:Int)=((0:Nat):Int)from rfl,e]
  simp[pkE,pkT,pkR,zjP]
section
open Go.WideShapes Go.ChangeShapes
theorem zc9 {a b c d:Int}{x:ByteArray}{a' b' c' d':Int}{x':ByteArray}:eqK a b c d x a' b' c' d' x'=true↔(a,b,c,d,x)=(a',b',c',d',x'):=by simp[eqK,ByteArray.toList_eq,ByteArray.ext_iff]
structure RPt where
 k:Int
 be:Int
 a1:Option Addr
 l1:Nat
 c1:Nat
 bn:Int
 a2:Option Addr
 l2:Nat
 c2:Nat
 a3:Option Addr
 l3:Nat
 c3:Nat
 s:Int
 d:Int
 t:Int
 n:Int
 x:ByteArray
inductive MR where
 | xR (r:RPt)
 | xK (k:Int) (r:RPt)
open MR
instance (r:RPt):CoeDep MR (xR r) (Array Value):=⟨#[.int .i64 r.k,.int .i64 r.be,.slice r.a1 r.l1 r.c1,.int .i64 r.bn,.slice r.a2 r.l2 r.c2,.slice r.a3 r.l3 r.c3,.int .i64 r.s,.int .i64 r.d,.int .i64 r.t,.int .i64 r.n,.string r.x]⟩
instance (k:Int)(r:RPt):CoeDep MR (xK k r) (Array Value):=⟨#[.int .i64 k,.int .i64 r.be,.slice r.a1 r.l1 r.c1,.int .i64 r.bn,.slice r.a2 r.l2 r.c2,.slice r.a3 r.l3 r.c3,.int .i64 r.s,.int .i64 r.d,.int .i64 r.t,.int .i64 r.n,.string r.x]⟩
def zR:RPt:=⟨0,0,none,0,0,0,none,0,0,none,0,0,0,0,0,0,⟨#[]⟩⟩
def RPt.cl (r:RPt):List Value:=[xI r.k,xI r.be,.slice r.a1 r.l1 r.c1,xI r.bn,.slice r.a2 r.l2 r.c2,.slice r.a3 r.l3 r.c3,xI r.s,xI r.d,xI r.t,xI r.n,.string r.x]
theorem zoI:(Tryz.prog.info? 50).map (fun i=>(i.zero,i.size,i.bytes))=some (some (.agg xL),11,144):=by kernel_rfl
theorem zol:Tryz.prog.underlying 22=some (.slice 50):=by kernel_rfl
theorem zou:Tryz.prog.cellsOf 50=11:=by kernel_rfl
theorem zkU (r:RPt):∀u∈r.cl,u.oneCell'=true:=by
 intro u hu
 simp only[RPt.cl,List.mem_cons,List.not_mem_nil,or_false]at hu
 rcases hu with rfl|rfl|rfl|rfl|rfl|rfl|rfl|rfl|rfl|rfl|rfl<;>rfl
noncomputable def RP:RowT where
 α:=RPt
 d:=zR
 cl:=RPt.cl
 K:=11
 T:=50
 SL:=22
 zero:=.agg xL
 bytes:=144
 hcl:=fun _=>rfl
 hK:=by decide
 hone:=zkU
 hSL:=zol
 hinfo:=zoI
 hz:=rfl
 hb:=by decide
 hc:=zou
structure RPt.Rd (w:World)(r:RPt)(p:Pt):Prop where
 k:r.k=p.k
 be:r.be=p.be
 es:El w (.slice r.a1 r.l1 r.c1) p.es
 bn:r.bn=p.bn
 os:Os w (.slice r.a2 r.l2 r.c2) p.os
 ks:As w (.slice r.a3 r.l3 r.c3) p.ks
 s:r.s=p.s
 d:r.d=p.d
 t:r.t=p.t
 n:r.n=p.n
 x:r.x=p.x
theorem RPt.Rd.below {w w':World}{r:RPt}{p:Pt}(h:r.Rd w p)(hb:Below w.heap.size w w'):r.Rd w' p:=
 ⟨h.k,h.be,h.es.below hb,h.bn,h.os.below hb,h.ks.below hb,h.s,h.d,h.t,h.n,h.x⟩
theorem RPt.Rd.l1 {w:World}{r:RPt}{p:Pt}(h:r.Rd w p):r.l1=p.es.length:=by
 obtain⟨a,c,e⟩:=h.es.1.form;simp only[Value.slice.injEq]at e;exact e.2.1
theorem RPt.Rd.l2 {w:World}{r:RPt}{p:Pt}(h:r.Rd w p):r.l2=p.os.length:=by
 obtain⟨a,c,e⟩:=h.os.form;simp only[Value.slice.injEq]at e;exact e.2.1
theorem RPt.Rd.l3 {w:World}{r:RPt}{p:Pt}(h:r.Rd w p):r.l3=p.ks.length:=by
 obtain⟨a,c,e⟩:=h.ks.form;simp only[Value.slice.injEq]at e;exact e.2.1
theorem ze5 (w:World):Es w xS []:=zmB (R:=RE) w
theorem zox (w:World):El w xS []:=⟨ze5 w,fun b off len cap e i hi=>by simp at hi⟩
def Ps (w:World)(v:Value)(ps:List Pt):Prop:=∃rs:List RPt,rs.length=ps.length∧Gs RP w v rs∧∀i,i<ps.length→(rs.getD i zR).Rd w (ps.getD i zPt)
theorem Ps.below {w w':World}{v:Value}{ps:List Pt}(h:Ps w v ps)(hb:Below w.heap.size w w'):Ps w' v ps:=by
 obtain⟨rs,h1,h2,h3⟩:=h
 exact⟨rs,h1,h2.below hb,fun i hi=>(h3 i hi).below hb⟩
theorem Ps.alloc {w:World}{v:Value}{ps:List Pt}(h:Ps w v ps)(O:Obj):Ps (w.alloc O) v ps:=h.below (xr.alloc xl O)
theorem Ps.form {w:World}{v:Value}{ps:List Pt}(h:Ps w v ps):∃a c,v=.slice a ps.length c:=by
 obtain⟨rs,h1,h2,_⟩:=h
 obtain⟨a,c,e⟩:=h2.form
 exact⟨a,c,e.trans (congrArg (fun n=>Value.slice a n c) h1)⟩
def C11 (w:World)(b o:Nat)(r:RPt):Prop:=w.cell? ⟨b,o,none⟩=xJ r.k∧w.cell? ⟨b,o+1,none⟩=xJ r.be∧w.cell? ⟨b,o+2,none⟩=some (.slice r.a1 r.l1 r.c1)∧w.cell? ⟨b,o+3,none⟩=xJ r.bn∧w.cell? ⟨b,o+4,none⟩=some (.slice r.a2 r.l2 r.c2)∧w.cell? ⟨b,o+5,none⟩=some (.slice r.a3 r.l3 r.c3)∧w.cell? ⟨b,o+6,none⟩=xJ r.s∧w.cell? ⟨b,o+7,none⟩=xJ r.d∧w.cell? ⟨b,o+8,none⟩=xJ r.t∧w.cell? ⟨b,o+9,none⟩=xJ r.n∧w.cell? ⟨b,o+10,none⟩=some (.string r.x)
theorem zpz {w:World}{b o:Nat}{r:RPt}(h:GC RP w b o r):C11 w b o r:=⟨h 0 (by decide),h 1 (by decide),h 2 (by decide),h 3 (by decide),h 4 (by decide),h 5 (by decide),h 6 (by decide),h 7 (by decide),h 8 (by decide),h 9 (by decide),h 10 (by decide)⟩
theorem Ps.at {w:World}{a:Option Addr}{c:Nat}{ps:List Pt}(h:Ps w (.slice a ps.length c) ps){i:Nat}(hi:i<ps.length):∃b off r,a=some ⟨b,off,none⟩∧b<w.heap.size∧C11 w b (off+i*11) r∧r.Rd w (ps.getD i zPt):=by
 obtain⟨rs,h1,h2,h3⟩:=h
 rw[←h1]at h2
 have hi':i<rs.length:=by omega
 obtain⟨b,off,e,hb,hc⟩:=Gs.at (R:=RP) h2 (i:=i) hi'
 exact⟨b,off,rs.getD i zR,e,hb,zpz hc,h3 i hi⟩
def PsOwn (w:World)(S:Nat)(v:Value)(ps:List Pt):Prop:=∃rs:List RPt,rs.length=ps.length∧w.ownsRow S 50 11 v rs.length (zaA RP rs)∧∀i,i<ps.length→(rs.getD i zR).Rd w (ps.getD i zPt)
theorem PsOwn.ps {w:World}{S:Nat}{v:Value}{ps:List Pt}(h:PsOwn w S v ps):Ps w v ps:=by
 obtain⟨rs,h1,h2,h3⟩:=h
 exact⟨rs,h1,(zdu (R:=RP) h2).1,h3⟩
theorem PsOwn.below {w w':World}{S:Nat}{v:Value}{ps:List Pt}(h:PsOwn w S v ps)(hb:Below w.heap.size w w'):PsOwn w' S v ps:=by
 obtain⟨rs,h1,h2,h3⟩:=h
 exact⟨rs,h1,zae h2 hb,fun i hi=>(h3 i hi).below hb⟩
theorem PsOwn.mono {w:World}{S B:Nat}{v:Value}{ps:List Pt}(h:PsOwn w S v ps)(hB:B≤S):PsOwn w B v ps:=by
 obtain⟨rs,h1,h2,h3⟩:=h
 exact⟨rs,h1,zas h2 hB,h3⟩
theorem PsOwn.form {w:World}{S:Nat}{v:Value}{ps:List Pt}(h:PsOwn w S v ps):∃a c,v=.slice a ps.length c:=h.ps.form
def OwnT (w:World)(b:Nat)(r:RPt):Prop:=(w.cell? (xQ b 0)=xJ r.k∧w.cell? (xQ b 1)=xJ r.be∧w.cell? (xQ b 2)=some (.slice r.a1 r.l1 r.c1)∧w.cell? (xQ b 3)=xJ r.bn∧w.cell? (xQ b 4)=some (.slice r.a2 r.l2 r.c2)∧w.cell? (xQ b 5)=some (.slice r.a3 r.l3 r.c3)∧w.cell? (xQ b 6)=xJ r.s∧w.cell? (xQ b 7)=xJ r.d∧w.cell? (xQ b 8)=xJ r.t∧w.cell? (xQ b 9)=xJ r.n∧w.cell? (xQ b 10)=some (.string r.x))∧∀j,w.frozen? ⟨b,j,none⟩=false
theorem zac (w:World)(r:RPt)(T:TypeId)(g:Nat)(hg:g=w.heap.size):OwnT (w.alloc (.cells (xR r) T)) g r:=by
 subst hg
 exact⟨⟨by simp,by simp,by simp,by simp,by simp,by simp,by simp,by simp,by simp,by simp,by simp⟩,fun j=>by simp⟩
theorem OwnT.lt {w:World}{b:Nat}{r:RPt}(h:OwnT w b r):b<w.heap.size:=World.block_lt_of_cell? w _ h.1.1
theorem C11.low {w w':World}{b o S:Nat}{r:RPt}(h:C11 w b o r)(hb:b<S)(hB:Below S w w'):C11 w' b o r:=by
 have f:∀{j:Nat} {v:Value},w.cell? ⟨b,j,none⟩=some v→w'.cell? ⟨b,j,none⟩=some v:=fun{j v} h=>(hB.cell (p:=⟨b,j,none⟩) hb).trans h
 obtain⟨h0,h1,h2,h3,h4,h5,h6,h7,h8,h9,h10⟩:=h
 exact⟨f h0,f h1,f h2,f h3,f h4,f h5,f h6,f h7,f h8,f h9,f h10⟩
theorem C11.below {w w':World}{b o:Nat}{r:RPt}(h:C11 w b o r)(hb:Below w.heap.size w w'):C11 w' b o r:=h.low (World.block_lt_of_cell? w _ h.1) hb
theorem OwnT.low {w w':World}{b S:Nat}{r:RPt}(h:OwnT w b r)(hb:b<S)(hB:Below S w w'):OwnT w' b r:=by
 have f:∀{j:Nat} {v:Value},w.cell? ⟨b,j,none⟩=some v→w'.cell? ⟨b,j,none⟩=some v:=fun{j v} h=>(hB.cell (p:=⟨b,j,none⟩) hb).trans h
 obtain⟨⟨h0,h1,h2,h3,h4,h5,h6,h7,h8,h9,h10⟩,hf⟩:=h
 exact⟨⟨f h0,f h1,f h2,f h3,f h4,f h5,f h6,f h7,f h8,f h9,f h10⟩,fun j=>(hB.frozen (p:=⟨b,j,none⟩) hb).trans (hf j)⟩
theorem OwnT.below {w w':World}{b:Nat}{r:RPt}(h:OwnT w b r)(hb:Below w.heap.size w w'):OwnT w' b r:=h.low h.lt hb
def OwnF (w:World)(b:Nat)(fr ep to pe:Int)(v:Value):Prop:=(w.cell? (xQ b 0)=xJ fr∧w.cell? (xQ b 1)=xJ ep∧w.cell? (xQ b 2)=xJ to∧w.cell? (xQ b 3)=xJ pe∧w.cell? (xQ b 4)=some v)∧∀j,w.frozen? ⟨b,j,none⟩=false
theorem zav (w:World)(fr ep to pe:Int)(v:Value)(T:TypeId)(g:Nat)(hg:g=w.heap.size):OwnF (w.alloc (.cells #[xI fr,xI ep,xI to,xI pe,v] T)) g fr ep to pe v:=by
 subst hg
 exact⟨⟨by simp,by simp,by simp,by simp,by simp⟩,fun j=>by simp⟩
theorem OwnF.lt {w:World}{b:Nat}{fr ep to pe:Int}{v:Value}(h:OwnF w b fr ep to pe v):b<w.heap.size:=World.block_lt_of_cell? w _ h.1.1
theorem OwnF.low {w w':World}{b S:Nat}{fr ep to pe:Int}{v:Value}(h:OwnF w b fr ep to pe v)(hb:b<S)(hB:Below S w w'):OwnF w' b fr ep to pe v:=by
 have f:∀{j:Nat} {v:Value},w.cell? ⟨b,j,none⟩=some v→w'.cell? ⟨b,j,none⟩=some v:=fun{j v} h=>(hB.cell (p:=⟨b,j,none⟩) hb).trans h
 obtain⟨⟨h0,h1,h2,h3,h4⟩,hf⟩:=h
 exact⟨⟨f h0,f h1,f h2,f h3,f h4⟩,fun j=>(hB.frozen (p:=⟨b,j,none⟩) hb).trans (hf j)⟩
theorem OwnF.below {w w':World}{b:Nat}{fr ep to pe:Int}{v:Value}(h:OwnF w b fr ep to pe v)(hb:Below w.heap.size w w'):OwnF w' b fr ep to pe v:=h.low h.lt hb
theorem OwnF.set {w:World}{b:Nat}{fr ep to pe:Int}{v:Value}(h:OwnF w b fr ep to pe v)(fr' ep' to' pe':Int)(v':Value):OwnF (xC w b #[xI fr',xI ep',xI to',xI pe',v']) b fr' ep' to' pe' v':=by
 obtain⟨⟨h0,h1,h2,h3,h4⟩,hf⟩:=h
 refine⟨⟨?_,?_,?_,?_,?_⟩,fun j=>?_⟩<;>simp[go_sem,hf,h0,h1,h2,h3,h4]
theorem OwnF.set4 {w:World}{b:Nat}{fr ep to pe:Int}{v:Value}(h:OwnF w b fr ep to pe v)(v':Value):OwnF (w.setCell (xQ b 4) v') b fr ep to pe v':=by
 obtain⟨⟨h0,h1,h2,h3,h4⟩,hf⟩:=h
 refine⟨⟨?_,?_,?_,?_,?_⟩,fun j=>?_⟩<;>simp[go_sem,hf,h0,h1,h2,h3,h4]
theorem zaJ {B:Nat}{u w:World}{b:Nat}(h:Below B u w)(hB:B≤b)(fr ep to pe:Int)(v:Value):Below B u (xC w b #[xI fr,xI ep,xI to,xI pe,v]):=
 (xC5 h hB)
end
open MR
theorem zbM {w:World}{bn:Int}{v:Value}{os:List Ob}(h:Os w v os)(g:Nat)(hg:g=w.heap.size)(T:TypeId):Bts (w.alloc (.cells #[xI bn,v] T)) (.slice (some (xQ g 0)) 1 1) [(bn,os)]:=by
 subst hg
 refine .inr ⟨w.heap.size,0,1,rfl,fun i hi=>?_⟩
 obtain rfl:i=0:=by simpa using hi
 exact⟨by simp,v,by simp,h.alloc _⟩
def zaR (p:Pt):Prop:=p.es.length≤1000∧p.os.length≤1000∧p.ks.length≤1000∧p.x.size≤100000
theorem zoF {p q:Pt}(h1:p.k=q.k)(h2:p.be=q.be∧p.es=q.es)(h3:p.bn=q.bn∧p.os=q.os)(h4:p.ks=q.ks)(h5:(p.s,p.d,p.t,p.n,p.x)=(q.s,q.d,q.t,q.n,q.x)):p=q:=by
 cases p;cases q
 simp only[Prod.mk.injEq]at h1 h2 h3 h4 h5
 obtain⟨rfl,rfl⟩:=h2
 obtain⟨rfl,rfl⟩:=h3
 obtain⟨rfl,rfl,rfl,rfl,rfl⟩:=h5
 subst h1 h4
 rfl
theorem zio (r r':RPt)(p p':Pt)(w:World)(h:r.Rd w p)(h':r'.Rd w p')(hl:zaR p):
  Calls Tryz.prog 37 #[.agg (xR r),.agg (xR r')] w fun e w'=>(∃b:Bool,e=.returned (.bool b)∧(b=true↔p=p'))∧Below w.heap.size w w':=by
 have RA:=xh h
 have RB:=xh h'
 have HL:Hid (zaR p):=hl
 have OA:=xh ((zac w r 50 w.heap.size rfl).below (xr.alloc xl (.cells (xR r') 50)))
 have OB:=xh (zac (w.alloc (.cells (xR r) 50)) r' 50 (w.heap.size+1) (by simp))
 have HB:Hid (Below w.heap.size w ((w.alloc (.cells (xR r) 50)).alloc (.cells (xR r') 50))):=(xr.alloc xl _).alloc (by simp) _
 replace RA:=xh (RA.out.below HB.out)
 replace RB:=xh (RB.out.below HB.out)
 clear h h' hl
 go_enter Tryz.func37,Tryz.ntmps37
 by_cases hk:r.k=r'.k
 ·have hk':(r.k==r'.k)=true:=by simpa using hk
  have HK:=xh hk
  clear hk
  obtain⟨⟨u0,u1,u2,u3,u4,u5,u6,u7,u8,u9,u10⟩,-⟩:=OA.out
  obtain⟨⟨v0,v1,v2,v3,v4,v5,v6,v7,v8,v9,v10⟩,-⟩:=OB.out
  go_wp2_with fail
  refine(zcc r.be r'.be _ _ _ _ _ RA.out.es.1 RB.out.es.1 (by have:=HL.out.1;omega)).mono ?_
  rintro e V1 ⟨⟨b1,rfl,hb1⟩,hb⟩
  replace RA:=xh (RA.out.below hb)
  replace RB:=xh (RB.out.below hb)
  replace OA:=xh (OA.out.below hb)
  replace OB:=xh (OB.out.below hb)
  replace HB:=xh (HB.out.trans (hb.mono HB.out.size))
  clear hb u0 v0 u1 v1 u2 v2 u3 v3 u4 v4 u5 v5 u6 v6 u7 v7 u8 v8 u9 v9 u10 v10
  obtain⟨⟨u0,u1,u2,u3,u4,u5,u6,u7,u8,u9,u10⟩,-⟩:=OA.out
  obtain⟨⟨v0,v1,v2,v3,v4,v5,v6,v7,v8,v9,v10⟩,-⟩:=OB.out
  cases b1 with
  | false=>
   have HN:Hid (¬(p.be=p'.be∧p.es=p'.es)):=fun h9=>by
    have:=hb1.2 (by rw[RA.out.be,RB.out.be];exact h9)
    cases this
   clear hb1
   go_wp2_with fail
   go_ret
   exact⟨⟨_,rfl,⟨fun h=>(by cases h),fun h=>absurd (by rw[h];exact⟨rfl,rfl⟩) HN.out⟩⟩,HB.out⟩
  | true=>
   have H1:=xh (hb1.1 rfl)
   clear hb1
   have BA:=xh (zbM (bn:=r.bn) RA.out.os V1.heap.size rfl 45)
   have Q3:Hid (∀O,(V1.alloc O).cell? (w.heap.size+1,3)=xJ r'.bn):=fun O=>(OB.out.below ((Below.refl _ V1).alloc xl O)).1.2.2.2.1
   have Q4:Hid (∀O,(V1.alloc O).cell? (w.heap.size+1,4)=some (.slice r'.a2 r'.l2 r'.c2)):=fun O=>(OB.out.below ((Below.refl _ V1).alloc xl O)).1.2.2.2.2.1
   have hal:=(Below.refl V1.heap.size V1).alloc xl (.cells #[xI r.bn,.slice r.a2 r.l2 r.c2] 45)
   replace RA:=xh (RA.out.below hal)
   replace RB:=xh (RB.out.below hal)
   replace OA:=xh (OA.out.below hal)
   replace OB:=xh (OB.out.below hal)
   replace HB:=xh (HB.out.trans (hal.mono HB.out.size))
   clear hal
   have BB:=xh (zbM (bn:=r'.bn) RB.out.os (V1.alloc (.cells #[xI r.bn,.slice r.a2 r.l2 r.c2] 45)).heap.size rfl 45)
   have hal:=(Below.refl (V1.alloc (.cells #[xI r.bn,.slice r.a2 r.l2 r.c2] 45)).heap.size (V1.alloc (.cells #[xI r.bn,.slice r.a2 r.l2 r.c2] 45))).alloc xl (.cells #[xI r'.bn,.slice r'.a2 r'.l2 r'.c2] 45)
   replace BA:=xh (BA.out.below hal)
   replace RA:=xh (RA.out.below hal)
   replace RB:=xh (RB.out.below hal)
   replace OA:=xh (OA.out.below hal)
   replace OB:=xh (OB.out.below hal)
   replace HB:=xh (HB.out.trans (hal.mono HB.out.size))
   clear hal
   have hsz:(V1.alloc (.cells #[xI r.bn,.slice r.a2 r.l2 r.c2] 45)).heap.size=V1.heap.size+1:=by simp
   rw[hsz]at BB
   clear hsz
   have q3:∀O,(V1.alloc O).cell? (w.heap.size+1,3)=xJ r'.bn:=Q3.out
   have q4:∀O,(V1.alloc O).cell? (w.heap.size+1,4)=some (.slice r'.a2 r'.l2 r'.c2):=Q4.out
   go_wp2_with fail
   clear q3 q4 u0 v0 u1 v1 u2 v2 u3 v3 u4 v4 u5 v5 u6 v6 u7 v7 u8 v8 u9 v9 u10 v10
   generalize (V1.alloc (.cells #[xI r.bn,.slice r.a2 r.l2 r.c2] 45)).alloc (.cells #[xI r'.bn,.slice r'.a2 r'.l2 r'.c2] 45)=V2 at*
   refine(zcf _ _ _ _ _ BA.out BB.out (by simp) (fun i hi=>by
    obtain rfl:i=0:=by simpa using hi
    have:=HL.out.2.1
    simp[List.getD];omega)).mono ?_
   rintro e V3 ⟨⟨b2,rfl,hb2⟩,hb⟩
   replace RA:=xh (RA.out.below hb)
   replace RB:=xh (RB.out.below hb)
   replace OA:=xh (OA.out.below hb)
   replace OB:=xh (OB.out.below hb)
   replace HB:=xh (HB.out.trans (hb.mono HB.out.size))
   clear hb BA BB
   obtain⟨⟨u0,u1,u2,u3,u4,u5,u6,u7,u8,u9,u10⟩,-⟩:=OA.out
   obtain⟨⟨v0,v1,v2,v3,v4,v5,v6,v7,v8,v9,v10⟩,-⟩:=OB.out
   cases b2 with
   | false=>
    have HN:Hid (¬(p.bn=p'.bn∧p.os=p'.os)):=fun h9=>by
     have:=hb2.2 (by rw[RA.out.bn,RB.out.bn,h9.1,h9.2])
     cases this
    clear hb2
    go_wp2_with fail
    go_ret
    exact⟨⟨_,rfl,⟨fun h=>(by cases h),fun h=>absurd (by rw[h];exact⟨rfl,rfl⟩) HN.out⟩⟩,HB.out⟩
   | true=>
    have H2:=xh (hb2.1 rfl)
    clear hb2
    go_wp2_with fail
    refine(ziO _ _ _ _ _ RA.out.ks RB.out.ks (by have:=HL.out.2.2.1;omega)).mono ?_
    rintro e V4 ⟨⟨b3,rfl,hb3⟩,hb⟩
    replace RA:=xh (RA.out.below hb)
    replace RB:=xh (RB.out.below hb)
    replace OA:=xh (OA.out.below hb)
    replace OB:=xh (OB.out.below hb)
    replace HB:=xh (HB.out.trans (hb.mono HB.out.size))
    clear hb u0 v0 u1 v1 u2 v2 u3 v3 u4 v4 u5 v5 u6 v6 u7 v7 u8 v8 u9 v9 u10 v10
    obtain⟨⟨u0,u1,u2,u3,u4,u5,u6,u7,u8,u9,u10⟩,-⟩:=OA.out
    obtain⟨⟨v0,v1,v2,v3,v4,v5,v6,v7,v8,v9,v10⟩,-⟩:=OB.out
    cases b3 with
    | false=>
     have HN:Hid (¬(p.ks=p'.ks)):=fun h9=>by
      have:=hb3.2 h9
      cases this
     clear hb3
     go_wp2_with fail
     go_ret
     exact⟨⟨_,rfl,⟨fun h=>(by cases h),fun h=>absurd (by rw[h]) HN.out⟩⟩,HB.out⟩
    | true=>
     have H3:=xh (hb3.1 rfl)
     clear hb3
     obtain⟨q5,hq5⟩:∃q,eqK r.s r.d r.t r.n r.x r'.s r'.d r'.t r'.n r'.x=q:=⟨_,rfl⟩
     have hEq:∀w',(binOp .eql 48 (.agg (xA r.s r.d r.t r.n (.string r.x))) (.agg (xA r'.s r'.d r'.t r'.n (.string r'.x)))).run Tryz.prog w'=.ok (.bool q5) w':=fun w'=>by rw[ziG,hq5]
     have hG:=fun op x y xs ys w'=>zb5 op x y xs ys w'
     have HQ:=xh hq5
     clear hq5
     go_wp2_with fail
     go_ret
     refine⟨⟨_,rfl,?_⟩,HB.out⟩
     have e5:=zc9 (a:=r.s) (b:=r.d) (c:=r.t) (d:=r.n) (x:=r.x) (a':=r'.s) (b':=r'.d) (c':=r'.t) (d':=r'.n) (x':=r'.x)
     rw[HQ.out,RA.out.s,RA.out.d,RA.out.t,RA.out.n,RA.out.x,RB.out.s,RB.out.d,RB.out.t,RB.out.n,RB.out.x]at e5
     have h1:=H1.out
     have h2:=H2.out
     rw[RA.out.be,RB.out.be]at h1
     rw[RA.out.bn,RB.out.bn]at h2
     have hk:=HK.out
     rw[RA.out.k,RB.out.k]at hk
     exact⟨fun h9=>zoF hk h1 (by simpa using h2) H3.out (e5.1 h9),fun h9=>e5.2 (by rw[h9])⟩
 ·have hk':(r.k==r'.k)=false:=by simpa using hk
  have HN:Hid (¬(p.k=p'.k)):=fun h9=>hk (by rw[RA.out.k,RB.out.k];exact h9)
  clear hk
  obtain⟨⟨u0,u1,u2,u3,u4,u5,u6,u7,u8,u9,u10⟩,-⟩:=OA.out
  obtain⟨⟨v0,v1,v2,v3,v4,v5,v6,v7,v8,v9,v10⟩,-⟩:=OB.out
  go_wp2_with fail
  go_ret
  exact⟨⟨_,rfl,⟨fun h=>(by cases h),fun h=>absurd (by rw[h]) HN.out⟩⟩,HB.out⟩
theorem ziN {p:Pt}(h:p.k=1):p.Ok↔BeOk p.be p.es∧p.noBt∧p.noAk∧p.noPk:=by
 unfold Pt.Ok;rw[h];simp
theorem zit {p:Pt}(h:p.k=2):p.Ok↔p.noBe∧BtOk p.bn p.os∧p.noAk∧p.noPk:=by
 unfold Pt.Ok;rw[h];simp
theorem zig {p:Pt}(h:p.k=3):p.Ok↔p.noBe∧p.noBt∧zbq p.ks∧p.noPk:=by
 unfold Pt.Ok;rw[h];simp
theorem ziV {p:Pt}(h:p.k=4):p.Ok↔p.noBe∧p.noBt∧p.noAk∧PkOk p.s p.d p.t p.n p.x:=by
 unfold Pt.Ok;rw[h];simp
theorem zps {p:Pt}(h:p.k≠1∧p.k≠2∧p.k≠3∧p.k≠4):¬p.Ok:=by
 rintro(h1|h1|h1|h1)
 ·exact h.1 h1.1
 ·exact h.2.1 h1.1
 ·exact h.2.2.1 h1.1
 ·exact h.2.2.2 h1.1
def RetT (w:World)(p:Pt)(e:Ending)(w':World):Prop:=(∃(a:Option Addr) (l c:Nat) (q:Bool),e=.returned (.tuple #[.slice a l c,.bool q])∧(q=true↔p.Ok)∧(q=true→l=p.bs.length∧w'.ownsRow w.heap.size 5 1 (.slice a l c) p.bs.length (p.bs.map (Value.int .u8))))∧Below w.heap.size w w'
theorem zkY (r:RPt)(p:Pt)(w:World)(h:r.Rd w p)(hl:zaR p)(hk:p.k=1):Calls Tryz.prog 26 #[.agg (xR r)] w (RetT w p):=by
 have hk1:(r.k==1)=true:=by rw[h.k,hk];rfl
 have hk2:(r.k==2)=false:=by rw[h.k,hk];rfl
 have hk3:(r.k==3)=false:=by rw[h.k,hk];rfl
 have hk4:(r.k==4)=false:=by rw[h.k,hk];rfl
 have RA:=xh h
 have HL:Hid (zaR p):=hl
 have HK:Hid (p.k=1):=hk
 have OA:=xh (zac w r 50 w.heap.size rfl)
 have HB:Hid (Below w.heap.size w (w.alloc (.cells (xR r) 50))):=xr.alloc xl _
 replace RA:=xh (RA.out.below HB.out)
 obtain⟨b3,h3⟩:∃b,((r.l3:Int)==0)=b:=⟨_,rfl⟩
 have HB3:Hid (b3=true↔p.noAk):=by
  show _↔_
  rw[←h3,beq_iff_eq]
  have:=h.l3
  unfold Pt.noAk;omega
 obtain⟨b4,h4⟩:∃q,eqK r.s r.d r.t r.n r.x 0 0 0 0 ⟨#[]⟩=q:=⟨_,rfl⟩
 have hEq:∀w',(binOp .eql 48 (.agg (xA r.s r.d r.t r.n (.string r.x))) (.agg xH)).run Tryz.prog w'=.ok (.bool b4) w':=fun w'=>by rw[ziG,h4]
 have hG:=fun op x y xs ys w'=>zb5 op x y xs ys w'
 have HB4:Hid (b4=true↔p.noPk):=by
  show _↔_
  rw[←h4,zc9,h.s,h.d,h.t,h.n,h.x]
  simp only[Prod.mk.injEq];rfl
 clear h hl hk h4
 obtain⟨⟨u0,u1,u2,u3,u4,u5,u6,u7,u8,u9,u10⟩,-⟩:=OA.out
 go_enter Tryz.func26,Tryz.ntmps26
 go_wp2_with fail
 refine(zcc r.be 0 _ _ _ [] _ RA.out.es.1 (ze5 _) (by have:=HL.out.1;omega)).mono ?_
 rintro e V1 ⟨⟨b1,rfl,hb1⟩,hb⟩
 replace RA:=xh (RA.out.below hb)
 replace OA:=xh (OA.out.below hb)
 replace HB:=xh (HB.out.trans (hb.mono HB.out.size))
 have HB1:Hid (b1=true↔p.noBe):=by
  show _↔_
  rw[hb1,RA.out.be]
  exact⟨fun h9=>⟨h9.1,by rw[h9.2];rfl⟩,fun h9=>⟨h9.1,zaD h9.2⟩⟩
 clear hb hb1 u0 u1 u2 u3 u4 u5 u6 u7 u8 u9 u10
 obtain⟨⟨u0,u1,u2,u3,u4,u5,u6,u7,u8,u9,u10⟩,-⟩:=OA.out
 have BA:=xh (zbM (bn:=r.bn) RA.out.os V1.heap.size rfl 45)
 have hal:=(Below.refl V1.heap.size V1).alloc xl (.cells #[xI r.bn,.slice r.a2 r.l2 r.c2] 45)
 replace RA:=xh (RA.out.below hal)
 replace OA:=xh (OA.out.below hal)
 replace HB:=xh (HB.out.trans (hal.mono HB.out.size))
 clear hal
 have BB:=xh (zbM (bn:=0) (zf3 (V1.alloc (.cells #[xI r.bn,.slice r.a2 r.l2 r.c2] 45))) (V1.alloc (.cells #[xI r.bn,.slice r.a2 r.l2 r.c2] 45)).heap.size rfl 45)
 have hal:=(Below.refl (V1.alloc (.cells #[xI r.bn,.slice r.a2 r.l2 r.c2] 45)).heap.size (V1.alloc (.cells #[xI r.bn,.slice r.a2 r.l2 r.c2] 45))).alloc xl (.cells #[xI 0,xS] 45)
 replace BA:=xh (BA.out.below hal)
 replace RA:=xh (RA.out.below hal)
 replace OA:=xh (OA.out.below hal)
 replace HB:=xh (HB.out.trans (hal.mono HB.out.size))
 clear hal
 have hsz:(V1.alloc (.cells #[xI r.bn,.slice r.a2 r.l2 r.c2] 45)).heap.size=V1.heap.size+1:=by simp
 rw[hsz]at BB
 clear hsz
 go_wp2_with fail
 clear u0 u1 u2 u3 u4 u5 u6 u7 u8 u9 u10
 generalize (V1.alloc (.cells #[xI r.bn,.slice r.a2 r.l2 r.c2] 45)).alloc (.cells #[xI 0,xS] 45)=V2 at*
 refine(zcf _ _ _ _ _ BA.out BB.out (by simp) (fun i hi=>by
  obtain rfl:i=0:=by simpa using hi
  have:=HL.out.2.1
  simp[List.getD];omega)).mono ?_
 rintro e V3 ⟨⟨b2,rfl,hb2⟩,hb⟩
 replace RA:=xh (RA.out.below hb)
 replace OA:=xh (OA.out.below hb)
 replace HB:=xh (HB.out.trans (hb.mono HB.out.size))
 have HB2:Hid (b2=true↔p.noBt):=by
  show _↔_
  rw[hb2,RA.out.bn]
  simp only[List.cons.injEq,Prod.mk.injEq,and_true]
  exact⟨fun h9=>⟨h9.1,by rw[h9.2];rfl⟩,fun h9=>⟨h9.1,zaD h9.2⟩⟩
 clear hb hb2 BA BB
 obtain⟨⟨u0,u1,u2,u3,u4,u5,u6,u7,u8,u9,u10⟩,-⟩:=OA.out
 go_wp2_with fail
 by_cases hok:BeOk p.be p.es
 ·have hok':BeOk r.be p.es:=by rw[RA.out.be];exact hok
  refine(zid r.be _ p.es _ RA.out.es.1 hok').mono ?_
  rintro e V4 ⟨⟨r9,rfl,ho⟩,hb⟩
  obtain⟨a9,c9,rfl⟩:=zap ho
  have HR:=xh (zas ho HB.out.size)
  replace RA:=xh (RA.out.below hb)
  have HWB:=xh (HB.out.trans (hb.mono HB.out.size))
  clear hb ho hok' u0 u1 u2 u3 u4 u5 u6 u7 u8 u9 u10
  cases b2 with
  | true=>
   cases b3 with
   | true=>
    cases b4 with
    | true=>
     go_wp2_with fail
     go_ret2
     refine⟨⟨_,_,_,_,rfl,by rw[ziN HK.out,←HB2.out,←HB3.out,←HB4.out];simp[hok],fun _=>?_⟩,HWB.out⟩
     have e:=HR.out
     rw[RA.out.be,←zkH HK.out]at e
     rw[RA.out.be,←zkH HK.out]
     exact⟨rfl,e⟩
    | false=>
     go_wp2_with fail
     go_ret2
     refine⟨⟨_,_,_,_,rfl,by rw[ziN HK.out,←HB2.out,←HB3.out,←HB4.out];simp[hok],fun h=>(by cases h)⟩,HWB.out⟩
   | false=>
    go_wp2_with fail
    go_ret2
    refine⟨⟨_,_,_,_,rfl,by rw[ziN HK.out,←HB2.out,←HB3.out,←HB4.out];simp[hok],fun h=>(by cases h)⟩,HWB.out⟩
  | false=>
   go_wp2_with fail
   go_ret2
   refine⟨⟨_,_,_,_,rfl,by rw[ziN HK.out,←HB2.out,←HB3.out,←HB4.out];simp[hok],fun h=>(by cases h)⟩,HWB.out⟩
 ·have hok':¬BeOk r.be p.es:=by rw[RA.out.be];exact hok
  refine(zij r.be _ p.es _ RA.out.es.1 (by have:=HL.out.1;omega) hok').mono ?_
  rintro e V4 ⟨rfl,hb⟩
  replace RA:=xh (RA.out.below hb)
  have HWB:=xh (HB.out.trans (hb.mono HB.out.size))
  clear hb hok' u0 u1 u2 u3 u4 u5 u6 u7 u8 u9 u10
  go_wp2_with fail
  go_ret2
  exact⟨⟨_,_,_,_,rfl,by rw[ziN HK.out];simp[hok],fun h=>(by cases h)⟩,HWB.out⟩
theorem zk2 (r:RPt)(p:Pt)(w:World)(h:r.Rd w p)(hl:zaR p)(hk:p.k=2):Calls Tryz.prog 26 #[.agg (xR r)] w (RetT w p):=by
 have hk1:(r.k==1)=false:=by rw[h.k,hk];rfl
 have hk2:(r.k==2)=true:=by rw[h.k,hk];rfl
 have hk3:(r.k==3)=false:=by rw[h.k,hk];rfl
 have hk4:(r.k==4)=false:=by rw[h.k,hk];rfl
 have RA:=xh h
 have HL:Hid (zaR p):=hl
 have HK:Hid (p.k=2):=hk
 have OA:=xh (zac w r 50 w.heap.size rfl)
 have HB:Hid (Below w.heap.size w (w.alloc (.cells (xR r) 50))):=xr.alloc xl _
 replace RA:=xh (RA.out.below HB.out)
 obtain⟨b3,h3⟩:∃b,((r.l3:Int)==0)=b:=⟨_,rfl⟩
 have HB3:Hid (b3=true↔p.noAk):=by
  show _↔_
  rw[←h3,beq_iff_eq]
  have:=h.l3
  unfold Pt.noAk;omega
 obtain⟨b4,h4⟩:∃q,eqK r.s r.d r.t r.n r.x 0 0 0 0 ⟨#[]⟩=q:=⟨_,rfl⟩
 have hEq:∀w',(binOp .eql 48 (.agg (xA r.s r.d r.t r.n (.string r.x))) (.agg xH)).run Tryz.prog w'=.ok (.bool b4) w':=fun w'=>by rw[ziG,h4]
 have hG:=fun op x y xs ys w'=>zb5 op x y xs ys w'
 have HB4:Hid (b4=true↔p.noPk):=by
  show _↔_
  rw[←h4,zc9,h.s,h.d,h.t,h.n,h.x]
  simp only[Prod.mk.injEq];rfl
 clear h hl hk h4
 obtain⟨⟨u0,u1,u2,u3,u4,u5,u6,u7,u8,u9,u10⟩,-⟩:=OA.out
 go_enter Tryz.func26,Tryz.ntmps26
 go_wp2_with fail
 refine(zcc r.be 0 _ _ _ [] _ RA.out.es.1 (ze5 _) (by have:=HL.out.1;omega)).mono ?_
 rintro e V1 ⟨⟨b1,rfl,hb1⟩,hb⟩
 replace RA:=xh (RA.out.below hb)
 replace OA:=xh (OA.out.below hb)
 replace HB:=xh (HB.out.trans (hb.mono HB.out.size))
 have HB1:Hid (b1=true↔p.noBe):=by
  show _↔_
  rw[hb1,RA.out.be]
  exact⟨fun h9=>⟨h9.1,by rw[h9.2];rfl⟩,fun h9=>⟨h9.1,zaD h9.2⟩⟩
 clear hb hb1 u0 u1 u2 u3 u4 u5 u6 u7 u8 u9 u10
 obtain⟨⟨u0,u1,u2,u3,u4,u5,u6,u7,u8,u9,u10⟩,-⟩:=OA.out
 have BA:=xh (zbM (bn:=r.bn) RA.out.os V1.heap.size rfl 45)
 have hal:=(Below.refl V1.heap.size V1).alloc xl (.cells #[xI r.bn,.slice r.a2 r.l2 r.c2] 45)
 replace RA:=xh (RA.out.below hal)
 replace OA:=xh (OA.out.below hal)
 replace HB:=xh (HB.out.trans (hal.mono HB.out.size))
 clear hal
 have BB:=xh (zbM (bn:=0) (zf3 (V1.alloc (.cells #[xI r.bn,.slice r.a2 r.l2 r.c2] 45))) (V1.alloc (.cells #[xI r.bn,.slice r.a2 r.l2 r.c2] 45)).heap.size rfl 45)
 have hal:=(Below.refl (V1.alloc (.cells #[xI r.bn,.slice r.a2 r.l2 r.c2] 45)).heap.size (V1.alloc (.cells #[xI r.bn,.slice r.a2 r.l2 r.c2] 45))).alloc xl (.cells #[xI 0,xS] 45)
 replace BA:=xh (BA.out.below hal)
 replace RA:=xh (RA.out.below hal)
 replace OA:=xh (OA.out.below hal)
 replace HB:=xh (HB.out.trans (hal.mono HB.out.size))
 clear hal
 have hsz:(V1.alloc (.cells #[xI r.bn,.slice r.a2 r.l2 r.c2] 45)).heap.size=V1.heap.size+1:=by simp
 rw[hsz]at BB
 clear hsz
 go_wp2_with fail
 clear u0 u1 u2 u3 u4 u5 u6 u7 u8 u9 u10
 generalize (V1.alloc (.cells #[xI r.bn,.slice r.a2 r.l2 r.c2] 45)).alloc (.cells #[xI 0,xS] 45)=V2 at*
 refine(zcf _ _ _ _ _ BA.out BB.out (by simp) (fun i hi=>by
  obtain rfl:i=0:=by simpa using hi
  have:=HL.out.2.1
  simp[List.getD];omega)).mono ?_
 rintro e V3 ⟨⟨b2,rfl,hb2⟩,hb⟩
 replace RA:=xh (RA.out.below hb)
 replace OA:=xh (OA.out.below hb)
 replace HB:=xh (HB.out.trans (hb.mono HB.out.size))
 have HB2:Hid (b2=true↔p.noBt):=by
  show _↔_
  rw[hb2,RA.out.bn]
  simp only[List.cons.injEq,Prod.mk.injEq,and_true]
  exact⟨fun h9=>⟨h9.1,by rw[h9.2];rfl⟩,fun h9=>⟨h9.1,zaD h9.2⟩⟩
 clear hb hb2 BA BB
 obtain⟨⟨u0,u1,u2,u3,u4,u5,u6,u7,u8,u9,u10⟩,-⟩:=OA.out
 go_wp2_with fail
 by_cases hok:BtOk p.bn p.os
 ·have hok':BtOk r.bn p.os:=by rw[RA.out.bn];exact hok
  refine(ziF r.bn _ p.os _ RA.out.os hok').mono ?_
  rintro e V4 ⟨⟨r9,rfl,ho⟩,hb⟩
  obtain⟨a9,c9,rfl⟩:=zap ho
  have HR:=xh (zas ho HB.out.size)
  replace RA:=xh (RA.out.below hb)
  have HWB:=xh (HB.out.trans (hb.mono HB.out.size))
  clear hb ho hok' u0 u1 u2 u3 u4 u5 u6 u7 u8 u9 u10
  cases b1 with
  | true=>
   cases b3 with
   | true=>
    cases b4 with
    | true=>
     go_wp2_with fail
     go_ret2
     refine⟨⟨_,_,_,_,rfl,by rw[zit HK.out,←HB1.out,←HB3.out,←HB4.out];simp[hok],fun _=>?_⟩,HWB.out⟩
     have e:=HR.out
     rw[RA.out.bn,←zkG HK.out]at e
     rw[RA.out.bn,←zkG HK.out]
     exact⟨rfl,e⟩
    | false=>
     go_wp2_with fail
     go_ret2
     refine⟨⟨_,_,_,_,rfl,by rw[zit HK.out,←HB1.out,←HB3.out,←HB4.out];simp[hok],fun h=>(by cases h)⟩,HWB.out⟩
   | false=>
    go_wp2_with fail
    go_ret2
    refine⟨⟨_,_,_,_,rfl,by rw[zit HK.out,←HB1.out,←HB3.out,←HB4.out];simp[hok],fun h=>(by cases h)⟩,HWB.out⟩
  | false=>
   go_wp2_with fail
   go_ret2
   refine⟨⟨_,_,_,_,rfl,by rw[zit HK.out,←HB1.out,←HB3.out,←HB4.out];simp[hok],fun h=>(by cases h)⟩,HWB.out⟩
 ·have hok':¬BtOk r.bn p.os:=by rw[RA.out.bn];exact hok
  refine(zjt r.bn _ p.os _ RA.out.os (by have:=HL.out.2.1;omega) hok').mono ?_
  rintro e V4 ⟨v9,rfl,hr,hb⟩
  obtain⟨a9,c9,rfl⟩:=zcO hr
  replace RA:=xh (RA.out.below hb)
  have HWB:=xh (HB.out.trans (hb.mono HB.out.size))
  clear hb hok' u0 u1 u2 u3 u4 u5 u6 u7 u8 u9 u10
  go_wp2_with fail
  go_ret2
  exact⟨⟨_,_,_,_,rfl,by rw[zit HK.out];simp[hok],fun h=>(by cases h)⟩,HWB.out⟩
theorem zlV (r:RPt)(p:Pt)(w:World)(h:r.Rd w p)(hl:zaR p)(hk:p.k=3):Calls Tryz.prog 26 #[.agg (xR r)] w (RetT w p):=by
 have hk1:(r.k==1)=false:=by rw[h.k,hk];rfl
 have hk2:(r.k==2)=false:=by rw[h.k,hk];rfl
 have hk3:(r.k==3)=true:=by rw[h.k,hk];rfl
 have hk4:(r.k==4)=false:=by rw[h.k,hk];rfl
 have RA:=xh h
 have HL:Hid (zaR p):=hl
 have HK:Hid (p.k=3):=hk
 have OA:=xh (zac w r 50 w.heap.size rfl)
 have HB:Hid (Below w.heap.size w (w.alloc (.cells (xR r) 50))):=xr.alloc xl _
 replace RA:=xh (RA.out.below HB.out)
 obtain⟨b3,h3⟩:∃b,((r.l3:Int)==0)=b:=⟨_,rfl⟩
 have HB3:Hid (b3=true↔p.noAk):=by
  show _↔_
  rw[←h3,beq_iff_eq]
  have:=h.l3
  unfold Pt.noAk;omega
 obtain⟨b4,h4⟩:∃q,eqK r.s r.d r.t r.n r.x 0 0 0 0 ⟨#[]⟩=q:=⟨_,rfl⟩
 have hEq:∀w',(binOp .eql 48 (.agg (xA r.s r.d r.t r.n (.string r.x))) (.agg xH)).run Tryz.prog w'=.ok (.bool b4) w':=fun w'=>by rw[ziG,h4]
 have hG:=fun op x y xs ys w'=>zb5 op x y xs ys w'
 have HB4:Hid (b4=true↔p.noPk):=by
  show _↔_
  rw[←h4,zc9,h.s,h.d,h.t,h.n,h.x]
  simp only[Prod.mk.injEq];rfl
 clear h hl hk h4
 obtain⟨⟨u0,u1,u2,u3,u4,u5,u6,u7,u8,u9,u10⟩,-⟩:=OA.out
 go_enter Tryz.func26,Tryz.ntmps26
 go_wp2_with fail
 refine(zcc r.be 0 _ _ _ [] _ RA.out.es.1 (ze5 _) (by have:=HL.out.1;omega)).mono ?_
 rintro e V1 ⟨⟨b1,rfl,hb1⟩,hb⟩
 replace RA:=xh (RA.out.below hb)
 replace OA:=xh (OA.out.below hb)
 replace HB:=xh (HB.out.trans (hb.mono HB.out.size))
 have HB1:Hid (b1=true↔p.noBe):=by
  show _↔_
  rw[hb1,RA.out.be]
  exact⟨fun h9=>⟨h9.1,by rw[h9.2];rfl⟩,fun h9=>⟨h9.1,zaD h9.2⟩⟩
 clear hb hb1 u0 u1 u2 u3 u4 u5 u6 u7 u8 u9 u10
 obtain⟨⟨u0,u1,u2,u3,u4,u5,u6,u7,u8,u9,u10⟩,-⟩:=OA.out
 have BA:=xh (zbM (bn:=r.bn) RA.out.os V1.heap.size rfl 45)
 have hal:=(Below.refl V1.heap.size V1).alloc xl (.cells #[xI r.bn,.slice r.a2 r.l2 r.c2] 45)
 replace RA:=xh (RA.out.below hal)
 replace OA:=xh (OA.out.below hal)
 replace HB:=xh (HB.out.trans (hal.mono HB.out.size))
 clear hal
 have BB:=xh (zbM (bn:=0) (zf3 (V1.alloc (.cells #[xI r.bn,.slice r.a2 r.l2 r.c2] 45))) (V1.alloc (.cells #[xI r.bn,.slice r.a2 r.l2 r.c2] 45)).heap.size rfl 45)
 have hal:=(Below.refl (V1.alloc (.cells #[xI r.bn,.slice r.a2 r.l2 r.c2] 45)).heap.size (V1.alloc (.cells #[xI r.bn,.slice r.a2 r.l2 r.c2] 45))).alloc xl (.cells #[xI 0,xS] 45)
 replace BA:=xh (BA.out.below hal)
 replace RA:=xh (RA.out.below hal)
 replace OA:=xh (OA.out.below hal)
 replace HB:=xh (HB.out.trans (hal.mono HB.out.size))
 clear hal
 have hsz:(V1.alloc (.cells #[xI r.bn,.slice r.a2 r.l2 r.c2] 45)).heap.size=V1.heap.size+1:=by simp
 rw[hsz]at BB
 clear hsz
 go_wp2_with fail
 clear u0 u1 u2 u3 u4 u5 u6 u7 u8 u9 u10
 generalize (V1.alloc (.cells #[xI r.bn,.slice r.a2 r.l2 r.c2] 45)).alloc (.cells #[xI 0,xS] 45)=V2 at*
 refine(zcf _ _ _ _ _ BA.out BB.out (by simp) (fun i hi=>by
  obtain rfl:i=0:=by simpa using hi
  have:=HL.out.2.1
  simp[List.getD];omega)).mono ?_
 rintro e V3 ⟨⟨b2,rfl,hb2⟩,hb⟩
 replace RA:=xh (RA.out.below hb)
 replace OA:=xh (OA.out.below hb)
 replace HB:=xh (HB.out.trans (hb.mono HB.out.size))
 have HB2:Hid (b2=true↔p.noBt):=by
  show _↔_
  rw[hb2,RA.out.bn]
  simp only[List.cons.injEq,Prod.mk.injEq,and_true]
  exact⟨fun h9=>⟨h9.1,by rw[h9.2];rfl⟩,fun h9=>⟨h9.1,zaD h9.2⟩⟩
 clear hb hb2 BA BB
 obtain⟨⟨u0,u1,u2,u3,u4,u5,u6,u7,u8,u9,u10⟩,-⟩:=OA.out
 go_wp2_with fail
 by_cases hok:zbq p.ks
 ·have hok':zbq p.ks:=by exact hok
  refine(zil _ p.ks _ RA.out.ks hok').mono ?_
  rintro e V4 ⟨⟨r9,rfl,ho⟩,hb⟩
  obtain⟨a9,c9,rfl⟩:=zap ho
  have HR:=xh (zas ho HB.out.size)
  replace RA:=xh (RA.out.below hb)
  have HWB:=xh (HB.out.trans (hb.mono HB.out.size))
  clear hb ho hok' u0 u1 u2 u3 u4 u5 u6 u7 u8 u9 u10
  cases b1 with
  | true=>
   cases b2 with
   | true=>
    cases b4 with
    | true=>
     go_wp2_with fail
     go_ret2
     refine⟨⟨_,_,_,_,rfl,by rw[zig HK.out,←HB1.out,←HB2.out,←HB4.out];simp[hok],fun _=>?_⟩,HWB.out⟩
     have e:=HR.out
     rw[←zkI HK.out]at e
     rw[←zkI HK.out]
     exact⟨rfl,e⟩
    | false=>
     go_wp2_with fail
     go_ret2
     refine⟨⟨_,_,_,_,rfl,by rw[zig HK.out,←HB1.out,←HB2.out,←HB4.out];simp[hok],fun h=>(by cases h)⟩,HWB.out⟩
   | false=>
    go_wp2_with fail
    go_ret2
    refine⟨⟨_,_,_,_,rfl,by rw[zig HK.out,←HB1.out,←HB2.out,←HB4.out];simp[hok],fun h=>(by cases h)⟩,HWB.out⟩
  | false=>
   go_wp2_with fail
   go_ret2
   refine⟨⟨_,_,_,_,rfl,by rw[zig HK.out,←HB1.out,←HB2.out,←HB4.out];simp[hok],fun h=>(by cases h)⟩,HWB.out⟩
 ·have hok':¬zbq p.ks:=by exact hok
  refine(zh3 _ p.ks _ RA.out.ks (by have:=HL.out.2.2.1;omega) hok').mono ?_
  rintro e V4 ⟨rfl,hb⟩
  replace RA:=xh (RA.out.below hb)
  have HWB:=xh (HB.out.trans (hb.mono HB.out.size))
  clear hb hok' u0 u1 u2 u3 u4 u5 u6 u7 u8 u9 u10
  go_wp2_with fail
  go_ret2
  exact⟨⟨_,_,_,_,rfl,by rw[zig HK.out];simp[hok],fun h=>(by cases h)⟩,HWB.out⟩
theorem zld (r:RPt)(p:Pt)(w:World)(h:r.Rd w p)(hl:zaR p)(hk:p.k=4):Calls Tryz.prog 26 #[.agg (xR r)] w (RetT w p):=by
 have hk1:(r.k==1)=false:=by rw[h.k,hk];rfl
 have hk2:(r.k==2)=false:=by rw[h.k,hk];rfl
 have hk3:(r.k==3)=false:=by rw[h.k,hk];rfl
 have hk4:(r.k==4)=true:=by rw[h.k,hk];rfl
 have RA:=xh h
 have HL:Hid (zaR p):=hl
 have HK:Hid (p.k=4):=hk
 have OA:=xh (zac w r 50 w.heap.size rfl)
 have HB:Hid (Below w.heap.size w (w.alloc (.cells (xR r) 50))):=xr.alloc xl _
 replace RA:=xh (RA.out.below HB.out)
 obtain⟨b3,h3⟩:∃b,((r.l3:Int)==0)=b:=⟨_,rfl⟩
 have HB3:Hid (b3=true↔p.noAk):=by
  show _↔_
  rw[←h3,beq_iff_eq]
  have:=h.l3
  unfold Pt.noAk;omega
 obtain⟨b4,h4⟩:∃q,eqK r.s r.d r.t r.n r.x 0 0 0 0 ⟨#[]⟩=q:=⟨_,rfl⟩
 have hEq:∀w',(binOp .eql 48 (.agg (xA r.s r.d r.t r.n (.string r.x))) (.agg xH)).run Tryz.prog w'=.ok (.bool b4) w':=fun w'=>by rw[ziG,h4]
 have hG:=fun op x y xs ys w'=>zb5 op x y xs ys w'
 have HB4:Hid (b4=true↔p.noPk):=by
  show _↔_
  rw[←h4,zc9,h.s,h.d,h.t,h.n,h.x]
  simp only[Prod.mk.injEq];rfl
 clear h hl hk h4
 obtain⟨⟨u0,u1,u2,u3,u4,u5,u6,u7,u8,u9,u10⟩,-⟩:=OA.out
 go_enter Tryz.func26,Tryz.ntmps26
 go_wp2_with fail
 refine(zcc r.be 0 _ _ _ [] _ RA.out.es.1 (ze5 _) (by have:=HL.out.1;omega)).mono ?_
 rintro e V1 ⟨⟨b1,rfl,hb1⟩,hb⟩
 replace RA:=xh (RA.out.below hb)
 replace OA:=xh (OA.out.below hb)
 replace HB:=xh (HB.out.trans (hb.mono HB.out.size))
 have HB1:Hid (b1=true↔p.noBe):=by
  show _↔_
  rw[hb1,RA.out.be]
  exact⟨fun h9=>⟨h9.1,by rw[h9.2];rfl⟩,fun h9=>⟨h9.1,zaD h9.2⟩⟩
 clear hb hb1 u0 u1 u2 u3 u4 u5 u6 u7 u8 u9 u10
 obtain⟨⟨u0,u1,u2,u3,u4,u5,u6,u7,u8,u9,u10⟩,-⟩:=OA.out
 have BA:=xh (zbM (bn:=r.bn) RA.out.os V1.heap.size rfl 45)
 have hal:=(Below.refl V1.heap.size V1).alloc xl (.cells #[xI r.bn,.slice r.a2 r.l2 r.c2] 45)
 replace RA:=xh (RA.out.below hal)
 replace OA:=xh (OA.out.below hal)
 replace HB:=xh (HB.out.trans (hal.mono HB.out.size))
 clear hal
 have BB:=xh (zbM (bn:=0) (zf3 (V1.alloc (.cells #[xI r.bn,.slice r.a2 r.l2 r.c2] 45))) (V1.alloc (.cells #[xI r.bn,.slice r.a2 r.l2 r.c2] 45)).heap.size rfl 45)
 have hal:=(Below.refl (V1.alloc (.cells #[xI r.bn,.slice r.a2 r.l2 r.c2] 45)).heap.size (V1.alloc (.cells #[xI r.bn,.slice r.a2 r.l2 r.c2] 45))).alloc xl (.cells #[xI 0,xS] 45)
 replace BA:=xh (BA.out.below hal)
 replace RA:=xh (RA.out.below hal)
 replace OA:=xh (OA.out.below hal)
 replace HB:=xh (HB.out.trans (hal.mono HB.out.size))
 clear hal
 have hsz:(V1.alloc (.cells #[xI r.bn,.slice r.a2 r.l2 r.c2] 45)).heap.size=V1.heap.size+1:=by simp
 rw[hsz]at BB
 clear hsz
 go_wp2_with fail
 clear u0 u1 u2 u3 u4 u5 u6 u7 u8 u9 u10
 generalize (V1.alloc (.cells #[xI r.bn,.slice r.a2 r.l2 r.c2] 45)).alloc (.cells #[xI 0,xS] 45)=V2 at*
 refine(zcf _ _ _ _ _ BA.out BB.out (by simp) (fun i hi=>by
  obtain rfl:i=0:=by simpa using hi
  have:=HL.out.2.1
  simp[List.getD];omega)).mono ?_
 rintro e V3 ⟨⟨b2,rfl,hb2⟩,hb⟩
 replace RA:=xh (RA.out.below hb)
 replace OA:=xh (OA.out.below hb)
 replace HB:=xh (HB.out.trans (hb.mono HB.out.size))
 have HB2:Hid (b2=true↔p.noBt):=by
  show _↔_
  rw[hb2,RA.out.bn]
  simp only[List.cons.injEq,Prod.mk.injEq,and_true]
  exact⟨fun h9=>⟨h9.1,by rw[h9.2];rfl⟩,fun h9=>⟨h9.1,zaD h9.2⟩⟩
 clear hb hb2 BA BB
 obtain⟨⟨u0,u1,u2,u3,u4,u5,u6,u7,u8,u9,u10⟩,-⟩:=OA.out
 go_wp2_with fail
 by_cases hok:PkOk p.s p.d p.t p.n p.x
 ·have hok':PkOk r.s r.d r.t r.n r.x:=by rw[RA.out.s,RA.out.d,RA.out.t,RA.out.n,RA.out.x];exact hok
  refine(ziz r.s r.d r.t r.n r.x _ hok').mono ?_
  rintro e V4 ⟨⟨r9,rfl,ho⟩,hb⟩
  obtain⟨a9,c9,rfl⟩:=zap ho
  have HR:=xh (zas ho HB.out.size)
  replace RA:=xh (RA.out.below hb)
  have HWB:=xh (HB.out.trans (hb.mono HB.out.size))
  clear hb ho hok' u0 u1 u2 u3 u4 u5 u6 u7 u8 u9 u10
  cases b1 with
  | true=>
   cases b2 with
   | true=>
    cases b3 with
    | true=>
     go_wp2_with fail
     go_ret2
     refine⟨⟨_,_,_,_,rfl,by rw[ziV HK.out,←HB1.out,←HB2.out,←HB3.out];simp[hok],fun _=>?_⟩,HWB.out⟩
     have e:=HR.out
     rw[RA.out.s,RA.out.d,RA.out.t,RA.out.n,RA.out.x,←zkd HK.out]at e
     rw[RA.out.s,RA.out.d,RA.out.t,RA.out.n,RA.out.x,←zkd HK.out]
     exact⟨rfl,e⟩
    | false=>
     go_wp2_with fail
     go_ret2
     refine⟨⟨_,_,_,_,rfl,by rw[ziV HK.out,←HB1.out,←HB2.out,←HB3.out];simp[hok],fun h=>(by cases h)⟩,HWB.out⟩
   | false=>
    go_wp2_with fail
    go_ret2
    refine⟨⟨_,_,_,_,rfl,by rw[ziV HK.out,←HB1.out,←HB2.out,←HB3.out];simp[hok],fun h=>(by cases h)⟩,HWB.out⟩
  | false=>
   go_wp2_with fail
   go_ret2
   refine⟨⟨_,_,_,_,rfl,by rw[ziV HK.out,←HB1.out,←HB2.out,←HB3.out];simp[hok],fun h=>(by cases h)⟩,HWB.out⟩
 ·have hok':¬PkOk r.s r.d r.t r.n r.x:=by rw[RA.out.s,RA.out.d,RA.out.t,RA.out.n,RA.out.x];exact hok
  refine(zim r.s r.d r.t r.n r.x _ hok').mono ?_
  rintro e V4 ⟨rfl,hb⟩
  replace RA:=xh (RA.out.below hb)
  have HWB:=xh (HB.out.trans (hb.mono HB.out.size))
  clear hb hok' u0 u1 u2 u3 u4 u5 u6 u7 u8 u9 u10
  go_wp2_with fail
  go_ret2
  exact⟨⟨_,_,_,_,rfl,by rw[ziV HK.out];simp[hok],fun h=>(by cases h)⟩,HWB.out⟩
theorem zkV (r:RPt)(p:Pt)(w:World)(h:r.Rd w p)(hl:zaR p)(hk:p.k≠1∧p.k≠2∧p.k≠3∧p.k≠4):Calls Tryz.prog 26 #[.agg (xR r)] w (RetT w p):=by
 have hk1:(r.k==1)=false:=by rw[h.k];simpa using hk.1
 have hk2:(r.k==2)=false:=by rw[h.k];simpa using hk.2.1
 have hk3:(r.k==3)=false:=by rw[h.k];simpa using hk.2.2.1
 have hk4:(r.k==4)=false:=by rw[h.k];simpa using hk.2.2.2
 have RA:=xh h
 have HL:Hid (zaR p):=hl
 have HK:Hid (p.k≠1∧p.k≠2∧p.k≠3∧p.k≠4):=hk
 have OA:=xh (zac w r 50 w.heap.size rfl)
 have HB:Hid (Below w.heap.size w (w.alloc (.cells (xR r) 50))):=xr.alloc xl _
 replace RA:=xh (RA.out.below HB.out)
 obtain⟨b3,h3⟩:∃b,((r.l3:Int)==0)=b:=⟨_,rfl⟩
 have HB3:Hid (b3=true↔p.noAk):=by
  show _↔_
  rw[←h3,beq_iff_eq]
  have:=h.l3
  unfold Pt.noAk;omega
 obtain⟨b4,h4⟩:∃q,eqK r.s r.d r.t r.n r.x 0 0 0 0 ⟨#[]⟩=q:=⟨_,rfl⟩
 have hEq:∀w',(binOp .eql 48 (.agg (xA r.s r.d r.t r.n (.string r.x))) (.agg xH)).run Tryz.prog w'=.ok (.bool b4) w':=fun w'=>by rw[ziG,h4]
 have hG:=fun op x y xs ys w'=>zb5 op x y xs ys w'
 have HB4:Hid (b4=true↔p.noPk):=by
  show _↔_
  rw[←h4,zc9,h.s,h.d,h.t,h.n,h.x]
  simp only[Prod.mk.injEq];rfl
 clear h hl hk h4
 obtain⟨⟨u0,u1,u2,u3,u4,u5,u6,u7,u8,u9,u10⟩,-⟩:=OA.out
 go_enter Tryz.func26,Tryz.ntmps26
 go_wp2_with fail
 refine(zcc r.be 0 _ _ _ [] _ RA.out.es.1 (ze5 _) (by have:=HL.out.1;omega)).mono ?_
 rintro e V1 ⟨⟨b1,rfl,hb1⟩,hb⟩
 replace RA:=xh (RA.out.below hb)
 replace OA:=xh (OA.out.below hb)
 replace HB:=xh (HB.out.trans (hb.mono HB.out.size))
 have HB1:Hid (b1=true↔p.noBe):=by
  show _↔_
  rw[hb1,RA.out.be]
  exact⟨fun h9=>⟨h9.1,by rw[h9.2];rfl⟩,fun h9=>⟨h9.1,zaD h9.2⟩⟩
 clear hb hb1 u0 u1 u2 u3 u4 u5 u6 u7 u8 u9 u10
 obtain⟨⟨u0,u1,u2,u3,u4,u5,u6,u7,u8,u9,u10⟩,-⟩:=OA.out
 have BA:=xh (zbM (bn:=r.bn) RA.out.os V1.heap.size rfl 45)
 have hal:=(Below.refl V1.heap.size V1).alloc xl (.cells #[xI r.bn,.slice r.a2 r.l2 r.c2] 45)
 replace RA:=xh (RA.out.below hal)
 replace OA:=xh (OA.out.below hal)
 replace HB:=xh (HB.out.trans (hal.mono HB.out.size))
 clear hal
 have BB:=xh (zbM (bn:=0) (zf3 (V1.alloc (.cells #[xI r.bn,.slice r.a2 r.l2 r.c2] 45))) (V1.alloc (.cells #[xI r.bn,.slice r.a2 r.l2 r.c2] 45)).heap.size rfl 45)
 have hal:=(Below.refl (V1.alloc (.cells #[xI r.bn,.slice r.a2 r.l2 r.c2] 45)).heap.size (V1.alloc (.cells #[xI r.bn,.slice r.a2 r.l2 r.c2] 45))).alloc xl (.cells #[xI 0,xS] 45)
 replace BA:=xh (BA.out.below hal)
 replace RA:=xh (RA.out.below hal)
 replace OA:=xh (OA.out.below hal)
 replace HB:=xh (HB.out.trans (hal.mono HB.out.size))
 clear hal
 have hsz:(V1.alloc (.cells #[xI r.bn,.slice r.a2 r.l2 r.c2] 45)).heap.size=V1.heap.size+1:=by simp
 rw[hsz]at BB
 clear hsz
 go_wp2_with fail
 clear u0 u1 u2 u3 u4 u5 u6 u7 u8 u9 u10
 generalize (V1.alloc (.cells #[xI r.bn,.slice r.a2 r.l2 r.c2] 45)).alloc (.cells #[xI 0,xS] 45)=V2 at*
 refine(zcf _ _ _ _ _ BA.out BB.out (by simp) (fun i hi=>by
  obtain rfl:i=0:=by simpa using hi
  have:=HL.out.2.1
  simp[List.getD];omega)).mono ?_
 rintro e V3 ⟨⟨b2,rfl,hb2⟩,hb⟩
 replace RA:=xh (RA.out.below hb)
 replace OA:=xh (OA.out.below hb)
 replace HB:=xh (HB.out.trans (hb.mono HB.out.size))
 have HB2:Hid (b2=true↔p.noBt):=by
  show _↔_
  rw[hb2,RA.out.bn]
  simp only[List.cons.injEq,Prod.mk.injEq,and_true]
  exact⟨fun h9=>⟨h9.1,by rw[h9.2];rfl⟩,fun h9=>⟨h9.1,zaD h9.2⟩⟩
 clear hb hb2 BA BB
 obtain⟨⟨u0,u1,u2,u3,u4,u5,u6,u7,u8,u9,u10⟩,-⟩:=OA.out
 go_wp2_with fail
 go_ret2
 exact⟨⟨_,_,_,_,rfl,⟨fun h=>(by cases h),fun h=>absurd h (zps HK.out)⟩,fun h=>(by cases h)⟩,HB.out⟩
theorem zgk (r:RPt)(p:Pt)(w:World)(h:r.Rd w p)(hl:zaR p):Calls Tryz.prog 26 #[.agg (xR r)] w (RetT w p):=by
 by_cases h1:p.k=1
 ·exact zkY r p w h hl h1
 by_cases h2:p.k=2
 ·exact zk2 r p w h hl h2
 by_cases h3:p.k=3
 ·exact zlV r p w h hl h3
 by_cases h4:p.k=4
 ·exact zld r p w h hl h4
 exact zkV r p w h hl ⟨h1,h2,h3,h4⟩
def szR (r:List Int):Nat:=(256*r.getD 1 0+r.getD 2 0).toNat
def zaw (r:List Int):Option (List Pt):=
 if r.length=0 then some []
 else if r.length<3 then none
 else if r.length-3<szR r then none
 else match zaE (r.getD 0 0) ((r.drop 3).take (szR r))with
  | none=>none
  | some p=>(zaw (r.drop (3+szR r))).map fun l=>p::l
termination_by r.length
decreasing_by rw[List.length_drop];omega
theorem zbV:zaw []=some []:=by rw[zaw];rfl
theorem zcq {r:List Int}(h0:r.length≠0)(h:r.length<3):zaw r=none:=by rw[zaw,if_neg h0,if_pos h]
theorem zcx {r:List Int}(h:3≤r.length)(hs:r.length-3<szR r):zaw r=none:=by rw[zaw,if_neg (by omega),if_neg (by omega),if_pos hs]
theorem zdL {r:List Int}(h:3≤r.length)(hs:szR r≤r.length-3)(hp:zaE (r.getD 0 0) ((r.drop 3).take (szR r))=none):zaw r=none:=by
 rw[zaw,if_neg (by omega),if_neg (by omega),if_neg (by omega),hp]
theorem zbZ {r:List Int}{p:Pt}(h:3≤r.length)(hs:szR r≤r.length-3)(hp:zaE (r.getD 0 0) ((r.drop 3).take (szR r))=some p):zaw r=(zaw (r.drop (3+szR r))).map fun l=>p::l:=by
 rw[zaw,if_neg (by omega),if_neg (by omega),if_neg (by omega),hp]
theorem zgS {p:Pt}{m:List Int}:szR (p.row++m)=p.bs.length:=by
 show(256*((p.bs.length:Int)/256)+(p.bs.length:Int)%256).toNat=_
 omega
theorem zeH:∀(ps:List Pt),AllP ps→zaw (psB ps)=some ps
 | [],_=>zbV
 | p::ps,h=>by
  obtain⟨h1,h2⟩:=zdg.1 h
  have ih:=zeH ps h2
  rw[zfB]
  have hl:(p.row++psB ps).length=3+p.bs.length+(psB ps).length:=by rw[List.length_append,Pt.row_len]
  have hd:(p.row++psB ps).drop (3+p.bs.length)=psB ps:=by rw[←Pt.row_len];exact List.drop_left
  have ht:((p.row++psB ps).drop 3).take p.bs.length=p.bs:=by
   show(p.bs++psB ps).take p.bs.length=p.bs
   exact List.take_left
  rw[zbZ (p:=p) (by omega) (by rw[zgS];omega) (by rw[zgS,ht];exact zii h1),zgS,hd,ih]
  rfl
theorem zpV {r:List Int}(h:3≤r.length):r=[r.getD 0 0,r.getD 1 0,r.getD 2 0]++r.drop 3:=by
 match r,h with
 | a::b::c::l,_=>rfl
theorem zeE:∀(f:Nat) (r:List Int) (ps:List Pt),r.length≤f→(∀x∈r,0≤x∧x<256)→zaw r=some ps→AllP ps∧psB ps=r
 | f,r,ps,hf,hx,h=>by
  by_cases h0:r.length=0
  ·obtain rfl:=List.length_eq_zero_iff.1 h0
   rw[zbV]at h
   cases h
   exact⟨fun i hi=>absurd hi (by simp),rfl⟩
  ·by_cases h3:r.length<3
   ·rw[zcq h0 h3]at h;cases h
   ·by_cases hs:r.length-3<szR r
    ·rw[zcx (by omega) hs]at h;cases h
    ·match hp:zaE (r.getD 0 0) ((r.drop 3).take (szR r))with
     | none=>rw[zdL (by omega) (by omega) hp]at h;cases h
     | some p=>
      rw[zbZ (by omega) (by omega) hp]at h
      match hr:zaw (r.drop (3+szR r))with
      | none=>rw[hr]at h;cases h
      | some l=>
       rw[hr]at h
       have e:p::l=ps:=by simpa using h
       subst e
       match f,hf with
       | 0,hf=>exact absurd hf (by omega)
       | f+1,hf=>
        obtain⟨a1,a2⟩:=zeE f (r.drop (3+szR r)) l (by rw[List.length_drop];omega) (fun x hx'=>hx x (List.drop_subset _ _ hx')) hr
        obtain⟨b1,b2,b3⟩:=zdW (fun x hx'=>hx x (List.drop_subset _ _ (List.take_subset _ _ hx'))) hp
        refine⟨zdg.2 ⟨b1,a1⟩,?_⟩
        have h1:0≤r.getD 1 0∧r.getD 1 0<256:=zaQ hx (by omega)
        have h2:0≤r.getD 2 0∧r.getD 2 0<256:=zaQ hx (by omega)
        have hl:p.bs.length=szR r:=by rw[b3,List.length_take,List.length_drop];omega
        have hz:((szR r:Nat):Int)=256*r.getD 1 0+r.getD 2 0:=by unfold szR;omega
        rw[zfB,a2,Pt.row,b2,hl,hz,b3]
        rw[show(256*r.getD 1 0+r.getD 2 0)/256=r.getD 1 0 by omega,show(256*r.getD 1 0+r.getD 2 0)%256=r.getD 2 0 by omega]
        conv=>rhs;rw[zpV (r:=r) (by omega),←List.take_append_drop (szR r) (r.drop 3),List.drop_drop]
        rw[List.append_assoc]
structure Fr where
 fr:Int
 ep:Int
 to:Int
 pe:Int
 ps:List Pt
def zFr:Fr:=⟨0,0,0,0,[]⟩
def frPF (xs:List Int):Int ⊕ Fr:=
 if xs.length<17 then .inl 6
 else if xs.getD 0 0≠84∨xs.getD 1 0≠1 then .inl 4
 else if(xs.length:Int)<segN xs 12 2 then .inl 6
 else if segN xs 12 2<(xs.length:Int)then .inl 4
 else if segN xs (xs.length-2) 2≠sumN (xs.take (xs.length-2))then .inl 5
 else match zaw ((xs.drop 15).take (xs.length-17))with
  | none=>.inl 4
  | some ps=>if(ps.length:Int)=xs.getD 14 0∧FrOk (xs.getD 2 0) (segN xs 4 4) (xs.getD 3 0) (segN xs 8 4) ps then .inr ⟨xs.getD 2 0,segN xs 4 4,xs.getD 3 0,segN xs 8 4,ps⟩else .inl 4
theorem zcR {xs:List Int}{k:Nat}(h:k+2≤xs.length):segN xs k 2=256*xs.getD k 0+xs.getD (k+1) 0:=by
 have h1:=zcp (xs:=xs) k 1 (by omega)
 have h0:=zcp (xs:=xs) k 0 (by omega)
 have hz:segN xs k 0=0:=rfl
 rw[h1,h0,hz];simp
theorem zlx {xs:List Int}(h:2≤xs.length):xs=xs.take (xs.length-2)++[xs.getD (xs.length-2) 0,xs.getD (xs.length-1) 0]:=by
 conv=>lhs;rw[←List.take_append_drop (xs.length-2) xs]
 congr 1
 apply List.ext_getElem
 ·rw[List.length_drop];simp;omega
 ·intro i h1 h2
  have hi:i=0∨i=1:=by simp at h2;omega
  rcases hi with rfl|rfl
  ·simp[List.getD,show xs.length-2<xs.length by omega]
  ·simp[List.getD,show xs.length-1<xs.length by omega]
   congr 1;omega
theorem znE {xs:List Int}(hx:∀x∈xs,0≤x∧x<256)(h:15≤xs.length)(h0:xs.getD 0 0=84)(h1:xs.getD 1 0=1):xs.take 15=zbB (xs.getD 2 0) (segN xs 4 4) (xs.getD 3 0) (segN xs 8 4) (segN xs 12 2) (xs.getD 14 0):=by
 have e12:segN xs 12 2=256*xs.getD 12 0+xs.getD 13 0:=zcR (xs:=xs) (k:=12) (by omega)
 have b12:=zaQ hx (k:=12) (by omega)
 have b13:=zaQ hx (k:=13) (by omega)
 have l4:lo (segN xs 4 4) 4=(xs.drop 4).take 4:=by
  have:=zgF ((xs.drop 4).take 4) (zbw hx 4 4)
  rw[show((xs.drop 4).take 4).length=4 by rw[List.length_take,List.length_drop];omega]at this
  exact this
 have l8:lo (segN xs 8 4) 4=(xs.drop 8).take 4:=by
  have:=zgF ((xs.drop 8).take 4) (zbw hx 8 4)
  rw[show((xs.drop 8).take 4).length=4 by rw[List.length_take,List.length_drop];omega]at this
  exact this
 unfold zbB
 rw[l4,l8,e12,show(256*xs.getD 12 0+xs.getD 13 0)/256=xs.getD 12 0 by omega,show(256*xs.getD 12 0+xs.getD 13 0)%256=xs.getD 13 0 by omega,←h0,←h1]
 match xs,h with
 | a0::a1::a2::a3::a4::a5::a6::a7::a8::a9::a10::a11::a12::a13::a14::l,_=>rfl
theorem zlI {xs:List Int}(hx:∀x∈xs,0≤x∧x<256){f:Fr}(h:frPF xs=.inr f):FrOk f.fr f.ep f.to f.pe f.ps∧frB f.fr f.ep f.to f.pe f.ps=xs:=by
 unfold frPF at h
 split at h
 ·cases h
 rename_i hl
 split at h
 ·cases h
 rename_i hm
 split at h
 ·cases h
 rename_i hn1
 split at h
 ·cases h
 rename_i hn2
 split at h
 ·cases h
 rename_i hs
 split at h
 ·cases h
 rename_i ps hps
 split at h
 ·rename_i hok
  cases h
  simp only
  refine⟨hok.2,?_⟩
  have hm0:xs.getD 0 0=84:=by have:=hm;omega
  have hm1:xs.getD 1 0=1:=by have:=hm;omega
  have hn:segN xs 12 2=(xs.length:Int):=by omega
  have hs':segN xs (xs.length-2) 2=sumN (xs.take (xs.length-2)):=Classical.not_not.1 hs
  have hmid:∀x∈(xs.drop 15).take (xs.length-17),0≤x∧x<256:=fun x hx'=>hx x (List.drop_subset _ _ (List.take_subset _ _ hx'))
  obtain⟨_,hb⟩:=zeE _ _ ps xl hmid hps
  have hbl:(psB ps).length=xs.length-17:=by rw[hb,List.length_take,List.length_drop];omega
  have hB0:frB0 (xs.getD 2 0) (segN xs 4 4) (xs.getD 3 0) (segN xs 8 4) ps=xs.take (xs.length-2):=by
   unfold frB0
   rw[hok.1,show(17:Int)+((psB ps).length:Int)=segN xs 12 2 by omega,←znE hx (by omega) hm0 hm1,hb]
   rw[show xs.length-2=15+(xs.length-17)by omega,List.take_add]
  have e2:=zcR (xs:=xs) (k:=xs.length-2) (by omega)
  have c0:=zaQ hx (k:=xs.length-2) (by omega)
  have c1:=zaQ hx (k:=xs.length-1) (by omega)
  rw[show xs.length-2+1=xs.length-1 by omega]at e2
  unfold frB
  rw[hB0,←hs',e2,show(256*xs.getD (xs.length-2) 0+xs.getD (xs.length-1) 0)/256=xs.getD (xs.length-2) 0 by omega,show(256*xs.getD (xs.length-2) 0+xs.getD (xs.length-1) 0)%256=xs.getD (xs.length-1) 0 by omega]
  exact(zlx (by omega)).symm
 ·cases h
theorem zhc {v:Int}(h:EpOk v)(m:List Int):be ((lo v 4++m).take 4)=v:=by
 rw[show(lo v 4++m).take 4=lo v 4 from List.take_left' (zan v 4),znw]
 obtain⟨h0,h1⟩:=h
 rw[show zao 4=4294967296 by decide];omega
theorem ziq {fr ep to pe n c:Int}{m xs:List Int}(hxs:xs=zbB fr ep to pe n c++m)(he:EpOk ep)(hp:EpOk pe):
  xs.getD 0 0=84∧xs.getD 1 0=1∧xs.getD 2 0=fr∧xs.getD 3 0=to∧segN xs 4 4=ep∧segN xs 8 4=pe∧segN xs 12 2=n∧xs.getD 14 0=c:=by
 subst hxs
 have d4:(zbB fr ep to pe n c++m).drop 4=lo ep 4++(lo pe 4++([n/256,n%256,c]++m)):=by simp[zbB]
 have d8:(zbB fr ep to pe n c++m).drop 8=lo pe 4++([n/256,n%256,c]++m):=by
  rw[show 8=4+4 from rfl,←List.drop_drop,d4];exact List.drop_left' (zan ep 4)
 have d12:(zbB fr ep to pe n c++m).drop 12=[n/256,n%256,c]++m:=by
  rw[show 12=8+4 from rfl,←List.drop_drop,d8];exact List.drop_left' (zan pe 4)
 refine⟨rfl,rfl,rfl,rfl,?_,?_,?_,?_⟩
 ·unfold segN;rw[d4];exact zhc he _
 ·unfold segN;rw[d8];exact zhc hp _
 ·unfold segN;rw[d12]
  show be [n/256,n%256]=n
  simp[be];omega
 ·have h14:(zbB fr ep to pe n c++m).getD 14 0=((zbB fr ep to pe n c++m).drop 12).getD 2 0:=by simp[List.getD]
  rw[h14,d12];rfl
theorem zpf (fr ep to pe:Int)(ps:List Pt):frB fr ep to pe ps=zbB fr ep to pe (17+((psB ps).length:Int)) ps.length++(psB ps++[sumN (frB0 fr ep to pe ps)/256,sumN (frB0 fr ep to pe ps)%256]):=by
 rw[←List.append_assoc];rfl
theorem zk7 {fr ep to pe:Int}{ps:List Pt}(h:FrOk fr ep to pe ps):frPF (frB fr ep to pe ps)=.inr ⟨fr,ep,to,pe,ps⟩:=by
 obtain⟨xs,hxs⟩:∃xs,frB fr ep to pe ps=xs:=⟨_,rfl⟩
 have hl:=zfp fr ep to pe ps
 have hle:=h.2.2
 rw[hxs]at hl ⊢
 have hx:xs=zbB fr ep to pe (17+((psB ps).length:Int)) ps.length++(psB ps++[sumN (frB0 fr ep to pe ps)/256,sumN (frB0 fr ep to pe ps)%256]):=by
  rw[←hxs,zpf]
 obtain⟨a0,a1,a2,a3,a4,a5,a6,a7⟩:=ziq hx h.1.2.2.1 h.1.2.2.2.1
 have ht:xs.take (xs.length-2)=frB0 fr ep to pe ps:=by
  rw[←hxs,zfp,frB]
  exact List.take_left' (by rw[zbP];omega)
 have hsum:segN xs (xs.length-2) 2=sumN (frB0 fr ep to pe ps):=by
  unfold segN
  have hd:xs.drop (xs.length-2)=[sumN (frB0 fr ep to pe ps)/256,sumN (frB0 fr ep to pe ps)%256]:=by
   rw[←hxs,zfp,frB]
   exact List.drop_left' (by rw[zbP];omega)
  rw[hd]
  have:=zdM (frB0 fr ep to pe ps)
  show be [_,_]=_
  simp[be];omega
 have hmid:(xs.drop 15).take (xs.length-17)=psB ps:=by
  rw[hx,List.drop_left' (ze6 _ _ _ _ _ _)]
  exact List.take_left' (by rw[←hx,hl];omega)
 unfold frPF
 rw[if_neg (by omega),if_neg (by rw[a0,a1];simp),if_neg (by rw[a6,hl];omega),if_neg (by rw[a6,hl];omega),if_neg (by rw[hsum,ht];simp),hmid,zeH ps h.2.1]
 simp only
 rw[a2,a3,a4,a5,a7,if_pos ⟨rfl,h⟩]
theorem zia (r r':RPt)(p p':Pt)(q:Bool)(hq:q=true↔p=p')(w:World)(h:r.Rd w p)(h':r'.Rd w p')(hl:zaR p):
  Calls Tryz.prog 37 #[.agg (xR r),.agg (xR r')] w fun e w'=>e=.returned (.bool q)∧Below w.heap.size w w':=
 (zio r r' p p' w h h' hl).mono fun e w' ⟨⟨b,h1,h2⟩,h3⟩=>⟨by rw[h1,show b=q by rw[Bool.eq_iff_iff];exact h2.trans hq.symm],h3⟩
theorem zoX {ps qs:List Pt}(hl:ps.length=qs.length)(h:∀i,i<ps.length→ps.getD i zPt=qs.getD i zPt):ps=qs:=by
 apply List.ext_getElem hl
 intro i h1 h2
 have:=h i h1
 simpa [List.getD,h1,h2]using this
def FrV (w:World)(v:Value)(f:Fr):Prop:=∃a c,v=.agg (xA f.fr f.ep f.to f.pe (.slice a f.ps.length c))∧Ps w (.slice a f.ps.length c) f.ps
theorem FrV.below {w w':World}{v:Value}{f:Fr}(h:FrV w v f)(hb:Below w.heap.size w w'):FrV w' v f:=by
 obtain⟨a,c,h1,h2⟩:=h
 exact⟨a,c,h1,h2.below hb⟩
def zoD (f:Fr):Prop:=f.ps.length≤1000∧∀i,i<f.ps.length→zaR (f.ps.getD i zPt)
theorem zg5 (fr ep to pe fr' ep' to' pe':Int)(a a':Option Addr)(c c':Nat)(ps qs:List Pt)(w:World)(h:Ps w (.slice a ps.length c) ps)(h':Ps w (.slice a' qs.length c') qs)(hf:∀i,i<ps.length→zaR (ps.getD i zPt))(hl:ps.length≤1000):
  Calls Tryz.prog 20 #[.agg (xA fr ep to pe (.slice a ps.length c)),.agg (xA fr' ep' to' pe' (.slice a' qs.length c'))] w fun e w'=>(∃b:Bool,e=.returned (.bool b)∧(b=true↔fr=fr'∧ep=ep'∧to=to'∧pe=pe'∧ps=qs))∧Below w.heap.size w w':=by
 have OA:=xh ((zav w fr ep to pe (.slice a ps.length c) 24 w.heap.size rfl).below (xr.alloc xl (.cells (xA fr' ep' to' pe' (.slice a' qs.length c')) 24)))
 have OB:=xh (zav (w.alloc (.cells (xA fr ep to pe (.slice a ps.length c)) 24)) fr' ep' to' pe' (.slice a' qs.length c') 24 (w.heap.size+1) (by simp))
 have HB:Hid (Below w.heap.size w ((w.alloc (.cells (xA fr ep to pe (.slice a ps.length c)) 24)).alloc (.cells (xA fr' ep' to' pe' (.slice a' qs.length c')) 24))):=(xr.alloc xl _).alloc (by simp) _
 have HX:=xh (h.below HB.out)
 have HZ:=xh (h'.below HB.out)
 have HI:=xh hf
 have HL0:=xh hl
 clear h h' hf hl
 by_cases h0:fr=fr'
 ·skip
  have h0':(fr !=fr')=false:=by simpa using h0
  by_cases h1:to=to'
  ·skip
   have h1':(to !=to')=false:=by simpa using h1
   by_cases h2:ep=ep'
   ·skip
    have h2':(ep !=ep')=false:=by simpa using h2
    by_cases h3:pe=pe'
    ·skip
     have h3':(pe !=pe')=false:=by simpa using h3
     by_cases h4:ps.length=qs.length
     ·skip
      have h4':((ps.length:Int) !=(qs.length:Int))=false:=by simp[h4]
      have HN:=xh h4
      have HE:Hid (fr=fr'∧ep=ep'∧to=to'∧pe=pe'):=⟨h0,h2,h1,h3⟩
      clear h4 h0 h1 h2 h3
      obtain⟨⟨u0,u1,u2,u3,u4⟩,-⟩:=OA.out
      obtain⟨⟨v0,v1,v2,v3,v4⟩,-⟩:=OB.out
      obtain⟨g1,hg1⟩:∃g,w.heap.size=g:=⟨_,rfl⟩
      go_enter Tryz.func20,Tryz.ntmps20
      go_wp2_with fail
      clear u0 u1 u2 u3 u4 v0 v1 v2 v3 v4
      obtain⟨V,hV⟩:∃V,(w.alloc (.cells (xA fr ep to pe (.slice a ps.length c)) 24)).alloc (.cells (xA fr' ep' to' pe' (.slice a' qs.length c')) 24)=V:=⟨_,rfl⟩
      rw[hV]at HX HZ HB OA OB
      try rw[hV]
      go_loopw [5] (fun i wr=>∃k:Nat,k≤ps.length∧i=xI k∧(∀i,i<k→ps.getD i zPt=qs.getD i zPt)∧Below V.heap.size V wr) (fun i _=>ps.length-(intOf i).toNat)
      case atStart=>exact⟨0,Nat.zero_le _,rfl,fun i h=>absurd h (Nat.not_lt_zero _),Below.refl _ _⟩
      case round=>
       obtain⟨k,hk,rfl,hsame,hbel⟩:=hrel
       have HS:=xh hsame
       have HV:=xh (HB.out.trans (hbel.mono HB.out.size))
       have OA':=xh (OA.out.below hbel)
       have OB':=xh (OB.out.below hbel)
       have HBV:=xh hbel
       have hX:=HX.out.below hbel
       have hZ:=HZ.out.below hbel
       clear hsame hbel
       obtain⟨wo,hwo⟩:∃wo,wo=wr:=⟨_,rfl⟩
       subst hwo
       obtain⟨⟨u0,u1,u2,u3,u4⟩,-⟩:=OA'.out
       obtain⟨⟨v0,v1,v2,v3,v4⟩,-⟩:=OB'.out
       by_cases hlt:k<ps.length
       ·obtain⟨b,off,r,rfl,hb1,x,hr⟩:=hX.at hlt
        have hlt2:k<qs.length:=by have:=HN.out;omega
        obtain⟨b2,off2,r2,rfl,hb2,y,hr2⟩:=hZ.at hlt2
        have HF:=xh (HI.out k hlt)
        obtain⟨p1,hp1⟩:∃p,ps.getD k zPt=p:=⟨_,rfl⟩
        obtain⟨p2,hp2⟩:∃p,qs.getD k zPt=p:=⟨_,rfl⟩
        rw[hp1]at hr HF
        rw[hp2]at hr2
        have HK:=xh hp1
        have HK2:=xh hp2
        obtain⟨q,hq⟩:∃q:Bool,(q=true↔p1=p2):=by
         rcases Classical.em (p1=p2)with h|h
         ·exact⟨true,by simp[h]⟩
         ·exact⟨false,by simp[h]⟩
        have cS:∀w',Below wo.heap.size wo w'→Calls Tryz.prog 37 #[.agg (xR r),.agg (xR r2)] w' fun e w''=>e=.returned (.bool q)∧Below w'.heap.size w' w'':=fun w' h=>zia r r2 p1 p2 q hq w' (hr.below h) (hr2.below h) HF.out
        have HQ:=xh hq
        have ou:wo.cell? (xQ g1 4)=some (.slice (some ⟨b,off,none⟩) ps.length c):=by rw[←hg1];exact u4
        have ov:wo.cell? (g1+1,4)=some (.slice (some ⟨b2,off2,none⟩) qs.length c'):=by rw[←hg1];exact v4
        have kc:∀w',Below wo.heap.size wo w'→(w'.cell? (xQ g1 4)=some (.slice (some ⟨b,off,none⟩) ps.length c)∧w'.cell? (g1+1,4)=some (.slice (some ⟨b2,off2,none⟩) qs.length c'))∧C11 w' b (off+k*11) r∧C11 w' b2 (off2+k*11) r2:=fun w' h=>
         ⟨⟨(h.cell (World.block_lt_of_cell? wo _ ou)).trans ou,(h.cell (World.block_lt_of_cell? wo _ ov)).trans ov⟩,x.below h,y.below h⟩
        simp only[C11]at kc
        have hk9:(ps.length:Int)≤1000:=by have:=HL0.out;omega
        have hk0:(0:Int)≤(k:Int):=by omega
        have hk1:(k:Int)<(ps.length:Int):=by omega
        have hk2:(k:Int)<(qs.length:Int):=by omega
        have hkn:((k:Int)).toNat=k:=Int.toNat_natCast k
        clear hr hr2 hp1 hp2 hq x y ou ov
        rw[hg1]at u0 u1 u2 u3 u4 v0 v1 v2 v3 v4
        try rw[hg1]
        go_wp2_with fail
        clear u0 u1 u2 u3 u4 v0 v1 v2 v3 v4
        refine zaf (C:=fun w'=>Below wo.heap.size wo w') (X:=fun w w'=>Below w.heap.size w w') (n:=60) (by kernel_rfl) (by kernel_rfl) rfl (fun w=>Below.refl _ w) xr.drew ?_
        refine wA 2 ?_
        refine wC 48 kc ?_
        refine wA 5 ?_
        refine w_is (fun w=>Below.refl _ w) _ (.inl rfl) (fun ρ w hC hc hfn hf=>by have e49:ρ (.tmp 49)=_:=hf 49 (by decide);have e50:ρ (.tmp 50)=_:=hf 50 (by decide);(conv=>lhs;simp[execOp,go_sem,hc,e49,e50,hk0,hk1,hkn])) ?_
        refine wC 51 kc ?_
        refine wA 3 ?_
        refine wC 53 kc ?_
        refine wA 5 ?_
        refine w_is (fun w=>Below.refl _ w) _ (.inl rfl) (fun ρ w hC hc hfn hf=>by have e54:ρ (.tmp 54)=_:=hf 54 (by decide);have e55:ρ (.tmp 55)=_:=hf 55 (by decide);(conv=>lhs;simp[execOp,go_sem,hc,e54,e55,hk0,hk2,hkn])) ?_
        refine wC 56 kc ?_
        refine za8 (Is _) (fun _ _ _ h _=>h) 37 (.inl rfl) (fun ρ w hC hc hfn hf=>by have e52:ρ (.tmp 52)=_:=hf 52 (by decide);have e57:ρ (.tmp 57)=_:=hf 57 (by decide);exact⟨_,by (conv=>lhs;simp[execOp,resolve,invoke,go_sem,hc,hfn,e52,e57]),za9 hC (cS w hC)⟩) ?_
        refine wA 58 ?_
        intro A V5 hC hn hd hf
        have y0:=yA (hf 0)
        have y1:=yA (hf 1)
        have y2:=yA (hf 2)
        have y3:=yA (hf 3)
        have y4:=yA (hf 4)
        have y5:=yA (hf 5)
        have y6:=yA (hf 6)
        have y7:=yA (hf 7)
        have y8:=yA (hf 8)
        have y9:=yA (hf 9)
        have y10:=yA (hf 10)
        have y11:=yA (hf 11)
        have y12:=yA (hf 12)
        have y13:=yA (hf 13)
        have y14:=yA (hf 14)
        have y15:=yA (hf 15)
        have y16:=yA (hf 16)
        have y17:=yA (hf 17)
        have y18:=yA (hf 18)
        have y19:=yA (hf 19)
        have y20:=yA (hf 20)
        have y21:=yA (hf 21)
        have y22:=yA (hf 22)
        have y23:=yA (hf 23)
        have y24:=yA (hf 24)
        have y25:=yA (hf 25)
        have y26:=yA (hf 26)
        have y27:=yA (hf 27)
        have y28:=yA (hf 28)
        have y29:=yA (hf 29)
        have y30:=yA (hf 30)
        have y31:=yA (hf 31)
        have y32:=yA (hf 32)
        have y33:=yA (hf 33)
        have y34:=yA (hf 34)
        have y35:=yA (hf 35)
        have y36:=yA (hf 36)
        have y37:=yA (hf 37)
        have y38:=yA (hf 38)
        have y39:=yA (hf 39)
        have y40:=yA (hf 40)
        have y41:=yA (hf 41)
        have y42:=yA (hf 42)
        have y43:=yA (hf 43)
        have y44:=yA (hf 44)
        have y45:=yA (hf 45)
        have y46:=yA (hf 46)
        have y47:=yA (hf 47)
        have y48:=yB (hf 48)
        have y49:=yB (hf 49)
        have y50:=yB (hf 50)
        have y51:=yB (hf 51)
        have y52:=yB (hf 52)
        have y53:=yB (hf 53)
        have y54:=yB (hf 54)
        have y55:=yB (hf 55)
        have y56:=yB (hf 56)
        have y57:=yB (hf 57)
        have y58:=yB (hf 58)
        have y59:=yB (hf 59)
        clear hf
        have hA:=zaL hn
        rw[show List.range 60=[0,1,2,3,4,5,6,7,8,9,10,11,12,13,14,15,16,17,18,19,20,21,22,23,24,25,26,27,28,29,30,31,32,33,34,35,36,37,38,39,40,41,42,43,44,45,46,47,48,49,50,51,52,53,54,55,56,57,58,59]from rfl,hd]at hA
        simp only[List.map_cons,List.map_nil,y0,y1,y2,y3,y4,y5,y6,y7,y8,y9,y10,y11,y12,y13,y14,y15,y16,y17,y18,y19,y20,y21,y22,y23,y24,y25,y26,y27,y28,y29,y30,y31,y32,y33,y34,y35,y36,y37,y38,y39,y40,y41,y42,y43,y44,y45,y46,y47,y48,y49,y50,y51,y52,y53,y54,y55,y56,y57,y58,y59]at hA
        clear y0 y1 y2 y3 y4 y5 y6 y7 y8 y9 y10 y11 y12 y13 y14 y15 y16 y17 y18 y19 y20 y21 y22 y23 y24 y25 y26 y27 y28 y29 y30 y31 y32 y33 y34 y35 y36 y37 y38 y39 y40 y41 y42 y43 y44 y45 y46 y47 y48 y49 y50 y51 y52 y53 y54 y55 y56 y57 y58 y59
        clear hn hd
        subst hA
        cases q with
        | true=>
         go_wp2_with fail
         go_roundw
         case rel=>
          refine⟨k+1,by omega,by go_num,fun i hi=>?_,HBV.out.trans (hC.mono HBV.out.size)⟩
          by_cases h:i<k
          ·exact HS.out i h
          ·obtain rfl:i=k:=by omega
           rw[HK.out,HK2.out];exact HQ.out.1 rfl
         case measure=>simp[intOf];omega
        | false=>
         go_wp2_with fail
         go_ret
         refine⟨⟨_,rfl,fun h=>(by cases h),fun h=>?_⟩,HV.out.trans (hC.mono HV.out.size)⟩
         have e:p1=p2:=by rw[←HK.out,←HK2.out,h.2.2.2.2]
         exact HQ.out.2 e
       ·obtain rfl:k=ps.length:=by omega
        rw[hg1]at u0 u1 u2 u3 u4 v0 v1 v2 v3 v4
        go_wp2_with fail
        go_ret
        exact⟨⟨_,rfl,fun _=>⟨HE.out.1,HE.out.2.1,HE.out.2.2.1,HE.out.2.2.2,zoX HN.out HS.out⟩,fun _=>rfl⟩,HV.out⟩
     ·skip
      have h4':((ps.length:Int) !=(qs.length:Int))=true:=by simp only[bne_iff_ne,ne_eq];omega
      have HNO:=xh h4
      clear h4 h0 h1 h2 h3
      obtain⟨⟨u0,u1,u2,u3,u4⟩,-⟩:=OA.out
      obtain⟨⟨v0,v1,v2,v3,v4⟩,-⟩:=OB.out
      go_enter Tryz.func20,Tryz.ntmps20
      go_wp2_with fail
      go_ret
      exact⟨⟨_,rfl,fun h=>(by cases h),fun h=>absurd (by rw[h.2.2.2.2]) HNO.out⟩,HB.out⟩
    ·skip
     have h3':(pe !=pe')=true:=by simpa using h3
     have HNO:=xh h3
     clear h3 h0 h1 h2
     obtain⟨⟨u0,u1,u2,u3,u4⟩,-⟩:=OA.out
     obtain⟨⟨v0,v1,v2,v3,v4⟩,-⟩:=OB.out
     go_enter Tryz.func20,Tryz.ntmps20
     go_wp2_with fail
     go_ret
     exact⟨⟨_,rfl,fun h=>(by cases h),fun h=>absurd h.2.2.2.1 HNO.out⟩,HB.out⟩
   ·skip
    have h2':(ep !=ep')=true:=by simpa using h2
    have HNO:=xh h2
    clear h2 h0 h1
    obtain⟨⟨u0,u1,u2,u3,u4⟩,-⟩:=OA.out
    obtain⟨⟨v0,v1,v2,v3,v4⟩,-⟩:=OB.out
    go_enter Tryz.func20,Tryz.ntmps20
    go_wp2_with fail
    go_ret
    exact⟨⟨_,rfl,fun h=>(by cases h),fun h=>absurd h.2.1 HNO.out⟩,HB.out⟩
  ·skip
   have h1':(to !=to')=true:=by simpa using h1
   have HNO:=xh h1
   clear h1 h0
   obtain⟨⟨u0,u1,u2,u3,u4⟩,-⟩:=OA.out
   obtain⟨⟨v0,v1,v2,v3,v4⟩,-⟩:=OB.out
   go_enter Tryz.func20,Tryz.ntmps20
   go_wp2_with fail
   go_ret
   exact⟨⟨_,rfl,fun h=>(by cases h),fun h=>absurd h.2.2.1 HNO.out⟩,HB.out⟩
 ·skip
  have h0':(fr !=fr')=true:=by simpa using h0
  have HNO:=xh h0
  clear h0
  obtain⟨⟨u0,u1,u2,u3,u4⟩,-⟩:=OA.out
  obtain⟨⟨v0,v1,v2,v3,v4⟩,-⟩:=OB.out
  go_enter Tryz.func20,Tryz.ntmps20
  go_wp2_with fail
  go_ret
  exact⟨⟨_,rfl,fun h=>(by cases h),fun h=>absurd h.1 HNO.out⟩,HB.out⟩
theorem zeU (v v':Value)(f f':Fr)(w:World)(h:FrV w v f)(h':FrV w v' f')(hf:zoD f):
  Calls Tryz.prog 20 #[v,v'] w fun e w'=>(∃b:Bool,e=.returned (.bool b)∧(b=true↔f=f'))∧Below w.heap.size w w':=by
 obtain⟨a,c,rfl,h1⟩:=h
 obtain⟨a',c',rfl,h2⟩:=h'
 refine(zg5 f.fr f.ep f.to f.pe f'.fr f'.ep f'.to f'.pe a a' c c' f.ps f'.ps w h1 h2 hf.2 hf.1).mono fun e w' ⟨⟨b,h3,h4⟩,h5⟩=>⟨⟨b,h3,h4.trans ?_⟩,h5⟩
 cases f;cases f'
 simp only[Fr.mk.injEq]
end Go.Proofs.YtjghebcnmoojmaaGreat
