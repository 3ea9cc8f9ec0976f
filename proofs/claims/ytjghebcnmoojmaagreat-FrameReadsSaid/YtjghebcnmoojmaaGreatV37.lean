/- A part out of bytes, as the document says it; Rows of parts, the call's own, whose parts' rows are its own too: -/
import Derived.Test.YtjghebcnmoojmaaGreatV35
set_option maxRecDepth 100000
set_option maxHeartbeats 32000000
namespace Go.Proofs.YtjghebcnmoojmaaGreat
open Go.RowKit MX MR
structure RPt.Ow (w:World)(S:Nat)(r:RPt)(p:Pt):Prop where
 k:r.k=p.k
 be:r.be=p.be
 es:OwE w S (.slice r.a1 r.l1 r.c1) p.es
 bn:r.bn=p.bn
 os:w.ownsRow S 63 12 (.slice r.a2 r.l2 r.c2) p.os.length (flat p.os)
 ks:w.ownsRow S 120 4 (.slice r.a3 r.l3 r.c3) p.ks.length (aflat p.ks)
 s:r.s=p.s
 d:r.d=p.d
 t:r.t=p.t
 n:r.n=p.n
 x:r.x=p.x
theorem RPt.Ow.rd {w:World}{S:Nat}{r:RPt}{p:Pt}(h:r.Ow w S p):r.Rd w p:=
 ⟨h.k,h.be,h.es.el,h.bn,(zcA h.os).1,(zeC h.ks).1,h.s,h.d,h.t,h.n,h.x⟩
theorem RPt.Ow.below {w w':World}{S:Nat}{r:RPt}{p:Pt}(h:r.Ow w S p)(hb:Below w.heap.size w w'):r.Ow w' S p:=
 ⟨h.k,h.be,zae h.es hb,h.bn,zae h.os hb,zae h.ks hb,h.s,h.d,h.t,h.n,h.x⟩
theorem RPt.Ow.mono {w:World}{S S':Nat}{r:RPt}{p:Pt}(h:r.Ow w S p)(hS:S'≤S):r.Ow w S' p:=
 ⟨h.k,h.be,zas h.es hS,h.bn,zas h.os hS,zas h.ks hS,h.s,h.d,h.t,h.n,h.x⟩
theorem RPt.Ow.apart {w:World}{S b:Nat}{u:Value}{r:RPt}{p:Pt}(h:r.Ow w S p)(hb:b<S)(j:Nat):r.Ow (w.setCell ⟨b,j,none⟩ u) S p:=
 ⟨h.k,h.be,zbi h.es hb j,h.bn,zbi h.os hb j,zbi h.ks hb j,h.s,h.d,h.t,h.n,h.x⟩
theorem OwnT.apart {w:World}{b b':Nat}{r:RPt}{u:Value}(h:OwnT w b r)(hb:b≠b')(j:Nat):OwnT (w.setCell ⟨b',j,none⟩ u) b r:=by
 have e:∀i,(w.setCell ⟨b',j,none⟩ u).cell? ⟨b,i,none⟩=w.cell? ⟨b,i,none⟩:=fun i=>World.cell?_of_block (Below.heap_setCell w ⟨b',j,none⟩ u b hb)
 have f:∀i,(w.setCell ⟨b',j,none⟩ u).frozen? ⟨b,i,none⟩=w.frozen? ⟨b,i,none⟩:=fun i=>World.frozen?_of_block (Below.heap_setCell w ⟨b',j,none⟩ u b hb)
 obtain⟨⟨h0,h1,h2,h3,h4,h5,h6,h7,h8,h9,h10⟩,hf⟩:=h
 exact⟨⟨(e 0).trans h0,(e 1).trans h1,(e 2).trans h2,(e 3).trans h3,(e 4).trans h4,(e 5).trans h5,(e 6).trans h6,(e 7).trans h7,(e 8).trans h8,(e 9).trans h9,(e 10).trans h10⟩,fun i=>(f i).trans (hf i)⟩
theorem OwnT.setall {w:World}{b:Nat}{r:RPt}(h:OwnT w b r)(q:RPt):OwnT (xC w b (xR q)) b q:=by
 obtain⟨⟨h0,h1,h2,h3,h4,h5,h6,h7,h8,h9,h10⟩,hf⟩:=h
 refine⟨⟨?_,?_,?_,?_,?_,?_,?_,?_,?_,?_,?_⟩,fun j=>?_⟩<;>simp[go_sem,hf,h0,h1,h2,h3,h4,h5,h6,h7,h8,h9,h10]
theorem zag {B:Nat}{u w:World}{b:Nat}(h:Below B u w)(hB:B≤b)(q:RPt):Below B u (xC w b (xR q)):=(xC11 h hB)
theorem zaT {w:World}{S b:Nat}{r:RPt}{p:Pt}(h:r.Ow w S p)(hb:b<S)(q:RPt):r.Ow (xC w b (xR q)) S p:=(((((((((((h.apart hb 0).apart hb 1).apart hb 2).apart hb 3).apart hb 4).apart hb 5).apart hb 6).apart hb 7).apart hb 8).apart hb 9).apart hb 10)
theorem zkK {w:World}{r:Int ⊕ (List (Int×Int×Int×Int)×Int)}{e:Ending}{w':World}(h:(∃u t k,e=.returned (.tuple #[u,xI t,xI k])∧zmm w r u t k w')∧Below w.heap.size w w'):(∃a c,e=.returned (.tuple #[.slice a (paY r).length c,xI (paT r),xI (paK r)])∧w'.ownsRow w.heap.size 120 4 (.slice a (paY r).length c) (paY r).length (aflat (paY r)))∧Below w.heap.size w w':=by
 obtain⟨⟨u,t,k,h1,h2⟩,h3⟩:=h
 match r,h2 with
 | .inl e9,⟨hu,ht,hk⟩=>
  subst hu ht hk
  exact⟨⟨none,0,h1,zat (R:=RA) _ _⟩,h3⟩
 | .inr (ys,to),⟨ht,hk,ho⟩=>
  subst ht hk
  obtain⟨a,c,rfl⟩:=zap ho
  exact⟨⟨a,c,h1,ho⟩,h3⟩
def RetD (w:World)(k:Int)(xs:List Int)(e:Ending)(w':World):Prop:=(∃(r:RPt) (q:Bool),e=.returned (.tuple #[.agg (xR r),.bool q])∧(q=true→∃p,zaE k xs=some p∧r.Ow w' w.heap.size p)∧(q=false→zaE k xs=none))∧Below w.heap.size w w'
theorem zoK {k:Int}(h:k≠1∧k≠2∧k≠3∧k≠4)(b:List Int):zaE k b=none:=by
 unfold zaE
 rw[if_neg h.1,if_neg h.2.1,if_neg h.2.2.1,if_neg h.2.2.2]
theorem zlN (k:Int)(v:Value)(xs:List Int)(w:World)(hv:Bs w v xs)(hk:k≠1∧k≠2∧k≠3∧k≠4):Calls Tryz.prog 36 #[xI k,v] w (RetD w k xs):=by
 have hk1:(k==1)=false:=by simpa using hk.1
 have hk2:(k==2)=false:=by simpa using hk.2.1
 have hk3:(k==3)=false:=by simpa using hk.2.2.1
 have hk4:(k==4)=false:=by simpa using hk.2.2.2
 obtain⟨a,l,c,rfl⟩:=zal hv
 obtain⟨rfl,-⟩:=za0 hv
 have HK:Hid (k≠1∧k≠2∧k≠3∧k≠4):=hk
 have OR:Hid (OwnT ((w.alloc (.cells xL 50)).alloc (.cells (xN k) 50)) w.heap.size (⟨0,0,none,0,0,0,none,0,0,none,0,0,0,0,0,0,⟨#[]⟩⟩:RPt)):=((zac w (⟨0,0,none,0,0,0,none,0,0,none,0,0,0,0,0,0,⟨#[]⟩⟩:RPt) 50 w.heap.size rfl).below (xr.alloc xl (.cells (xN k) 50)))
 have OP:Hid (OwnT ((w.alloc (.cells xL 50)).alloc (.cells (xN k) 50)) (w.heap.size+1) (⟨k,0,none,0,0,0,none,0,0,none,0,0,0,0,0,0,⟨#[]⟩⟩:RPt)):=zac (w.alloc (.cells xL 50)) (⟨k,0,none,0,0,0,none,0,0,none,0,0,0,0,0,0,⟨#[]⟩⟩:RPt) 50 (w.heap.size+1) (by simp)
 have HB:Hid (Below w.heap.size w ((w.alloc (.cells xL 50)).alloc (.cells (xN k) 50))):=(xr.alloc xl _).alloc (by simp) _
 have HS0:Hid (((w.alloc (.cells xL 50)).alloc (.cells (xN k) 50)).heap.size=w.heap.size+2):=by show _=_;simp
 have HV:=xh (zaa hv HB.out)
 clear hv hk
 obtain⟨V0,hV0⟩:∃V0,(w.alloc (.cells xL 50)).alloc (.cells (xN k) 50)=V0:=⟨_,rfl⟩
 rw[hV0]at OR OP HB HV HS0
 have HV0:=xh hV0
 clear hV0
 go_enter Tryz.func36,Tryz.ntmps36
 go_upto_region 4 with (fail)
 rw[HV0.out]
 clear HV0
 have OR3:=OR
 have HB3:=HB
 obtain⟨⟨u0,u1,u2,u3,u4,u5,u6,u7,u8,u9,u10⟩,uf⟩:=OR.out
 obtain⟨⟨v0,v1,v2,v3,v4,v5,v6,v7,v8,v9,v10⟩,vf⟩:=OP.out
 clear HV HS0
 go_wp2_with fail
 have hs:=(OR3.out.setall ⟨k,0,none,0,0,0,none,0,0,none,0,0,0,0,0,0,⟨#[]⟩⟩).1
 have hbs:=zag (b:=w.heap.size) HB3.out xl ⟨k,0,none,0,0,0,none,0,0,none,0,0,0,0,0,0,⟨#[]⟩⟩
 simp only at hs hbs
 generalize (xC V0 w.heap.size (xN k):World)=W5 at*
 obtain⟨s0_,s1_,s2_,s3_,s4_,s5_,s6_,s7_,s8_,s9_,s10_⟩:=hs
 exact bodyPost_ret (v:=.tuple #[.agg (xN k),.bool false]) (by simp[results,Tryz.results36,go_sem,s0_,s1_,s2_,s3_,s4_,s5_,s6_,s7_,s8_,s9_,s10_]) rfl ⟨⟨⟨k,0,none,0,0,0,none,0,0,none,0,0,0,0,0,0,⟨#[]⟩⟩,_,rfl,fun h=>(by cases h),fun _=>zoK HK.out xs⟩,hbs⟩
theorem zlk (k:Int)(v:Value)(xs:List Int)(w:World)(hv:Bs w v xs)(hk:k=1):Calls Tryz.prog 36 #[xI k,v] w (RetD w k xs):=by
 have hk1:(k==1)=true:=by rw[hk];rfl
 have hk2:(k==2)=false:=by rw[hk];rfl
 have hk3:(k==3)=false:=by rw[hk];rfl
 have hk4:(k==4)=false:=by rw[hk];rfl
 obtain⟨a,l,c,rfl⟩:=zal hv
 obtain⟨rfl,-⟩:=za0 hv
 have HK:Hid (k=1):=hk
 have OR:Hid (OwnT ((w.alloc (.cells xL 50)).alloc (.cells (xN k) 50)) w.heap.size (⟨0,0,none,0,0,0,none,0,0,none,0,0,0,0,0,0,⟨#[]⟩⟩:RPt)):=((zac w (⟨0,0,none,0,0,0,none,0,0,none,0,0,0,0,0,0,⟨#[]⟩⟩:RPt) 50 w.heap.size rfl).below (xr.alloc xl (.cells (xN k) 50)))
 have OP:Hid (OwnT ((w.alloc (.cells xL 50)).alloc (.cells (xN k) 50)) (w.heap.size+1) (⟨k,0,none,0,0,0,none,0,0,none,0,0,0,0,0,0,⟨#[]⟩⟩:RPt)):=zac (w.alloc (.cells xL 50)) (⟨k,0,none,0,0,0,none,0,0,none,0,0,0,0,0,0,⟨#[]⟩⟩:RPt) 50 (w.heap.size+1) (by simp)
 have HB:Hid (Below w.heap.size w ((w.alloc (.cells xL 50)).alloc (.cells (xN k) 50))):=(xr.alloc xl _).alloc (by simp) _
 have HS0:Hid (((w.alloc (.cells xL 50)).alloc (.cells (xN k) 50)).heap.size=w.heap.size+2):=by show _=_;simp
 have HV:=xh (zaa hv HB.out)
 clear hv hk
 obtain⟨V0,hV0⟩:∃V0,(w.alloc (.cells xL 50)).alloc (.cells (xN k) 50)=V0:=⟨_,rfl⟩
 rw[hV0]at OR OP HB HV HS0
 have HV0:=xh hV0
 clear hV0
 go_enter Tryz.func36,Tryz.ntmps36
 go_upto_region 4 with (fail)
 rw[HV0.out]
 clear HV0
 obtain⟨⟨M9,Y9,T9,K9⟩,h9⟩:∃r,zaj xs 0=r:=⟨_,rfl⟩
 have cP:=zgU (.slice a xs.length c) xs 0 V0 HV.out
 rw[h9]at cP
 have H9:=xh h9
 clear h9
 obtain⟨⟨u0,u1,u2,u3,u4,u5,u6,u7,u8,u9,u10⟩,uf⟩:=OR.out
 obtain⟨⟨v0,v1,v2,v3,v4,v5,v6,v7,v8,v9,v10⟩,vf⟩:=OP.out
 go_wp2_with fail
 clear u0 v0 u1 v1 u2 v2 u3 v3 u4 v4 u5 v5 u6 v6 u7 v7 u8 v8 u9 v9 u10 v10 uf vf
 refine(cP).mono ?_
 rintro e V1 ⟨a9,c9,rfl,ho,hb⟩
 have HB1:=xh (HB.out.trans (hb.mono HB.out.size))
 have OR1:=xh (OR.out.below hb)
 have OP1:=xh (OP.out.below hb)
 have HOW:Hid ((⟨k,M9,a9,Y9.length,c9,0,none,0,0,none,0,0,0,0,0,0,⟨#[]⟩⟩:RPt).Ow V1 V0.heap.size ⟨k,M9,Y9,0,[],[],0,0,0,0,⟨#[]⟩⟩):=⟨rfl,rfl,ho,rfl,zat (R:=RO) _ _,zat (R:=RA) _ _,rfl,rfl,rfl,rfl,rfl⟩
 clear ho cP
 clear hb HV
 have hal:=(Below.refl V1.heap.size V1).alloc xl (.cells #[xI M9,.slice a9 Y9.length c9] 42)
 have HB2:=xh (HB1.out.trans (hal.mono HB1.out.size))
 have OR2:=xh (OR1.out.below hal)
 have OP2:=xh (OP1.out.below hal)
 have HO2:=xh (HOW.out.below hal)
 clear hal
 obtain⟨gv,hgv⟩:∃g,V1.heap.size=g:=⟨_,rfl⟩
 have hcv:(V1.alloc (.cells #[xI M9,.slice a9 Y9.length c9] 42)).cell? (xQ gv 0)=xJ M9∧(V1.alloc (.cells #[xI M9,.slice a9 Y9.length c9] 42)).cell? (xQ gv 1)=some (.slice a9 Y9.length c9):=by
  subst hgv
  exact⟨by simp,by simp⟩
 have HGV:Hid ((w.heap.size+1)<gv):=by rw[←hgv];exact OP1.out.lt
 have HCV:=xh hcv
 clear hcv
 have HGE:=xh hgv
 clear hgv
 go_upto_region 7 with (fail)
 rw[HGE.out]
 obtain⟨V2,hV2⟩:∃V2,V1.alloc (.cells #[xI M9,.slice a9 Y9.length c9] 42)=V2:=⟨_,rfl⟩
 rw[hV2]at HB2 OR2 OP2 HO2 HCV
 rw[hV2]
 clear hV2 HGE
 have hgn1:gv≠w.heap.size:=by have:=HGV.out;omega
 have hgn2:gv≠(w.heap.size+1):=by have:=HGV.out;omega
 obtain⟨q0,q1⟩:=HCV.out
 obtain⟨⟨u0,u1,u2,u3,u4,u5,u6,u7,u8,u9,u10⟩,uf⟩:=OR2.out
 obtain⟨⟨v0,v1,v2,v3,v4,v5,v6,v7,v8,v9,v10⟩,vf⟩:=OP2.out
 have OR3:Hid (OwnT ((V2.setCell ((w.heap.size+1),1) (xI M9)).setCell ((w.heap.size+1),2) (.slice a9 Y9.length c9)) w.heap.size (⟨0,0,none,0,0,0,none,0,0,none,0,0,0,0,0,0,⟨#[]⟩⟩:RPt)):=((OR2.out.apart (u:=xI M9) (b':=(w.heap.size+1)) (by omega) 1).apart (u:=.slice a9 Y9.length c9) (b':=(w.heap.size+1)) (by omega) 2)
 have HB3:Hid (Below w.heap.size w ((V2.setCell ((w.heap.size+1),1) (xI M9)).setCell ((w.heap.size+1),2) (.slice a9 Y9.length c9))):=((HB2.out.setCell (p:=xQ (w.heap.size+1) 1) (Nat.le_succ _) (xI M9)).setCell (p:=xQ (w.heap.size+1) 2) (Nat.le_succ _) (.slice a9 Y9.length c9))
 have HO3:=xh ((HO2.out.apart (u:=xI M9) (b:=(w.heap.size+1)) (by have:=HS0.out;omega) 1).apart (u:=.slice a9 Y9.length c9) (b:=(w.heap.size+1)) (by have:=HS0.out;omega) 2)
 have HRK:Hid (zaE k xs=if K9=0∧T9=xs.length then some ⟨k,M9,Y9,0,[],[],0,0,0,0,⟨#[]⟩⟩else none):=by
  show _=_
  rw[HK.out]
  rw[znn,H9.out]
 by_cases hK:K9=0
 ·have hK':(K9==0)=true:=by simpa using hK
  by_cases hT:T9=(xs.length:Int)
  ·have hT':(T9==(xs.length:Int))=true:=by simpa using hT
   have HKT:Hid (K9=0∧T9=xs.length):=⟨hK,hT⟩
   clear hK hT
   go_wp2_with fail
   have hs:=(OR3.out.setall ⟨k,M9,a9,Y9.length,c9,0,none,0,0,none,0,0,0,0,0,0,⟨#[]⟩⟩).1
   have hbs:=zag (b:=w.heap.size) HB3.out xl ⟨k,M9,a9,Y9.length,c9,0,none,0,0,none,0,0,0,0,0,0,⟨#[]⟩⟩
   have hho:=zaT HO3.out (b:=w.heap.size) (by have:=HS0.out;omega) ⟨k,M9,a9,Y9.length,c9,0,none,0,0,none,0,0,0,0,0,0,⟨#[]⟩⟩
   simp only at hs hbs hho
   generalize (((((((((((((V2.setCell ((w.heap.size+1),1) (xI M9)).setCell ((w.heap.size+1),2) (.slice a9 Y9.length c9)).setCell (w.heap.size,0) (xI k)).setCell (w.heap.size,1) (xI M9)).setCell (w.heap.size,2) (.slice a9 Y9.length c9)).setCell (w.heap.size,3) (xI 0)).setCell (w.heap.size,4) xS).setCell (w.heap.size,5) xS).setCell (w.heap.size,6) (xI 0)).setCell (w.heap.size,7) (xI 0)).setCell (w.heap.size,8) (xI 0)).setCell (w.heap.size,9) (xI 0)).setCell (w.heap.size,10) xT)=W5 at*
   obtain⟨s0_,s1_,s2_,s3_,s4_,s5_,s6_,s7_,s8_,s9_,s10_⟩:=hs
   exact bodyPost_ret (v:=.tuple #[.agg #[xI k,xI M9,.slice a9 Y9.length c9,xI 0,xS,xS,xI 0,xI 0,xI 0,xI 0,xT],.bool true]) (by simp[results,Tryz.results36,go_sem,s0_,s1_,s2_,s3_,s4_,s5_,s6_,s7_,s8_,s9_,s10_]) rfl ⟨⟨⟨k,M9,a9,Y9.length,c9,0,none,0,0,none,0,0,0,0,0,0,⟨#[]⟩⟩,_,rfl,fun _=>⟨_,by rw[HRK.out];exact if_pos HKT.out,hho.mono (by have:=HS0.out;omega)⟩,fun h=>(by cases h)⟩,hbs⟩
  ·have hT':(T9==(xs.length:Int))=false:=by simpa using hT
   have HNT:Hid (¬(K9=0∧T9=xs.length)):=fun h=>hT h.2
   clear hK hT
   go_wp2_with fail
   have hs:=(OR3.out.setall ⟨k,M9,a9,Y9.length,c9,0,none,0,0,none,0,0,0,0,0,0,⟨#[]⟩⟩).1
   have hbs:=zag (b:=w.heap.size) HB3.out xl ⟨k,M9,a9,Y9.length,c9,0,none,0,0,none,0,0,0,0,0,0,⟨#[]⟩⟩
   simp only at hs hbs
   generalize (((((((((((((V2.setCell ((w.heap.size+1),1) (xI M9)).setCell ((w.heap.size+1),2) (.slice a9 Y9.length c9)).setCell (w.heap.size,0) (xI k)).setCell (w.heap.size,1) (xI M9)).setCell (w.heap.size,2) (.slice a9 Y9.length c9)).setCell (w.heap.size,3) (xI 0)).setCell (w.heap.size,4) xS).setCell (w.heap.size,5) xS).setCell (w.heap.size,6) (xI 0)).setCell (w.heap.size,7) (xI 0)).setCell (w.heap.size,8) (xI 0)).setCell (w.heap.size,9) (xI 0)).setCell (w.heap.size,10) xT)=W5 at*
   obtain⟨s0_,s1_,s2_,s3_,s4_,s5_,s6_,s7_,s8_,s9_,s10_⟩:=hs
   exact bodyPost_ret (v:=.tuple #[.agg #[xI k,xI M9,.slice a9 Y9.length c9,xI 0,xS,xS,xI 0,xI 0,xI 0,xI 0,xT],.bool false]) (by simp[results,Tryz.results36,go_sem,s0_,s1_,s2_,s3_,s4_,s5_,s6_,s7_,s8_,s9_,s10_]) rfl ⟨⟨⟨k,M9,a9,Y9.length,c9,0,none,0,0,none,0,0,0,0,0,0,⟨#[]⟩⟩,_,rfl,fun h=>(by cases h),fun _=>by rw[HRK.out];exact if_neg HNT.out⟩,hbs⟩
 ·have hK':(K9==0)=false:=by simpa using hK
  have HNT:Hid (¬(K9=0∧T9=xs.length)):=fun h=>hK h.1
  clear hK
  go_wp2_with fail
  have hs:=(OR3.out.setall ⟨k,M9,a9,Y9.length,c9,0,none,0,0,none,0,0,0,0,0,0,⟨#[]⟩⟩).1
  have hbs:=zag (b:=w.heap.size) HB3.out xl ⟨k,M9,a9,Y9.length,c9,0,none,0,0,none,0,0,0,0,0,0,⟨#[]⟩⟩
  simp only at hs hbs
  generalize (((((((((((((V2.setCell ((w.heap.size+1),1) (xI M9)).setCell ((w.heap.size+1),2) (.slice a9 Y9.length c9)).setCell (w.heap.size,0) (xI k)).setCell (w.heap.size,1) (xI M9)).setCell (w.heap.size,2) (.slice a9 Y9.length c9)).setCell (w.heap.size,3) (xI 0)).setCell (w.heap.size,4) xS).setCell (w.heap.size,5) xS).setCell (w.heap.size,6) (xI 0)).setCell (w.heap.size,7) (xI 0)).setCell (w.heap.size,8) (xI 0)).setCell (w.heap.size,9) (xI 0)).setCell (w.heap.size,10) xT)=W5 at*
  obtain⟨s0_,s1_,s2_,s3_,s4_,s5_,s6_,s7_,s8_,s9_,s10_⟩:=hs
  exact bodyPost_ret (v:=.tuple #[.agg #[xI k,xI M9,.slice a9 Y9.length c9,xI 0,xS,xS,xI 0,xI 0,xI 0,xI 0,xT],.bool false]) (by simp[results,Tryz.results36,go_sem,s0_,s1_,s2_,s3_,s4_,s5_,s6_,s7_,s8_,s9_,s10_]) rfl ⟨⟨⟨k,M9,a9,Y9.length,c9,0,none,0,0,none,0,0,0,0,0,0,⟨#[]⟩⟩,_,rfl,fun h=>(by cases h),fun _=>by rw[HRK.out];exact if_neg HNT.out⟩,hbs⟩
theorem zk4 (k:Int)(v:Value)(xs:List Int)(w:World)(hv:Bs w v xs)(hk:k=2):Calls Tryz.prog 36 #[xI k,v] w (RetD w k xs):=by
 have hk1:(k==1)=false:=by rw[hk];rfl
 have hk2:(k==2)=true:=by rw[hk];rfl
 have hk3:(k==3)=false:=by rw[hk];rfl
 have hk4:(k==4)=false:=by rw[hk];rfl
 obtain⟨a,l,c,rfl⟩:=zal hv
 obtain⟨rfl,-⟩:=za0 hv
 have HK:Hid (k=2):=hk
 have OR:Hid (OwnT ((w.alloc (.cells xL 50)).alloc (.cells (xN k) 50)) w.heap.size (⟨0,0,none,0,0,0,none,0,0,none,0,0,0,0,0,0,⟨#[]⟩⟩:RPt)):=((zac w (⟨0,0,none,0,0,0,none,0,0,none,0,0,0,0,0,0,⟨#[]⟩⟩:RPt) 50 w.heap.size rfl).below (xr.alloc xl (.cells (xN k) 50)))
 have OP:Hid (OwnT ((w.alloc (.cells xL 50)).alloc (.cells (xN k) 50)) (w.heap.size+1) (⟨k,0,none,0,0,0,none,0,0,none,0,0,0,0,0,0,⟨#[]⟩⟩:RPt)):=zac (w.alloc (.cells xL 50)) (⟨k,0,none,0,0,0,none,0,0,none,0,0,0,0,0,0,⟨#[]⟩⟩:RPt) 50 (w.heap.size+1) (by simp)
 have HB:Hid (Below w.heap.size w ((w.alloc (.cells xL 50)).alloc (.cells (xN k) 50))):=(xr.alloc xl _).alloc (by simp) _
 have HS0:Hid (((w.alloc (.cells xL 50)).alloc (.cells (xN k) 50)).heap.size=w.heap.size+2):=by show _=_;simp
 have HV:=xh (zaa hv HB.out)
 clear hv hk
 obtain⟨V0,hV0⟩:∃V0,(w.alloc (.cells xL 50)).alloc (.cells (xN k) 50)=V0:=⟨_,rfl⟩
 rw[hV0]at OR OP HB HV HS0
 have HV0:=xh hV0
 clear hV0
 go_enter Tryz.func36,Tryz.ntmps36
 go_upto_region 4 with (fail)
 rw[HV0.out]
 clear HV0
 obtain⟨⟨M9,Y9,T9,K9⟩,h9⟩:∃r,zaz xs 0=r:=⟨_,rfl⟩
 have cP:=zf0 (.slice a xs.length c) xs 0 V0 HV.out
 rw[h9]at cP
 have H9:=xh h9
 clear h9
 obtain⟨⟨u0,u1,u2,u3,u4,u5,u6,u7,u8,u9,u10⟩,uf⟩:=OR.out
 obtain⟨⟨v0,v1,v2,v3,v4,v5,v6,v7,v8,v9,v10⟩,vf⟩:=OP.out
 go_wp2_with fail
 clear u0 v0 u1 v1 u2 v2 u3 v3 u4 v4 u5 v5 u6 v6 u7 v7 u8 v8 u9 v9 u10 v10 uf vf
 refine(cP).mono ?_
 rintro e V1 ⟨⟨r9,rfl,ho⟩,hb⟩
 have HB1:=xh (HB.out.trans (hb.mono HB.out.size))
 have OR1:=xh (OR.out.below hb)
 have OP1:=xh (OP.out.below hb)
 obtain⟨a9,c9,rfl⟩:=zap ho
 have HOW:Hid ((⟨k,0,none,0,0,M9,a9,Y9.length,c9,none,0,0,0,0,0,0,⟨#[]⟩⟩:RPt).Ow V1 V0.heap.size ⟨k,0,[],M9,Y9,[],0,0,0,0,⟨#[]⟩⟩):=⟨rfl,rfl,zat (R:=RE) _ _,rfl,ho,zat (R:=RA) _ _,rfl,rfl,rfl,rfl,rfl⟩
 clear ho cP
 clear hb HV
 have hal:=(Below.refl V1.heap.size V1).alloc xl (.cells #[xI M9,.slice a9 Y9.length c9] 45)
 have HB2:=xh (HB1.out.trans (hal.mono HB1.out.size))
 have OR2:=xh (OR1.out.below hal)
 have OP2:=xh (OP1.out.below hal)
 have HO2:=xh (HOW.out.below hal)
 clear hal
 obtain⟨gv,hgv⟩:∃g,V1.heap.size=g:=⟨_,rfl⟩
 have hcv:(V1.alloc (.cells #[xI M9,.slice a9 Y9.length c9] 45)).cell? (xQ gv 0)=xJ M9∧(V1.alloc (.cells #[xI M9,.slice a9 Y9.length c9] 45)).cell? (xQ gv 1)=some (.slice a9 Y9.length c9):=by
  subst hgv
  exact⟨by simp,by simp⟩
 have HGV:Hid ((w.heap.size+1)<gv):=by rw[←hgv];exact OP1.out.lt
 have HCV:=xh hcv
 clear hcv
 have HGE:=xh hgv
 clear hgv
 go_upto_region 12 with (fail)
 rw[HGE.out]
 obtain⟨V2,hV2⟩:∃V2,V1.alloc (.cells #[xI M9,.slice a9 Y9.length c9] 45)=V2:=⟨_,rfl⟩
 rw[hV2]at HB2 OR2 OP2 HO2 HCV
 rw[hV2]
 clear hV2 HGE
 have hgn1:gv≠w.heap.size:=by have:=HGV.out;omega
 have hgn2:gv≠(w.heap.size+1):=by have:=HGV.out;omega
 obtain⟨q0,q1⟩:=HCV.out
 obtain⟨⟨u0,u1,u2,u3,u4,u5,u6,u7,u8,u9,u10⟩,uf⟩:=OR2.out
 obtain⟨⟨v0,v1,v2,v3,v4,v5,v6,v7,v8,v9,v10⟩,vf⟩:=OP2.out
 have OR3:Hid (OwnT ((V2.setCell ((w.heap.size+1),3) (xI M9)).setCell ((w.heap.size+1),4) (.slice a9 Y9.length c9)) w.heap.size (⟨0,0,none,0,0,0,none,0,0,none,0,0,0,0,0,0,⟨#[]⟩⟩:RPt)):=((OR2.out.apart (u:=xI M9) (b':=(w.heap.size+1)) (by omega) 3).apart (u:=.slice a9 Y9.length c9) (b':=(w.heap.size+1)) (by omega) 4)
 have HB3:Hid (Below w.heap.size w ((V2.setCell ((w.heap.size+1),3) (xI M9)).setCell ((w.heap.size+1),4) (.slice a9 Y9.length c9))):=((HB2.out.setCell (p:=xQ (w.heap.size+1) 3) (Nat.le_succ _) (xI M9)).setCell (p:=xQ (w.heap.size+1) 4) (Nat.le_succ _) (.slice a9 Y9.length c9))
 have HO3:=xh ((HO2.out.apart (u:=xI M9) (b:=(w.heap.size+1)) (by have:=HS0.out;omega) 3).apart (u:=.slice a9 Y9.length c9) (b:=(w.heap.size+1)) (by have:=HS0.out;omega) 4)
 have HRK:Hid (zaE k xs=if K9=0∧T9=xs.length then some ⟨k,0,[],M9,Y9,[],0,0,0,0,⟨#[]⟩⟩else none):=by
  show _=_
  rw[HK.out]
  rw[zmQ,H9.out]
 by_cases hK:K9=0
 ·have hK':(K9==0)=true:=by simpa using hK
  by_cases hT:T9=(xs.length:Int)
  ·have hT':(T9==(xs.length:Int))=true:=by simpa using hT
   have HKT:Hid (K9=0∧T9=xs.length):=⟨hK,hT⟩
   clear hK hT
   go_wp2_with fail
   have hs:=(OR3.out.setall ⟨k,0,none,0,0,M9,a9,Y9.length,c9,none,0,0,0,0,0,0,⟨#[]⟩⟩).1
   have hbs:=zag (b:=w.heap.size) HB3.out xl ⟨k,0,none,0,0,M9,a9,Y9.length,c9,none,0,0,0,0,0,0,⟨#[]⟩⟩
   have hho:=zaT HO3.out (b:=w.heap.size) (by have:=HS0.out;omega) ⟨k,0,none,0,0,M9,a9,Y9.length,c9,none,0,0,0,0,0,0,⟨#[]⟩⟩
   simp only at hs hbs hho
   generalize (((((((((((((V2.setCell ((w.heap.size+1),3) (xI M9)).setCell ((w.heap.size+1),4) (.slice a9 Y9.length c9)).setCell (w.heap.size,0) (xI k)).setCell (w.heap.size,1) (xI 0)).setCell (w.heap.size,2) xS).setCell (w.heap.size,3) (xI M9)).setCell (w.heap.size,4) (.slice a9 Y9.length c9)).setCell (w.heap.size,5) xS).setCell (w.heap.size,6) (xI 0)).setCell (w.heap.size,7) (xI 0)).setCell (w.heap.size,8) (xI 0)).setCell (w.heap.size,9) (xI 0)).setCell (w.heap.size,10) xT)=W5 at*
   obtain⟨s0_,s1_,s2_,s3_,s4_,s5_,s6_,s7_,s8_,s9_,s10_⟩:=hs
   exact bodyPost_ret (v:=.tuple #[.agg #[xI k,xI 0,xS,xI M9,.slice a9 Y9.length c9,xS,xI 0,xI 0,xI 0,xI 0,xT],.bool true]) (by simp[results,Tryz.results36,go_sem,s0_,s1_,s2_,s3_,s4_,s5_,s6_,s7_,s8_,s9_,s10_]) rfl ⟨⟨⟨k,0,none,0,0,M9,a9,Y9.length,c9,none,0,0,0,0,0,0,⟨#[]⟩⟩,_,rfl,fun _=>⟨_,by rw[HRK.out];exact if_pos HKT.out,hho.mono (by have:=HS0.out;omega)⟩,fun h=>(by cases h)⟩,hbs⟩
  ·have hT':(T9==(xs.length:Int))=false:=by simpa using hT
   have HNT:Hid (¬(K9=0∧T9=xs.length)):=fun h=>hT h.2
   clear hK hT
   go_wp2_with fail
   have hs:=(OR3.out.setall ⟨k,0,none,0,0,M9,a9,Y9.length,c9,none,0,0,0,0,0,0,⟨#[]⟩⟩).1
   have hbs:=zag (b:=w.heap.size) HB3.out xl ⟨k,0,none,0,0,M9,a9,Y9.length,c9,none,0,0,0,0,0,0,⟨#[]⟩⟩
   simp only at hs hbs
   generalize (((((((((((((V2.setCell ((w.heap.size+1),3) (xI M9)).setCell ((w.heap.size+1),4) (.slice a9 Y9.length c9)).setCell (w.heap.size,0) (xI k)).setCell (w.heap.size,1) (xI 0)).setCell (w.heap.size,2) xS).setCell (w.heap.size,3) (xI M9)).setCell (w.heap.size,4) (.slice a9 Y9.length c9)).setCell (w.heap.size,5) xS).setCell (w.heap.size,6) (xI 0)).setCell (w.heap.size,7) (xI 0)).setCell (w.heap.size,8) (xI 0)).setCell (w.heap.size,9) (xI 0)).setCell (w.heap.size,10) xT)=W5 at*
   obtain⟨s0_,s1_,s2_,s3_,s4_,s5_,s6_,s7_,s8_,s9_,s10_⟩:=hs
   exact bodyPost_ret (v:=.tuple #[.agg #[xI k,xI 0,xS,xI M9,.slice a9 Y9.length c9,xS,xI 0,xI 0,xI 0,xI 0,xT],.bool false]) (by simp[results,Tryz.results36,go_sem,s0_,s1_,s2_,s3_,s4_,s5_,s6_,s7_,s8_,s9_,s10_]) rfl ⟨⟨⟨k,0,none,0,0,M9,a9,Y9.length,c9,none,0,0,0,0,0,0,⟨#[]⟩⟩,_,rfl,fun h=>(by cases h),fun _=>by rw[HRK.out];exact if_neg HNT.out⟩,hbs⟩
 ·have hK':(K9==0)=false:=by simpa using hK
  have HNT:Hid (¬(K9=0∧T9=xs.length)):=fun h=>hK h.1
  clear hK
  go_wp2_with fail
  have hs:=(OR3.out.setall ⟨k,0,none,0,0,M9,a9,Y9.length,c9,none,0,0,0,0,0,0,⟨#[]⟩⟩).1
  have hbs:=zag (b:=w.heap.size) HB3.out xl ⟨k,0,none,0,0,M9,a9,Y9.length,c9,none,0,0,0,0,0,0,⟨#[]⟩⟩
  simp only at hs hbs
  generalize (((((((((((((V2.setCell ((w.heap.size+1),3) (xI M9)).setCell ((w.heap.size+1),4) (.slice a9 Y9.length c9)).setCell (w.heap.size,0) (xI k)).setCell (w.heap.size,1) (xI 0)).setCell (w.heap.size,2) xS).setCell (w.heap.size,3) (xI M9)).setCell (w.heap.size,4) (.slice a9 Y9.length c9)).setCell (w.heap.size,5) xS).setCell (w.heap.size,6) (xI 0)).setCell (w.heap.size,7) (xI 0)).setCell (w.heap.size,8) (xI 0)).setCell (w.heap.size,9) (xI 0)).setCell (w.heap.size,10) xT)=W5 at*
  obtain⟨s0_,s1_,s2_,s3_,s4_,s5_,s6_,s7_,s8_,s9_,s10_⟩:=hs
  exact bodyPost_ret (v:=.tuple #[.agg #[xI k,xI 0,xS,xI M9,.slice a9 Y9.length c9,xS,xI 0,xI 0,xI 0,xI 0,xT],.bool false]) (by simp[results,Tryz.results36,go_sem,s0_,s1_,s2_,s3_,s4_,s5_,s6_,s7_,s8_,s9_,s10_]) rfl ⟨⟨⟨k,0,none,0,0,M9,a9,Y9.length,c9,none,0,0,0,0,0,0,⟨#[]⟩⟩,_,rfl,fun h=>(by cases h),fun _=>by rw[HRK.out];exact if_neg HNT.out⟩,hbs⟩
theorem zk5 (k:Int)(v:Value)(xs:List Int)(w:World)(hv:Bs w v xs)(hk:k=3):Calls Tryz.prog 36 #[xI k,v] w (RetD w k xs):=by
 have hk1:(k==1)=false:=by rw[hk];rfl
 have hk2:(k==2)=false:=by rw[hk];rfl
 have hk3:(k==3)=true:=by rw[hk];rfl
 have hk4:(k==4)=false:=by rw[hk];rfl
 obtain⟨a,l,c,rfl⟩:=zal hv
 obtain⟨rfl,-⟩:=za0 hv
 have HK:Hid (k=3):=hk
 have OR:Hid (OwnT ((w.alloc (.cells xL 50)).alloc (.cells (xN k) 50)) w.heap.size (⟨0,0,none,0,0,0,none,0,0,none,0,0,0,0,0,0,⟨#[]⟩⟩:RPt)):=((zac w (⟨0,0,none,0,0,0,none,0,0,none,0,0,0,0,0,0,⟨#[]⟩⟩:RPt) 50 w.heap.size rfl).below (xr.alloc xl (.cells (xN k) 50)))
 have OP:Hid (OwnT ((w.alloc (.cells xL 50)).alloc (.cells (xN k) 50)) (w.heap.size+1) (⟨k,0,none,0,0,0,none,0,0,none,0,0,0,0,0,0,⟨#[]⟩⟩:RPt)):=zac (w.alloc (.cells xL 50)) (⟨k,0,none,0,0,0,none,0,0,none,0,0,0,0,0,0,⟨#[]⟩⟩:RPt) 50 (w.heap.size+1) (by simp)
 have HB:Hid (Below w.heap.size w ((w.alloc (.cells xL 50)).alloc (.cells (xN k) 50))):=(xr.alloc xl _).alloc (by simp) _
 have HS0:Hid (((w.alloc (.cells xL 50)).alloc (.cells (xN k) 50)).heap.size=w.heap.size+2):=by show _=_;simp
 have HV:=xh (zaa hv HB.out)
 clear hv hk
 obtain⟨V0,hV0⟩:∃V0,(w.alloc (.cells xL 50)).alloc (.cells (xN k) 50)=V0:=⟨_,rfl⟩
 rw[hV0]at OR OP HB HV HS0
 have HV0:=xh hV0
 clear hV0
 go_enter Tryz.func36,Tryz.ntmps36
 go_upto_region 4 with (fail)
 rw[HV0.out]
 clear HV0
 obtain⟨Y9,hy9⟩:∃y,paY (acPF xs 0)=y:=⟨_,rfl⟩
 obtain⟨T9,ht9⟩:∃y,paT (acPF xs 0)=y:=⟨_,rfl⟩
 obtain⟨K9,hk9⟩:∃y,paK (acPF xs 0)=y:=⟨_,rfl⟩
 have cP:=(zg4 (.slice a xs.length c) xs 0 V0 HV.out).mono fun e w' h=>zkK h
 rw[hy9,ht9,hk9]at cP
 have H9:Hid (paY (acPF xs 0)=Y9∧paT (acPF xs 0)=T9∧paK (acPF xs 0)=K9):=⟨hy9,ht9,hk9⟩
 clear hy9 ht9 hk9
 obtain⟨⟨u0,u1,u2,u3,u4,u5,u6,u7,u8,u9,u10⟩,uf⟩:=OR.out
 obtain⟨⟨v0,v1,v2,v3,v4,v5,v6,v7,v8,v9,v10⟩,vf⟩:=OP.out
 go_wp2_with fail
 clear u0 v0 u1 v1 u2 v2 u3 v3 u4 v4 u5 v5 u6 v6 u7 v7 u8 v8 u9 v9 u10 v10 uf vf
 refine(cP).mono ?_
 rintro e V1 ⟨⟨a9,c9,rfl,ho⟩,hb⟩
 have HB1:=xh (HB.out.trans (hb.mono HB.out.size))
 have OR1:=xh (OR.out.below hb)
 have OP1:=xh (OP.out.below hb)
 have HOW:Hid ((⟨k,0,none,0,0,0,none,0,0,a9,Y9.length,c9,0,0,0,0,⟨#[]⟩⟩:RPt).Ow V1 V0.heap.size ⟨k,0,[],0,[],Y9,0,0,0,0,⟨#[]⟩⟩):=⟨rfl,rfl,zat (R:=RE) _ _,rfl,zat (R:=RO) _ _,ho,rfl,rfl,rfl,rfl,rfl⟩
 clear ho cP
 clear hb HV
 have HB2:=HB1
 have OR2:=OR1
 have OP2:=OP1
 have HO2:=HOW
 obtain⟨⟨u0,u1,u2,u3,u4,u5,u6,u7,u8,u9,u10⟩,uf⟩:=OR2.out
 obtain⟨⟨v0,v1,v2,v3,v4,v5,v6,v7,v8,v9,v10⟩,vf⟩:=OP2.out
 have OR3:Hid (OwnT (V1.setCell ((w.heap.size+1),5) (.slice a9 Y9.length c9)) w.heap.size (⟨0,0,none,0,0,0,none,0,0,none,0,0,0,0,0,0,⟨#[]⟩⟩:RPt)):=(OR2.out.apart (u:=.slice a9 Y9.length c9) (b':=(w.heap.size+1)) (by omega) 5)
 have HB3:Hid (Below w.heap.size w (V1.setCell ((w.heap.size+1),5) (.slice a9 Y9.length c9))):=(HB2.out.setCell (p:=xQ (w.heap.size+1) 5) (Nat.le_succ _) (.slice a9 Y9.length c9))
 have HO3:=xh (HO2.out.apart (u:=.slice a9 Y9.length c9) (b:=(w.heap.size+1)) (by have:=HS0.out;omega) 5)
 have HRK:Hid (zaE k xs=if K9=0∧T9=xs.length then some ⟨k,0,[],0,[],Y9,0,0,0,0,⟨#[]⟩⟩else none):=by
  show _=_
  rw[HK.out]
  rw[zn6,H9.out.1,H9.out.2.1,H9.out.2.2]
 by_cases hK:K9=0
 ·have hK':(K9==0)=true:=by simpa using hK
  by_cases hT:T9=(xs.length:Int)
  ·have hT':(T9==(xs.length:Int))=true:=by simpa using hT
   have HKT:Hid (K9=0∧T9=xs.length):=⟨hK,hT⟩
   clear hK hT
   go_wp2_with fail
   have hs:=(OR3.out.setall ⟨k,0,none,0,0,0,none,0,0,a9,Y9.length,c9,0,0,0,0,⟨#[]⟩⟩).1
   have hbs:=zag (b:=w.heap.size) HB3.out xl ⟨k,0,none,0,0,0,none,0,0,a9,Y9.length,c9,0,0,0,0,⟨#[]⟩⟩
   have hho:=zaT HO3.out (b:=w.heap.size) (by have:=HS0.out;omega) ⟨k,0,none,0,0,0,none,0,0,a9,Y9.length,c9,0,0,0,0,⟨#[]⟩⟩
   simp only at hs hbs hho
   generalize ((((((((((((V1.setCell ((w.heap.size+1),5) (.slice a9 Y9.length c9)).setCell (w.heap.size,0) (xI k)).setCell (w.heap.size,1) (xI 0)).setCell (w.heap.size,2) xS).setCell (w.heap.size,3) (xI 0)).setCell (w.heap.size,4) xS).setCell (w.heap.size,5) (.slice a9 Y9.length c9)).setCell (w.heap.size,6) (xI 0)).setCell (w.heap.size,7) (xI 0)).setCell (w.heap.size,8) (xI 0)).setCell (w.heap.size,9) (xI 0)).setCell (w.heap.size,10) xT)=W5 at*
   obtain⟨s0_,s1_,s2_,s3_,s4_,s5_,s6_,s7_,s8_,s9_,s10_⟩:=hs
   exact bodyPost_ret (v:=.tuple #[.agg #[xI k,xI 0,xS,xI 0,xS,.slice a9 Y9.length c9,xI 0,xI 0,xI 0,xI 0,xT],.bool true]) (by simp[results,Tryz.results36,go_sem,s0_,s1_,s2_,s3_,s4_,s5_,s6_,s7_,s8_,s9_,s10_]) rfl ⟨⟨⟨k,0,none,0,0,0,none,0,0,a9,Y9.length,c9,0,0,0,0,⟨#[]⟩⟩,_,rfl,fun _=>⟨_,by rw[HRK.out];exact if_pos HKT.out,hho.mono (by have:=HS0.out;omega)⟩,fun h=>(by cases h)⟩,hbs⟩
  ·have hT':(T9==(xs.length:Int))=false:=by simpa using hT
   have HNT:Hid (¬(K9=0∧T9=xs.length)):=fun h=>hT h.2
   clear hK hT
   go_wp2_with fail
   have hs:=(OR3.out.setall ⟨k,0,none,0,0,0,none,0,0,a9,Y9.length,c9,0,0,0,0,⟨#[]⟩⟩).1
   have hbs:=zag (b:=w.heap.size) HB3.out xl ⟨k,0,none,0,0,0,none,0,0,a9,Y9.length,c9,0,0,0,0,⟨#[]⟩⟩
   simp only at hs hbs
   generalize ((((((((((((V1.setCell ((w.heap.size+1),5) (.slice a9 Y9.length c9)).setCell (w.heap.size,0) (xI k)).setCell (w.heap.size,1) (xI 0)).setCell (w.heap.size,2) xS).setCell (w.heap.size,3) (xI 0)).setCell (w.heap.size,4) xS).setCell (w.heap.size,5) (.slice a9 Y9.length c9)).setCell (w.heap.size,6) (xI 0)).setCell (w.heap.size,7) (xI 0)).setCell (w.heap.size,8) (xI 0)).setCell (w.heap.size,9) (xI 0)).setCell (w.heap.size,10) xT)=W5 at*
   obtain⟨s0_,s1_,s2_,s3_,s4_,s5_,s6_,s7_,s8_,s9_,s10_⟩:=hs
   exact bodyPost_ret (v:=.tuple #[.agg #[xI k,xI 0,xS,xI 0,xS,.slice a9 Y9.length c9,xI 0,xI 0,xI 0,xI 0,xT],.bool false]) (by simp[results,Tryz.results36,go_sem,s0_,s1_,s2_,s3_,s4_,s5_,s6_,s7_,s8_,s9_,s10_]) rfl ⟨⟨⟨k,0,none,0,0,0,none,0,0,a9,Y9.length,c9,0,0,0,0,⟨#[]⟩⟩,_,rfl,fun h=>(by cases h),fun _=>by rw[HRK.out];exact if_neg HNT.out⟩,hbs⟩
 ·have hK':(K9==0)=false:=by simpa using hK
  have HNT:Hid (¬(K9=0∧T9=xs.length)):=fun h=>hK h.1
  clear hK
  go_wp2_with fail
  have hs:=(OR3.out.setall ⟨k,0,none,0,0,0,none,0,0,a9,Y9.length,c9,0,0,0,0,⟨#[]⟩⟩).1
  have hbs:=zag (b:=w.heap.size) HB3.out xl ⟨k,0,none,0,0,0,none,0,0,a9,Y9.length,c9,0,0,0,0,⟨#[]⟩⟩
  simp only at hs hbs
  generalize ((((((((((((V1.setCell ((w.heap.size+1),5) (.slice a9 Y9.length c9)).setCell (w.heap.size,0) (xI k)).setCell (w.heap.size,1) (xI 0)).setCell (w.heap.size,2) xS).setCell (w.heap.size,3) (xI 0)).setCell (w.heap.size,4) xS).setCell (w.heap.size,5) (.slice a9 Y9.length c9)).setCell (w.heap.size,6) (xI 0)).setCell (w.heap.size,7) (xI 0)).setCell (w.heap.size,8) (xI 0)).setCell (w.heap.size,9) (xI 0)).setCell (w.heap.size,10) xT)=W5 at*
  obtain⟨s0_,s1_,s2_,s3_,s4_,s5_,s6_,s7_,s8_,s9_,s10_⟩:=hs
  exact bodyPost_ret (v:=.tuple #[.agg #[xI k,xI 0,xS,xI 0,xS,.slice a9 Y9.length c9,xI 0,xI 0,xI 0,xI 0,xT],.bool false]) (by simp[results,Tryz.results36,go_sem,s0_,s1_,s2_,s3_,s4_,s5_,s6_,s7_,s8_,s9_,s10_]) rfl ⟨⟨⟨k,0,none,0,0,0,none,0,0,a9,Y9.length,c9,0,0,0,0,⟨#[]⟩⟩,_,rfl,fun h=>(by cases h),fun _=>by rw[HRK.out];exact if_neg HNT.out⟩,hbs⟩
theorem zlO (k:Int)(v:Value)(xs:List Int)(w:World)(hv:Bs w v xs)(hk:k=4):Calls Tryz.prog 36 #[xI k,v] w (RetD w k xs):=by
 have hk1:(k==1)=false:=by rw[hk];rfl
 have hk2:(k==2)=false:=by rw[hk];rfl
 have hk3:(k==3)=false:=by rw[hk];rfl
 have hk4:(k==4)=true:=by rw[hk];rfl
 obtain⟨a,l,c,rfl⟩:=zal hv
 obtain⟨rfl,-⟩:=za0 hv
 have HK:Hid (k=4):=hk
 have OR:Hid (OwnT ((w.alloc (.cells xL 50)).alloc (.cells (xN k) 50)) w.heap.size (⟨0,0,none,0,0,0,none,0,0,none,0,0,0,0,0,0,⟨#[]⟩⟩:RPt)):=((zac w (⟨0,0,none,0,0,0,none,0,0,none,0,0,0,0,0,0,⟨#[]⟩⟩:RPt) 50 w.heap.size rfl).below (xr.alloc xl (.cells (xN k) 50)))
 have OP:Hid (OwnT ((w.alloc (.cells xL 50)).alloc (.cells (xN k) 50)) (w.heap.size+1) (⟨k,0,none,0,0,0,none,0,0,none,0,0,0,0,0,0,⟨#[]⟩⟩:RPt)):=zac (w.alloc (.cells xL 50)) (⟨k,0,none,0,0,0,none,0,0,none,0,0,0,0,0,0,⟨#[]⟩⟩:RPt) 50 (w.heap.size+1) (by simp)
 have HB:Hid (Below w.heap.size w ((w.alloc (.cells xL 50)).alloc (.cells (xN k) 50))):=(xr.alloc xl _).alloc (by simp) _
 have HS0:Hid (((w.alloc (.cells xL 50)).alloc (.cells (xN k) 50)).heap.size=w.heap.size+2):=by show _=_;simp
 have HV:=xh (zaa hv HB.out)
 clear hv hk
 obtain⟨V0,hV0⟩:∃V0,(w.alloc (.cells xL 50)).alloc (.cells (xN k) 50)=V0:=⟨_,rfl⟩
 rw[hV0]at OR OP HB HV HS0
 have HV0:=xh hV0
 clear hV0
 go_enter Tryz.func36,Tryz.ntmps36
 go_upto_region 4 with (fail)
 rw[HV0.out]
 clear HV0
 obtain⟨⟨ps,pd,pt,pn,px⟩,hy9⟩:∃y,pkR (pkPF xs 0)=y:=⟨_,rfl⟩
 obtain⟨T9,ht9⟩:∃y,pkT (pkPF xs 0)=y:=⟨_,rfl⟩
 obtain⟨K9,hk9⟩:∃y,pkE (pkPF xs 0)=y:=⟨_,rfl⟩
 have cP:=zgz (.slice a xs.length c) xs 0 V0 HV.out
 rw[hy9,ht9,hk9]at cP
 have H9:Hid (pkR (pkPF xs 0)=(ps,pd,pt,pn,px)∧pkT (pkPF xs 0)=T9∧pkE (pkPF xs 0)=K9):=⟨hy9,ht9,hk9⟩
 clear hy9 ht9 hk9
 obtain⟨⟨u0,u1,u2,u3,u4,u5,u6,u7,u8,u9,u10⟩,uf⟩:=OR.out
 obtain⟨⟨v0,v1,v2,v3,v4,v5,v6,v7,v8,v9,v10⟩,vf⟩:=OP.out
 go_wp2_with fail
 clear u0 v0 u1 v1 u2 v2 u3 v3 u4 v4 u5 v5 u6 v6 u7 v7 u8 v8 u9 v9 u10 v10 uf vf
 refine(cP).mono ?_
 rintro e V1 ⟨rfl,hb⟩
 have HB1:=xh (HB.out.trans (hb.mono HB.out.size))
 have OR1:=xh (OR.out.below hb)
 have OP1:=xh (OP.out.below hb)
 have HOW:Hid ((⟨k,0,none,0,0,0,none,0,0,none,0,0,ps,pd,pt,pn,px⟩:RPt).Ow V1 V0.heap.size ⟨k,0,[],0,[],[],ps,pd,pt,pn,px⟩):=⟨rfl,rfl,zat (R:=RE) _ _,rfl,zat (R:=RO) _ _,zat (R:=RA) _ _,rfl,rfl,rfl,rfl,rfl⟩
 clear cP
 clear hb HV
 have hal:=(Below.refl V1.heap.size V1).alloc xl (.cells (xA ps pd pt pn (.string px)) 48)
 have HB2:=xh (HB1.out.trans (hal.mono HB1.out.size))
 have OR2:=xh (OR1.out.below hal)
 have OP2:=xh (OP1.out.below hal)
 have HO2:=xh (HOW.out.below hal)
 clear hal
 obtain⟨gv,hgv⟩:∃g,V1.heap.size=g:=⟨_,rfl⟩
 have hcv:(V1.alloc (.cells (xA ps pd pt pn (.string px)) 48)).cell? (xQ gv 0)=xJ ps∧(V1.alloc (.cells (xA ps pd pt pn (.string px)) 48)).cell? (xQ gv 1)=xJ pd∧(V1.alloc (.cells (xA ps pd pt pn (.string px)) 48)).cell? (xQ gv 2)=xJ pt∧(V1.alloc (.cells (xA ps pd pt pn (.string px)) 48)).cell? (xQ gv 3)=xJ pn∧(V1.alloc (.cells (xA ps pd pt pn (.string px)) 48)).cell? (xQ gv 4)=some (.string px):=by
  subst hgv
  exact⟨by simp,by simp,by simp,by simp,by simp⟩
 have HGV:Hid ((w.heap.size+1)<gv):=by rw[←hgv];exact OP1.out.lt
 have HCV:=xh hcv
 clear hcv
 have HGE:=xh hgv
 clear hgv
 go_upto_region 22 with (fail)
 rw[HGE.out]
 obtain⟨V2,hV2⟩:∃V2,V1.alloc (.cells (xA ps pd pt pn (.string px)) 48)=V2:=⟨_,rfl⟩
 rw[hV2]at HB2 OR2 OP2 HO2 HCV
 rw[hV2]
 clear hV2 HGE
 have hgn1:gv≠w.heap.size:=by have:=HGV.out;omega
 have hgn2:gv≠(w.heap.size+1):=by have:=HGV.out;omega
 obtain⟨q0,q1,q2,q3,q4⟩:=HCV.out
 obtain⟨⟨u0,u1,u2,u3,u4,u5,u6,u7,u8,u9,u10⟩,uf⟩:=OR2.out
 obtain⟨⟨v0,v1,v2,v3,v4,v5,v6,v7,v8,v9,v10⟩,vf⟩:=OP2.out
 have OR3:Hid (OwnT (((((V2.setCell ((w.heap.size+1),6) (xI ps)).setCell ((w.heap.size+1),7) (xI pd)).setCell ((w.heap.size+1),8) (xI pt)).setCell ((w.heap.size+1),9) (xI pn)).setCell ((w.heap.size+1),10) (.string px)) w.heap.size (⟨0,0,none,0,0,0,none,0,0,none,0,0,0,0,0,0,⟨#[]⟩⟩:RPt)):=(((((OR2.out.apart (u:=xI ps) (b':=(w.heap.size+1)) (by omega) 6).apart (u:=xI pd) (b':=(w.heap.size+1)) (by omega) 7).apart (u:=xI pt) (b':=(w.heap.size+1)) (by omega) 8).apart (u:=xI pn) (b':=(w.heap.size+1)) (by omega) 9).apart (u:=.string px) (b':=(w.heap.size+1)) (by omega) 10)
 have HB3:Hid (Below w.heap.size w (((((V2.setCell ((w.heap.size+1),6) (xI ps)).setCell ((w.heap.size+1),7) (xI pd)).setCell ((w.heap.size+1),8) (xI pt)).setCell ((w.heap.size+1),9) (xI pn)).setCell ((w.heap.size+1),10) (.string px))):=(((((HB2.out.setCell (p:=xQ (w.heap.size+1) 6) (Nat.le_succ _) (xI ps)).setCell (p:=xQ (w.heap.size+1) 7) (Nat.le_succ _) (xI pd)).setCell (p:=xQ (w.heap.size+1) 8) (Nat.le_succ _) (xI pt)).setCell (p:=xQ (w.heap.size+1) 9) (Nat.le_succ _) (xI pn)).setCell (p:=xQ (w.heap.size+1) 10) (Nat.le_succ _) (.string px))
 have HO3:=xh (((((HO2.out.apart (u:=xI ps) (b:=(w.heap.size+1)) (by have:=HS0.out;omega) 6).apart (u:=xI pd) (b:=(w.heap.size+1)) (by have:=HS0.out;omega) 7).apart (u:=xI pt) (b:=(w.heap.size+1)) (by have:=HS0.out;omega) 8).apart (u:=xI pn) (b:=(w.heap.size+1)) (by have:=HS0.out;omega) 9).apart (u:=.string px) (b:=(w.heap.size+1)) (by have:=HS0.out;omega) 10)
 have HRK:Hid (zaE k xs=if K9=0∧T9=xs.length then some ⟨k,0,[],0,[],[],ps,pd,pt,pn,px⟩else none):=by
  show _=_
  rw[HK.out]
  rw[zmN,H9.out.1,H9.out.2.1,H9.out.2.2]
 by_cases hK:K9=0
 ·have hK':(K9==0)=true:=by simpa using hK
  by_cases hT:T9=(xs.length:Int)
  ·have hT':(T9==(xs.length:Int))=true:=by simpa using hT
   have HKT:Hid (K9=0∧T9=xs.length):=⟨hK,hT⟩
   clear hK hT
   go_wp2_with fail
   have hs:=(OR3.out.setall ⟨k,0,none,0,0,0,none,0,0,none,0,0,ps,pd,pt,pn,px⟩).1
   have hbs:=zag (b:=w.heap.size) HB3.out xl ⟨k,0,none,0,0,0,none,0,0,none,0,0,ps,pd,pt,pn,px⟩
   have hho:=zaT HO3.out (b:=w.heap.size) (by have:=HS0.out;omega) ⟨k,0,none,0,0,0,none,0,0,none,0,0,ps,pd,pt,pn,px⟩
   simp only at hs hbs hho
   generalize ((((((((((((((((V2.setCell ((w.heap.size+1),6) (xI ps)).setCell ((w.heap.size+1),7) (xI pd)).setCell ((w.heap.size+1),8) (xI pt)).setCell ((w.heap.size+1),9) (xI pn)).setCell ((w.heap.size+1),10) (.string px)).setCell (w.heap.size,0) (xI k)).setCell (w.heap.size,1) (xI 0)).setCell (w.heap.size,2) xS).setCell (w.heap.size,3) (xI 0)).setCell (w.heap.size,4) xS).setCell (w.heap.size,5) xS).setCell (w.heap.size,6) (xI ps)).setCell (w.heap.size,7) (xI pd)).setCell (w.heap.size,8) (xI pt)).setCell (w.heap.size,9) (xI pn)).setCell (w.heap.size,10) (.string px))=W5 at*
   obtain⟨s0_,s1_,s2_,s3_,s4_,s5_,s6_,s7_,s8_,s9_,s10_⟩:=hs
   exact bodyPost_ret (v:=.tuple #[.agg #[xI k,xI 0,xS,xI 0,xS,xS,xI ps,xI pd,xI pt,xI pn,.string px],.bool true]) (by simp[results,Tryz.results36,go_sem,s0_,s1_,s2_,s3_,s4_,s5_,s6_,s7_,s8_,s9_,s10_]) rfl ⟨⟨⟨k,0,none,0,0,0,none,0,0,none,0,0,ps,pd,pt,pn,px⟩,_,rfl,fun _=>⟨_,by rw[HRK.out];exact if_pos HKT.out,hho.mono (by have:=HS0.out;omega)⟩,fun h=>(by cases h)⟩,hbs⟩
  ·have hT':(T9==(xs.length:Int))=false:=by simpa using hT
   have HNT:Hid (¬(K9=0∧T9=xs.length)):=fun h=>hT h.2
   clear hK hT
   go_wp2_with fail
   have hs:=(OR3.out.setall ⟨k,0,none,0,0,0,none,0,0,none,0,0,ps,pd,pt,pn,px⟩).1
   have hbs:=zag (b:=w.heap.size) HB3.out xl ⟨k,0,none,0,0,0,none,0,0,none,0,0,ps,pd,pt,pn,px⟩
   simp only at hs hbs
   generalize ((((((((((((((((V2.setCell ((w.heap.size+1),6) (xI ps)).setCell ((w.heap.size+1),7) (xI pd)).setCell ((w.heap.size+1),8) (xI pt)).setCell ((w.heap.size+1),9) (xI pn)).setCell ((w.heap.size+1),10) (.string px)).setCell (w.heap.size,0) (xI k)).setCell (w.heap.size,1) (xI 0)).setCell (w.heap.size,2) xS).setCell (w.heap.size,3) (xI 0)).setCell (w.heap.size,4) xS).setCell (w.heap.size,5) xS).setCell (w.heap.size,6) (xI ps)).setCell (w.heap.size,7) (xI pd)).setCell (w.heap.size,8) (xI pt)).setCell (w.heap.size,9) (xI pn)).setCell (w.heap.size,10) (.string px))=W5 at*
   obtain⟨s0_,s1_,s2_,s3_,s4_,s5_,s6_,s7_,s8_,s9_,s10_⟩:=hs
   exact bodyPost_ret (v:=.tuple #[.agg #[xI k,xI 0,xS,xI 0,xS,xS,xI ps,xI pd,xI pt,xI pn,.string px],.bool false]) (by simp[results,Tryz.results36,go_sem,s0_,s1_,s2_,s3_,s4_,s5_,s6_,s7_,s8_,s9_,s10_]) rfl ⟨⟨⟨k,0,none,0,0,0,none,0,0,none,0,0,ps,pd,pt,pn,px⟩,_,rfl,fun h=>(by cases h),fun _=>by rw[HRK.out];exact if_neg HNT.out⟩,hbs⟩
 ·have hK':(K9==0)=false:=by simpa using hK
  have HNT:Hid (¬(K9=0∧T9=xs.length)):=fun h=>hK h.1
  clear hK
  go_wp2_with fail
  have hs:=(OR3.out.setall ⟨k,0,none,0,0,0,none,0,0,none,0,0,ps,pd,pt,pn,px⟩).1
  have hbs:=zag (b:=w.heap.size) HB3.out xl ⟨k,0,none,0,0,0,none,0,0,none,0,0,ps,pd,pt,pn,px⟩
  simp only at hs hbs
  generalize ((((((((((((((((V2.setCell ((w.heap.size+1),6) (xI ps)).setCell ((w.heap.size+1),7) (xI pd)).setCell ((w.heap.size+1),8) (xI pt)).setCell ((w.heap.size+1),9) (xI pn)).setCell ((w.heap.size+1),10) (.string px)).setCell (w.heap.size,0) (xI k)).setCell (w.heap.size,1) (xI 0)).setCell (w.heap.size,2) xS).setCell (w.heap.size,3) (xI 0)).setCell (w.heap.size,4) xS).setCell (w.heap.size,5) xS).setCell (w.heap.size,6) (xI ps)).setCell (w.heap.size,7) (xI pd)).setCell (w.heap.size,8) (xI pt)).setCell (w.heap.size,9) (xI pn)).setCell (w.heap.size,10) (.string px))=W5 at*
  obtain⟨s0_,s1_,s2_,s3_,s4_,s5_,s6_,s7_,s8_,s9_,s10_⟩:=hs
  exact bodyPost_ret (v:=.tuple #[.agg #[xI k,xI 0,xS,xI 0,xS,xS,xI ps,xI pd,xI pt,xI pn,.string px],.bool false]) (by simp[results,Tryz.results36,go_sem,s0_,s1_,s2_,s3_,s4_,s5_,s6_,s7_,s8_,s9_,s10_]) rfl ⟨⟨⟨k,0,none,0,0,0,none,0,0,none,0,0,ps,pd,pt,pn,px⟩,_,rfl,fun h=>(by cases h),fun _=>by rw[HRK.out];exact if_neg HNT.out⟩,hbs⟩
theorem zet (k:Int)(v:Value)(xs:List Int)(w:World)(hv:Bs w v xs):Calls Tryz.prog 36 #[xI k,v] w (RetD w k xs):=by
 by_cases h1:k=1
 ·exact zlk k v xs w hv h1
 by_cases h2:k=2
 ·exact zk4 k v xs w hv h2
 by_cases h3:k=3
 ·exact zk5 k v xs w hv h3
 by_cases h4:k=4
 ·exact zlO k v xs w hv h4
 exact zlN k v xs w hv ⟨h1,h2,h3,h4⟩
theorem zgH {w:World}{S S' n n' size size':Nat}{e e':TypeId}{v v':Value}{xs xs':List Value}(h:w.ownsRow S e size v n xs)(h':w.ownsRow S' e' size' v' n' xs')(he:e≠e'):v.ownBlock=none∨v.ownBlock≠v'.ownBlock:=by
 rcases h.2 with ⟨rfl,_⟩|⟨g,cap,cur,rfl,_,hg,_⟩
 ·exact .inl rfl
 ·refine .inr ?_
  rcases h'.2 with ⟨rfl,_⟩|⟨g',cap',cur',rfl,_,hg',_⟩
  ·simp[Value.ownBlock]
  ·intro hh
   have e1:g=g':=by simpa [Value.ownBlock]using hh
   subst e1
   rw[hg]at hg'
   have:=Option.some.inj hg'
   simp only[Obj.cells.injEq]at this
   exact he this.2.1
theorem RPt.Ow.kept {w w':World}{S S' n:Nat}{r:RPt}{p:Pt}{v:Value}{xs:List Value}(h:r.Ow w S p)(hv:w.ownsRow S' 50 11 v n xs)(hg:w.grownBy w' v.ownBlock):r.Ow w' S p:=
 ⟨h.k,h.be,World.ownsRow.kept h.es hg (zgH h.es hv (by decide)),h.bn,h.os.kept hg (zgH h.os hv (by decide)),h.ks.kept hg (zgH h.ks hv (by decide)),h.s,h.d,h.t,h.n,h.x⟩
def PsOw (w:World)(S:Nat)(v:Value)(ps:List Pt):Prop:=∃rs:List RPt,rs.length=ps.length∧w.ownsRow S 50 11 v rs.length (zaA RP rs)∧∀i,i<ps.length→(rs.getD i zR).Ow w S (ps.getD i zPt)
theorem PsOw.own {w:World}{S:Nat}{v:Value}{ps:List Pt}(h:PsOw w S v ps):PsOwn w S v ps:=by
 obtain⟨rs,h1,h2,h3⟩:=h
 exact⟨rs,h1,h2,fun i hi=>(h3 i hi).rd⟩
theorem PsOw.ps {w:World}{S:Nat}{v:Value}{ps:List Pt}(h:PsOw w S v ps):Ps w v ps:=h.own.ps
theorem PsOw.below {w w':World}{S:Nat}{v:Value}{ps:List Pt}(h:PsOw w S v ps)(hb:Below w.heap.size w w'):PsOw w' S v ps:=by
 obtain⟨rs,h1,h2,h3⟩:=h
 exact⟨rs,h1,zae h2 hb,fun i hi=>(h3 i hi).below hb⟩
theorem PsOw.mono {w:World}{S S':Nat}{v:Value}{ps:List Pt}(h:PsOw w S v ps)(hS:S'≤S):PsOw w S' v ps:=by
 obtain⟨rs,h1,h2,h3⟩:=h
 exact⟨rs,h1,zas h2 hS,fun i hi=>(h3 i hi).mono hS⟩
theorem PsOw.apart {w:World}{S b:Nat}{u v:Value}{ps:List Pt}(h:PsOw w S v ps)(hb:b<S)(j:Nat):PsOw (w.setCell ⟨b,j,none⟩ u) S v ps:=by
 obtain⟨rs,h1,h2,h3⟩:=h
 exact⟨rs,h1,zbi h2 hb j,fun i hi=>(h3 i hi).apart hb j⟩
theorem PsOw.form {w:World}{S:Nat}{v:Value}{ps:List Pt}(h:PsOw w S v ps):∃a c,v=.slice a ps.length c:=h.ps.form
theorem zaW (w:World)(S:Nat):PsOw w S xS []:=⟨[],rfl,zat (R:=RP) w S,fun i hi=>by simp at hi⟩
theorem zi6 {ops:Array Oper}{rest:List Oper}{o:Oper}{a:Act}{Q:Exit→Act→World→Prop}{W:World}(hgd:o.guard=none)(s x:Operand)
  (ho:o.op=.call {callee:=.builtin .append,args:=#[s,x],argTypes:=#[22,22]}) (w:World) (r:RPt) (p:Pt) (hW:W=w.alloc (.cells r.cl.toArray 50)) (S:Nat) (v:Value) (ps:List Pt) (hr:r.Ow w S p)
  (hs:a.eval s=v) (hx:a.eval x=.slice (some (w.heap.size,0)) 1 1) (hown:PsOw w S v ps) (hl:ps.length≤3000) (hS:S≤w.heap.size)
  (h:∀g cap w',PsOw w' S (.slice (some (xQ g 0)) (ps.length+1) cap) (ps++[p])→Below S w w'→wpList Tryz.prog ops Q rest (a.put o.dst (.slice (some (xQ g 0)) (ps.length+1) cap)) w'):wpList Tryz.prog ops Q (o::rest) a W:=by
 subst hW
 obtain⟨rs,h1,h2,h3⟩:=hown
 have hb:Below S w (w.alloc (.cells (RP.cl r).toArray 50)):=(Below.refl S w).alloc hS _
 have hb0:Below w.heap.size w (w.alloc (.cells (RP.cl r).toArray 50)):=xr.alloc xl _
 have hown':(w.alloc (.cells (RP.cl r).toArray 50)).ownsRow S RP.T RP.K v rs.length (zaA RP rs):=zae h2 hb0
 obtain⟨g,cap,w',hrun,h4,h5,_⟩:=zej (R:=RP) (w.alloc (.cells (RP.cl r).toArray 50)) o.type S v rs hown' w.heap.size r (zcT RP w r _ rfl 50) (Nat.le_trans (Nat.le_of_eq h1) hl) (by simp;omega)
 refine wpList_plain hgd fun K hK=>?_
 unfold Oper.wp
 have he:=zbL (w:=w.alloc (.cells (RP.cl r).toArray 50)) ho hs hx hrun
 rw[show(RPt.cl r)=RP.cl r from rfl,he]
 have h1':List.length (α:=RP.α) rs=ps.length:=h1
 have hve:Value.slice (some (xQ g 0)) (List.length (α:=RP.α) rs+1) cap=.slice (some (xQ g 0)) (ps.length+1) cap:=by rw[h1']
 rw[hve]at h4 ⊢
 refine hK _ _ (h g cap w' ⟨rs++[r],by simp[h1],h4,fun i hi=>?_⟩ (hb.grown h5 (by simp;omega) (fun k hk=>(hown'.lt k hk).1)))
 by_cases hi2:i<ps.length
 ·rw[show(rs++[r]).getD i zR=rs.getD i zR by simp[List.getD,List.getElem?_append,h1,hi2],show(ps++[p]).getD i zPt=ps.getD i zPt by simp[List.getD,List.getElem?_append,hi2]]
  exact((h3 i hi2).below hb0).kept hown' h5
 ·have hi3:i=ps.length:=by simp at hi;omega
  subst hi3
  rw[show(rs++[r]).getD ps.length zR=r by simp[List.getD,h1],show(ps++[p]).getD ps.length zPt=p by simp[List.getD]]
  exact(hr.below hb0).kept hown' h5
end Go.Proofs.YtjghebcnmoojmaaGreat
